import PyProof.Rows.All
import Wide.All
import OpenK.AllK
import Wide.FinOn
import PyProof.EqAt
import PyProof.EqKinds
import PyProof.TupleCall
import KE.KIntText
import PyProof.Rows.ReprOcc
import PyProof.ExcInit
import PyProof.ExcClass2
import PyProof.InstStoreFacts
import PyProof.NsDelKeeps
import KE.KSortTup
import KE.KLam
import KE.KMinBuiltin
import PyProof.DictValues
import PyProof.ReprRoads
import KE.KDictList
import PyProof.AttrMissHeap
import KE.KDictOf
import PyProof.EnumMake
import PyProof.ZipIter
import PyProof.SumWalk
import PyProof.DictWalks
import PyProof.ListNew
import KE.KRevIter
import KE.KRevSl
import PyProof.Rows.SetFrom
import KE.KNest
import KE.KSort
import KE.KSortKey
import PySem.Challenge.RW_greywait_k79_no_house_and_forty
open List (all_cons all_eq_true any_cons append_nil contains_cons filterMap_cons filter_append filter_cons filter_eq_self filter_map filter_sublist find?_cons getD_eq_getElem?_getD getElem?_append_left getElem?_append_right getElem?_eq_getElem getElem?_eq_none getElem?_map getElem?_set_ne getElem_map getElem_mem getElem_of_mem length_append length_cons length_filter_le length_map length_nil length_range length_take lookup_cons map_append map_congr_left map_cons map_map map_zipWith mem_append mem_append_left mem_append_right mem_cons mem_cons_of_mem mem_cons_self mem_filter mem_map mem_of_getElem? mem_range mem_singleton nodup_cons not_mem_nil pairwise_cons range_succ range_succ_eq_map size_toArray take_length)
set_option Elab.async false
set_option linter.all false
set_option maxRecDepth 100000
namespace PySem.W.Fast
def tw10147513301214962188:=0
def tw10368528501218960065:=0
def tw10909718352262060340:=0
def tw11351913975168564516:=0
def tw1167939319647616316:=0
def tw11967669356765397505:=0
def tw12014898528073783488:=0
def tw12026429301994049995:=0
def tw12028263947614466464:=0
def tw12086673952255965855:=0
def tw12234217069165897203:=0
def tw12539090597608128263:=0
def tw12881580408410186416:=0
def tw12963723127419343774:=0
def tw1308785307897232110:=0
def tw13101440021425852086:=0
def tw13101934289899305404:=0
def tw13232091344992567071:=0
def tw13362456099050014518:=0
def tw1352389436425876861:=0
def tw13704631915607493281:=0
def tw13916545199533505790:=0
def tw13952603932938659375:=0
def tw13979732874657938496:=0
def tw14127355097357842381:=0
def tw14321339466181488721:=0
def tw1450767174857900670:=0
def tw149302554295072382:=0
def tw15122756839100890333:=0
def tw1524422406937543911:=0
def tw1535049697431761116:=0
def tw15350882736743379174:=0
def tw15507558581203176478:=0
def tw15814581774961432306:=0
def tw15872336200927727288:=0
def tw15891031242427983137:=0
def tw1599165249733196521:=0
def tw16026626125271369534:=0
def tw16045785102897380291:=0
def tw16677006740261354445:=0
def tw17121325081488119358:=0
def tw17729131288298291728:=0
def tw1785565266434877537:=0
def tw17892000452516691148:=0
def tw1800575347660893632:=0
def tw18059402784506759493:=0
def tw18119128708767658167:=0
def tw18386270622153948312:=0
def tw18391852445924595228:=0
def tw1932842332745905186:=0
def tw2257252661447583042:=0
def tw2554506697160157277:=0
def tw2615155983340236600:=0
def tw305504904977078621:=0
def tw3110304197759043369:=0
def tw31584065056774793:=0
def tw3533157896995025457:=0
def tw3561466837862863670:=0
def tw3606631755324092282:=0
def tw391584892679231614:=0
def tw4288833403519736831:=0
def tw4346160726576147698:=0
def tw4680913491817411607:=0
def tw4908947895667186410:=0
def tw5147167364197921034:=0
def tw532434588321370575:=0
def tw5528570388601129969:=0
def tw5844559505366645783:=0
def tw6220321668287088221:=0
def tw6541616314733579018:=0
def tw6542955599988240309:=0
def tw7025503414440812391:=0
def tw703342973320723851:=0
def tw7310587986813776244:=0
def tw7442876207210569918:=0
def tw7547116224368741555:=0
def tw7595423826158017426:=0
def tw759898950232946224:=0
def tw7825591061907828043:=0
def tw7933560027584215921:=0
def tw802512002070343103:=0
def tw8056743769066339265:=0
def tw8091464772427702450:=0
def tw8134825178975356247:=0
def tw8554784009288404771:=0
def tw8579295553354949186:=0
def tw8781064333321402505:=0
def tw8803683757093313003:=0
def tw8948869955865784882:=0
def tw9192368642527344024:=0
def tw973302712831257241:=0
def tw9935903232682480423:=0
def tw10362848941211358744:=0
def tw17777084846022861211:=0
def tw10828695408457879766:=0
def tw15851475612805701798:=0
def tw16186323483519787866:=0
def tw8171807227812484485:=0
def tw6841529271633553085:=0
def tw2205843124685720700:=0
def tw3911135843985690926:=0
def tw16325668905596159586:=0
def tw11958127221391182501:=0
def tw13514986299700628411:=0
def tw12786389450733623878:=0
def tw5471028502236717313:=0
def tw666147240991214802:=0
def tw13063963183601633293:=0
def tw16560456410262429268:=0
def tw354669190475043337:=0
def tw6359817015436626517:=0
def tw16649814862661754433:=0
def tw8003914975950639096:=0
def tw2005303999948421600:=0
def tw17401293730492248716:=0
def tw15115117496449627038:=0
def tw17299909548612177522:=0
def tw4004694005858318540:=0
def tw8010094821229564613:=0
def tw9689589754208497670:=0
def tw12922954878389380222:=0
def tw844741105871659972:=0
def tw10939442871255972963:=0
def tw8063347452897152403:=0
def tw11929401958303113020:=0
def tw7602488555702127445:=0
def tw5157140276866869633:=0
def tw2570207668932520251:=0
def tw12515561210198499340:=0
def tw4202999198704940776:=0
def tw2097824792010436664:=0
def tw1579362687171746020:=0
def tw3659881810277220595:=0
def tw14313227312448585703:=0
def tw6108734567022212755:=0
def tw16514066208706159693:=0
def tw908142386206088770:=0
def tw1572354923453867783:=0
def tw3307711058085185204:=0
def tw4852195592223209131:=0
def tw2911604901808621344:=0
def tw5094675883967938018:=0
def tw526334754822461077:=0
def tw6943902069216470655:=0
def tw8490363918614402529:=0
def tw15407661211949998510:=0
def tw10809915943012717420:=0
def tw9949525259374237258:=0
def tw8031630028506293329:=0
def tw5141384380013280762:=0
def tw8093108819172695813:=0
def tw8611209884247532717:=0
def tw9989987050744840489:=0
def tw16149438230763210333:=0
def tw1863322409456177582:=0
def tw14020435997398257652:=0
def tw15365603974421522199:=0
def tw10788311491699217422:=0
def tw1538266061772708174:=0
def tw15036608708073543739:=0
def tw1249962200900779271:=0
def tw9775932342188434347:=0
def tw12152537974582367675:=0
def tw17984802957828097935:=0
def tw12414055567964247335:=0
def tw12913095130352170980:=0
def tw4069762900828124493:=0
def tw12839625694208144842:=0
def tw340186989791652337:=0
def tw4562159820052444802:=0
def tw6217715832571528686:=0
def tw11682209893131088674:=0
def tw10240131777846859447:=0
def tw5257759317498008364:=0
def tw8143883033761542732:=0
def tw11582943335061799375:=0
def tw14233561208386613883:=0
def tw4380707233808602972:=0
def tw12890402127554798057:=0
def tw7473967283920070884:=0
def tw10117403236698993422:=0
def tw4635547617195413055:=0
def tw577441846388960280:=0
def tw3737073853966723615:=0
def tw7461820136274549757:=0
def tw3983996404306891545:=0
def tw709100537606545965:=0
def tw6647121873195961228:=0
def tw8113164343310211171:=0
def tw4094841974427772977:=0
def tw16765166670578793771:=0
def tw6870855328963894706:=0
def tw2391411289122144037:=0
def tw1621076804141120995:=0
def tw11419500170005170424:=0
def tw3952154689625658325:=0
def tw11431098872907015195:=0
def tw7978254569235647490:=0
def tw11149194717066407901:=0
def tw208222772112819715:=0
def tw6096426792754919325:=0
def tw1240724486634426509:=0
def tw4899119553449368056:=0
def tw12805152191714000514:=0
def tw261313551950705031:=0
def tw11172822855312968755:=0
def tw13998289152671531166:=0
def tw17175841279463775940:=0
def tw6350552531536615700:=0
def tw13040409448586808884:=0
def tw17627855545112555257:=0
def tw8652082863521144874:=0
def tw3812581470386558134:=0
def tw6963674744935361068:=0
def tw17075257221419183876:=0
def tw15962418360137494081:=0
def tw3587428851488360318:=0
def tw4079342342590865056:=0
def tw4798540069147951932:=0
def tw7221443893469996168:=0
def tw8393862170357290933:=0
def tw1025775354344290906:=0
def tw13623116631829585866:=0
def tw4771555090924941422:=0
def tw15397398527585931272:=0
def tw12653809275518479808:=0
def tw3885356374645593575:=0
def tw17796986411378478512:=0
def tw14310712317837195603:=0
def tw2567129760383919692:=0
def tw14116231650704251425:=0
def tw14456561309269755044:=0
def tw7294491697935680446:=0
def tw16750477332748765997:=0
def tw16891182000690258847:=0
def tw3808163800814036608:=0
def tw9798480950169652181:=0
def tw11146088467523836057:=0
def tw1522664743681699050:=0
def tw3004353361136717482:=0
def tw9480431121182334186:=0
def tw13386552542414089042:=0
def tw5944684019015491326:=0
def tw2717725034373441176:=0
def tw15666842880177328989:=0
def tw2709486616009481602:=0
def tw13760857850177966851:=0
def tw6224989266841537612:=0
def tw6610937327522580892:=0
def tw16966575230661357886:=0
def tw12991007522337377738:=0
def tw13592482424488326826:=0
def tw5477077771590925:=0
def tw192247947499545548:=0
def tw8013557857086974295:=0
def tw14494197909733089859:=0
def tw12362657893766812844:=0
def tw8819683072433748426:=0
def tw3102838955039593022:=0
def tw14576593396111103148:=0
def tw17010002650659632185:=0
def tw17244827725249322477:=0
def tw1744531058077714686:=0
def tw10744228724101239678:=0
def tw5070312334442410368:=0
def tw12300208484978463889:=0
def tw14756769408985638697:=0
def tw908225230136302409:=0
def tw5439307078918997856:=0
def tw11712742576025719330:=0
def tw5797190436345627390:=0
def tw2791251334555983203:=0
def tw8298690089204553088:=0
def tw3688545734113691554:=0
def tw13296268165786941923:=0
def tw11777889245282974107:=0
def tw7825113661941183788:=0
def tw14288116534637590583:=0
def tw10042786998527605757:=0
def tw12109724101942860007:=0
def tw17391054176490208901:=0
def tw63466834955524932:=0
def tw14237458618592479609:=0
def tw6551016381820275459:=0
def tw17936871303657244258:=0
def tw115313305364646315:=0
def tw2337309094267200250:=0
def tw6044334099406586372:=0
def tw14138269362990031048:=0
def tw17710468598375301384:=0
def tw14112112497700818988:=0
def tw11937478981123054636:=0
def tw1363968967387162205:=0
def tw11564632996311432005:=0
def tw9879296019689224908:=0
def tw13677691882435894737:=0
def tw16910952634206888170:=0
def tw2458333628966706220:=0
def tw12271090424696130350:=0
def tw583339401586978001:=0
def tw13236490882959460120:=0
def tw5967912829379267168:=0
def tw15071015520657415583:=0
def tw18391027177181855958:=0
def tw6168735407095174405:=0
def tw7914591723907587413:=0
def tw65508687185224735:=0
def tw3061694028850253667:=0
def tw6168565789266698189:=0
def tw14228139286006101892:=0
def tw13266929301884874345:=0
def tw10321086258473284341:=0
def tw10826520274161690432:=0
def tw17825570573728749525:=0
def tw17180166560898569429:=0
def tw9673909036856738222:=0
def tw13290330259740476655:=0
def tw5084515826960585931:=0
def tw10904579391546414154:=0
def tw9790969113094722630:=0
def tw9851281215209744864:=0
def tw5958608721743705686:=0
def tw15260549969922530646:=0
def tw5551262879984130868:=0
def tw2821241766931691801:=0
def tw14174344494982740569:=0
def tw8039943127314989662:=0
def tw3965092453160284638:=0
def tw9471190527413280933:=0
def tw6317313596562976889:=0
def tw10971473315482913840:=0
def tw12925273324539276293:=0
def tw2685630488631902061:=0
def tw12277162268883099179:=0
def tw13951248901332882641:=0
def tw8284334247948972600:=0
def tw15600460017434746368:=0
def tw11227429176081189465:=0
def tw17656694052831892696:=0
def tw3757814950052410767:=0
def tw9985041840452174557:=0
def tw6075493886342593510:=0
def tw8726667798399361292:=0
def tw1060771848770798449:=0
def tw866506384470431591:=0
def tw9883790111370188495:=0
def tw15382329615777571019:=0
def tw2385739257291825662:=0
def tw16246389500263517782:=0
def tw1199863452757560216:=0
def tw15467103644180593000:=0
def tw7474966710427048608:=0
def tw12019943430153466441:=0
def tw13883113087503926649:=0
def tw10596153139352562143:=0
def tw2647645157899039217:=0
def tw15747451733336892287:=0
def tw16423951248513067139:=0
def tw5386538604535641800:=0
def tw10576541724041120489:=0
def tw10609637371335347133:=0
def tw10341611891701141508:=0
def tw14574274167397194038:=0
def tw6908583496218458497:=0
def tw12992808967613394746:=0
def tw8135969731354227022:=0
def tw12601194103475670848:=0
def tw3055771152956568173:=0
def tw6191477810528004316:=0
def tw17444165103096551093:=0
def tw12820413789841873628:=0
def tw12940097994626822338:=0
def tw2654131336058021186:=0
def tw12685867501104933863:=0
def tw14963156874975764571:=0
def tw1090056961037266591:=0
def tw15257342503175267517:=0
def tw15151277732721379121:=0
def tw14521663957927765975:=0
def tw6297719438868513906:=0
def tw2689745568672353619:=0
def tw14146791333830602804:=0
def tw13917585765175867547:=0
def tw7326950903627006035:=0
def tw157478792053782920:=0
def tw2770640820326884725:=0
def tw1062692173790377825:=0
def tw11938724257393724807:=0
def tw7351725089266607531:=0
def tw14129567284645398229:=0
def tw11341435783879555824:=0
def tw7558181352506723352:=0
end PySem.W.Fast
open PySem PySem.W PyProof.Rows in
set_option maxRecDepth 100000 in
set_option maxHeartbeats 0 in
open_top K79hd for PySem.Challenge.rw_greywait_k79_no_house_and_forty
namespace L2
open PySem PySem.Spec PyProof.Rows
section
abbrev Key:=Sum Int Str
def zjx:Key->Value->Bool
 | .inl k,v=>Value.isInt k v
 | .inr x,v=>Value.isStrOf x v
def keyH (w:World):Key->Int
 | .inl k=>hashInt k
 | .inr x=>hashStr w x
theorem zaY:∀ {k:Key} {v:Value},zjx k v=true->(∃i t,k=Sum.inl i/\v=Value.int i t)\/(∃x t,k=Sum.inr x/\v=Value.str x t)
 | .inl i,v,h=>by
   obtain ⟨t,e⟩:=Value.isInt_shape (k:=i) (v:=v) h
   exact .inl ⟨i,t,rfl,e⟩
 | .inr x,v,h=>by
   obtain ⟨t,e⟩:=Value.isStrOf_shape (x:=x) (v:=v) h
   exact .inr ⟨x,t,rfl,e⟩
theorem zl2 (i:Int) (t:Tok):zjx (.inl i) (.int i t)=true:=by simp [zjx,Value.isInt]
theorem zl3 (x:Str) (t:Tok):zjx (.inr x) (.str x t)=true:=by simp [zjx,Value.isStrOf]
theorem zrf (a b:Int):decide ((Sum.inl a:Key)=Sum.inl b)=(a==b):=by
 by_cases e:a=b
 ·subst e;simp
 ·have h:¬(Sum.inl a:Key)=Sum.inl b:=fun q=>e (Sum.inl.inj q)
  rw [decide_eq_false h]
  exact (beq_eq_false_iff_ne.mpr e).symm
theorem zrg (a b:Str):decide ((Sum.inr a:Key)=Sum.inr b)=decide (a=b):=by
 by_cases e:a=b
 ·subst e;simp
 ·have h:¬(Sum.inr a:Key)=Sum.inr b:=fun q=>e (Sum.inr.inj q)
  rw [decide_eq_false h,decide_eq_false e]
theorem zrh (a:Int) (b:Str):decide ((Sum.inl a:Key)=Sum.inr b)=false:=decide_eq_false (fun q=>nomatch q)
theorem zri (a:Str) (b:Int):decide ((Sum.inr a:Key)=Sum.inl b)=false:=decide_eq_false (fun q=>nomatch q)
def zaP (prog:Program) (w:World):PySem.KeyKind prog w Key where
 is:=zjx
 hash:=keyH w
 inj:=fun v a b ha hb=>by
  rcases zaY ha with ⟨i,t,rfl,rfl⟩ | ⟨x,t,rfl,rfl⟩
  ·rcases zaY hb with ⟨j,u,rfl,e⟩ | ⟨y,u,rfl,e⟩
   ·injection e with e1 _;rw [e1]
   ·exact nomatch e
  ·rcases zaY hb with ⟨j,u,rfl,e⟩ | ⟨y,u,rfl,e⟩
   ·exact nomatch e
   ·injection e with e1 _;rw [e1]
 byValue:=fun k v h=>by
  rcases zaY h with ⟨i,t,rfl,rfl⟩ | ⟨x,t,rfl,rfl⟩<;>rfl
 pyHash:=fun hv h=>by
  rcases zaY hv with ⟨i,t,rfl,rfl⟩ | ⟨x,t,rfl,rfl⟩
  ·exact wpAny_pyHash_int h
  ·exact wpAny_pyHash_str h
 eqBool:=fun hu hv h=>by
  rcases zaY hu with ⟨i,t,rfl,rfl⟩ | ⟨x,t,rfl,rfl⟩
  ·rcases zaY hv with ⟨j,u,rfl,rfl⟩ | ⟨y,u,rfl,rfl⟩
   ·rw [zrf] at h;exact wpAny_eqBool_int h
   ·rw [zrh] at h;exact SeqAt.EqAt.int_str i t y u _ _ _ _ h
  ·rcases zaY hv with ⟨j,u,rfl,rfl⟩ | ⟨y,u,rfl,rfl⟩
   ·rw [zri] at h;exact SeqAt.EqAt.str_int x t j u _ _ _ _ h
   ·rw [zrg] at h;exact wpAny_eqBool_str h
 «strs» := fun k x t v h=>by
  rcases zaY h with ⟨i,u,rfl,e⟩ | ⟨y,u,rfl,e⟩
  ·exact nomatch e
  ·injection e with e1 _
   subst e1
   cases v<;>rfl
theorem zhi (prog:Program) (w:World) (k:Key) (v:Value):(zaP prog w).is k v=zjx k v:=rfl
theorem zjy (prog:Program) (w:World) (i:Int) (t:Tok):(zaP prog w).is (.inl i) (.int i t)=true:=zl2 i t
theorem zjz (prog:Program) (w:World) (x:Str) (t:Tok):(zaP prog w).is (.inr x) (.str x t)=true:=zl3 x t
end
section
inductive V where
 | non | bl (b:Bool) | int (i:Int) | str (x:Str) | byt (b:Array UInt8) | flt (b:UInt64) | ref (a:Addr) | ty (n:String)
 deriving DecidableEq
def RelV:V->Value->Prop
 | .non,u=>u=Value.none
 | .bl b,u=>u=Value.bool b
 | .int i,u=>∃t,u=Value.int i t
 | .str x,u=>∃t,u=Value.str x t
 | .byt b,u=>∃t,u=Value.bytes b t
 | .flt b,u=>∃t,u=Value.float b t
 | .ref a,u=>u=Value.ref a
 | .ty n,u=>u=Value.type n
abbrev Vals:List V->List Value->Prop:=Paired RelV
theorem Vals.length {xs:List V} {us:List Value} (r:Vals xs us):xs.length=us.length:=Paired.length r
theorem Vals.get:∀ {xs:List V} {us:List Value} {i:Nat} {x:V},Vals xs us->xs[i]?=some x->∃u,us[i]?=some u/\RelV x u
 | _,_,_,_,.nil,e=>by simp at e
 | _,_,0,_,.cons r _,e=>by simp at e;subst e;exact ⟨_,rfl,r⟩
 | _,_,i+1,x,.cons _ t,e=>by
   obtain ⟨u,h1,h2⟩:=Vals.get (i:=i) (x:=x) t (by simpa using e)
   exact ⟨u,by simpa using h1,h2⟩
theorem Vals.set {x:V} {u:Value} (r:RelV x u):∀ {xs:List V} {us:List Value} (i:Nat),Vals xs us->Vals (xs.set i x) (us.set i u)
 | _,_,_,.nil=>.nil
 | _,_,0,.cons _ t=>.cons r t
 | _,_,i+1,.cons q t=>.cons q (Vals.set r i t)
theorem Vals.append:∀ {xs ys:List V} {us ws:List Value},Vals xs us->Vals ys ws->Vals (xs++ys) (us++ws)
 | _,_,_,_,.nil,s=>s
 | _,_,_,_,.cons r t,s=>.cons r (Vals.append t s)
theorem Vals.take:∀ {xs:List V} {us:List Value} (n:Nat),Vals xs us->Vals (xs.take n) (us.take n)
 | _,_,0,_=>.nil
 | _,_,_+1,.nil=>.nil
 | _,_,n+1,.cons r t=>.cons r (Vals.take n t)
theorem Vals.drop:∀ {xs:List V} {us:List Value} (n:Nat),Vals xs us->Vals (xs.drop n) (us.drop n)
 | _,_,0,r=>r
 | _,_,_+1,.nil=>.nil
 | _,_,n+1,.cons _ t=>Vals.drop n t
def RelO:Option V->Option Value->Prop
 | some v,some u=>RelV v u
 | none,none=>True
 | _,_=>False
def KV {κ:Type}:List (κ × V)->List (κ × Value)->Prop:=Paired fun (p : κ × V) (q : κ × Value)=>p.1=q.1/\RelV p.2 q.2
def kV:Key->V
 | .inl i=>.int i
 | .inr x=>.str x
inductive HO where
 | lst (xs:List V)
 | tup (xs:List V)
 | dK (kvs:List (Key × V)) | dT (kvs:List (List Key × V))
 | set (S:Int->Bool) (n:Nat)
 | ins (C dx:Addr) (fs:List (Str × V))
 | own (x:Addr)
 | xd (fs:List (Str × V))
 | met (f x:Addr)
 | rng (lo hi:Int)
 | frz (o:Obj) (u:HO)
 | tbl (lp:Pos) (lq:Str)
 | ext (φ:Heap->Prop)
abbrev Hp:=Addr->Option HO
def upd (H:Hp) (a:Addr) (o:HO):Hp:=fun b=>if b=a then some o else H b
theorem zam {H:Hp} {a:Addr} {o:HO}:upd H a o a=some o:=by unfold upd;rw [if_pos rfl]
theorem zah {H:Hp} {a b:Addr} {o:HO} (h:b≠a):upd H a o b=H b:=by unfold upd;rw [if_neg h]
theorem zjA {H:Hp} {a:Addr} {o u:HO}:upd (upd H a o) a u=upd H a u:=by
 funext b;unfold upd;split<;>rfl
theorem zlg {H:Hp} {a b:Addr} {o u:HO} (h:H a=some o) (h':H b=some u) (d:o≠u):a≠b:=by
 intro e;subst e;rw [h] at h';exact d (Option.some.inj h')
theorem zaj {H:Hp} {a b:Addr} {o:HO} (h:H a=some o) (h':H b=none):a≠b:=by
 intro e;subst e;rw [h] at h';cases h'
section
variable (P:Program) (w:World)
def zaU (H:Hp) (h:Heap) (a:Addr):HO->Prop
 | .lst xs=>xs.length<=sizeLine/\∃(its:List Value) (n:Nat),Vals xs its/\h.get? a=some { cls:=.type "list",data:=.seq its.toArray n }
 | .tup xs=>xs.length<=sizeLine/\∃its:List Value,Vals xs its/\IsTup h a its.toArray
 | .dK kvs=>kvs.length<=sizeLine/\(a==sysModules)=false/\∃vs,KV kvs vs/\h.DictOf (zaP P w) a vs
 | .dT kvs=>kvs.length<=sizeLine/\(a==sysModules)=false/\∃xs:List (List Key × Addr × Value),
    Paired (fun (p:List Key × V) (q:List Key × Addr × Value)=>p.1=q.1/\H q.2.1=some (.tup (p.1.map kV))/\RelV p.2 q.2.2) kvs xs/\
    ∃o es ep,h.get? a=some o/\o.ExactDict/\o.data=.dict es ep/\es.toList=xs.map (entryOfKey (tupleKind (zaP P w)))/\(xs.map (·.1)).Nodup
 | .set S n=>h.SetOf (intKind P w) a S n
 | .ins C dx fs=>H dx=some (.own a)/\fs.length<=1000/\dx≠a/\h.get? a=some (W.instObj C dx)/\
    ∃mA,h.Ns1 dx mA/\(∀f,RelO (fs.lookup f) (mA f))/\PySem.Within mA (fs.map (·.1))
 | .own _=>∃o,h.get? a=some o
 | .xd fs=>∃mA,h.Ns1 a mA/\∀f,RelO (fs.lookup f) (mA f)
 | .rng lo hi=>∃t u v,h.get? a=some { cls:=.type "range",data:=.fields #[.int lo t,.int hi u,.int 1 v] }
 | .frz o u=>h.get? a=some o/\zaU H h a u
 | .tbl lp lq=>∃vs:Array Value,h.get? a=some { cls:=.none,data:=.fields vs }/\TriplesOk vs.toList/\(codeAmong lp vs.toList=none\/∃c oc us t,codeAmong lp vs.toList=some (.ref c)/\H c=some (.frz oc (.own c))/\oc.data=.fields us/\us[1]?=some (.str lq t))
 | .met f x=>h.get? a=some (W.methodObj (.ref f) (.ref x))
 | .ext φ => φ h/\(∃o,h.get? a=some o)/\∀h1 h2:Heap,φ h1->(∀o,h1.get? a=some o->h2.get? a=some o) -> φ h2
def HOk (H:Hp) (h:Heap):Prop:=∀a o,H a=some o->zaU P w H h a o
end
section
variable {P:Program} {w:World} {H H':Hp} {h h':Heap} {a:Addr} {o:HO}
theorem zaU.lt (x:zaU P w H h a o):a<h.objs.size:=by
 cases o with
 | lst xs=>obtain ⟨_,_,_,_,e⟩:=x;exact Heap.lt_size e
 | tup xs=>obtain ⟨_,_,_,p⟩:=x;exact p.lt
 | dK kvs=>obtain ⟨_,_,_,_,o,_,_,e,_⟩:=x;exact Heap.lt_size e
 | dT kvs=>obtain ⟨_,_,_,_,o,_,_,e,_⟩:=x;exact Heap.lt_size e
 | set S n=>obtain ⟨o,_,_,_,e,_⟩:=x;exact Heap.lt_size e
 | ins C dx fs=>obtain ⟨_,_,_,e,_⟩:=x;exact Heap.lt_size e
 | own y=>obtain ⟨_,e⟩:=x;exact Heap.lt_size e
 | xd fs=>obtain ⟨_,⟨_,_,_,e,_⟩,_⟩:=x;exact Heap.lt_size e
 | rng lo hi=>obtain ⟨_,_,_,e⟩:=x;exact Heap.lt_size e
 | frz ob u=>obtain ⟨e,_⟩:=x;exact Heap.lt_size e
 | tbl lp lq=>obtain ⟨_,e,_⟩:=x;exact Heap.lt_size e
 | met f y=>exact Heap.lt_size (show h.get? a=some _ from x)
 | ext φ=>obtain ⟨_,⟨_,e⟩,_⟩:=x;exact Heap.lt_size e
theorem Paired.mapP {α β:Type} {F G : α -> β->Prop}:∀ {l₁:List α} {l₂:List β},Paired F l₁ l₂->(∀a b,F a b->G a b)->Paired G l₁ l₂
 | _,_,.nil,_=>.nil
 | _,_,.cons r t,f=>.cons (f _ _ r) (Paired.mapP t f)
theorem zaU.stay (x:zaU P w H h a o) (k:∀b u,(b=a\/H b=some (.own a))->h.get? b=some u->h'.get? b=some u)
  (ho:∀b,H b=some (.own a)->H' b=some (.own a)) (ht:∀b xs,H b=some (.tup xs)->H' b=some (.tup xs)) (hz:∀b ob u,H b=some (.frz ob u)->H' b=some (.frz ob u)):zaU P w H' h' a o:=by
 induction o with
 | lst xs=>obtain ⟨z,its,n,r,e⟩:=x;exact ⟨z,its,n,r,k _ _ (.inl rfl) e⟩
 | tup xs=>obtain ⟨z,its,r,ob,e,c⟩:=x;exact ⟨z,its,r,ob,k _ _ (.inl rfl) e,c⟩
 | dK kvs=>obtain ⟨z,y,vs,r,ob,es,ep,e,c⟩:=x;exact ⟨z,y,vs,r,ob,es,ep,k _ _ (.inl rfl) e,c⟩
 | dT kvs=>
   obtain ⟨z,y,xs,r,ob,es,ep,e,c⟩:=x
   exact ⟨z,y,xs,Paired.mapP r fun p q z=>⟨z.1,ht _ _ z.2.1,z.2.2⟩,ob,es,ep,k _ _ (.inl rfl) e,c⟩
 | set S n=>obtain ⟨ob,es,ep,t,e,c⟩:=x;exact ⟨ob,es,ep,t,k _ _ (.inl rfl) e,c⟩
 | ins C dx fs=>
   obtain ⟨d,z,ne,e,mA,⟨od,es,ep,e2,c⟩,r⟩:=x
   exact ⟨ho _ d,z,ne,k _ _ (.inl rfl) e,mA,⟨od,es,ep,k _ _ (.inr d) e2,c⟩,r⟩
 | own y=>obtain ⟨ob,e⟩:=x;exact ⟨ob,k _ _ (.inl rfl) e⟩
 | xd fs=>obtain ⟨mA,⟨od,es,ep,e,c⟩,r⟩:=x;exact ⟨mA,⟨od,es,ep,k _ _ (.inl rfl) e,c⟩,r⟩
 | rng lo hi=>obtain ⟨t,u,v,e⟩:=x;exact ⟨t,u,v,k _ _ (.inl rfl) e⟩
 | frz ob u ih=>obtain ⟨e,q⟩:=x;exact ⟨k _ _ (.inl rfl) e,ih q⟩
 | tbl lp lq=>
   obtain ⟨vs,e,tr,r⟩:=x
   exact ⟨vs,k a _ (.inl rfl) e,tr,r.imp id fun ⟨c,oc,us,t,e1,e2,e3⟩=>⟨c,oc,us,t,e1,hz _ _ _ e2,e3⟩⟩
 | met f y=>
   have e:h.get? a=some (W.methodObj (.ref f) (.ref y)):=x
   show h'.get? a=some (W.methodObj (.ref f) (.ref y))
   exact k a _ (.inl rfl) e
 | ext φ=>obtain ⟨p,⟨o,e⟩,st⟩:=x;exact ⟨st _ _ p fun o q=>k _ _ (.inl rfl) q,⟨o,k _ _ (.inl rfl) e⟩,st⟩
theorem HOk.lt (x:HOk P w H h) (e:H a=some o):a<h.objs.size:=(x a o e).lt
theorem HOk.fresh (x:HOk P w H h) (e:h.objs.size<=a):H a=none:=by
 cases q:H a with
 | none=>rfl
 | some u=>exact absurd (Nat.lt_of_lt_of_le (x.lt q) e) (Nat.lt_irrefl _)
theorem HOk.kept (x:HOk P w H h) (k:∀b u,h.get? b=some u->h'.get? b=some u):HOk P w H h':=fun a o e=>
 (x a o e).stay (fun b u _ q=>k b u q) (fun _ q=>q) (fun _ _ q=>q) fun _ _ _ q=>q
theorem HOk.laid (x:HOk P w H h) (k:∀b u,h.get? b=some u->h'.get? b=some u) (hp:h.objs.size<=a) (new:zaU P w (upd H a o) h' a o):HOk P w (upd H a o) h':=fun b u e=>by
 have hn:=x.fresh hp
 by_cases hb:b=a
 ·subst hb;rw [zam] at e;cases e;exact new
 ·rw [zah hb] at e
  exact (x b u e).stay (fun c v _ q=>k c v q) (fun c q=>by rw [zah (zaj q hn)];exact q) (fun c xs q=>by rw [zah (zaj q hn)];exact q) fun c ob xs q=>by rw [zah (zaj q hn)];exact q
end
def Rd (H:Hp) (a:Addr) (u:HO):Prop:=H a=some u\/∃o,H a=some (.frz o u)
theorem Rd.ok {P:Program} {w:World} {H:Hp} {h:Heap} {a:Addr} {u:HO} (r:Rd H a u) (x:HOk P w H h):zaU P w H h a u:=by
 rcases r with r | ⟨o,r⟩
 ·exact x a u r
 ·obtain ⟨_,q⟩:=x a _ r
  exact q
def Mut:Option HO->Prop
 | some (.lst _)=>True
 | some (.dK _)=>True
 | some (.dT _)=>True
 | some (.set _ _)=>True
 | some (.ins _ _ _)=>True
 | some (.ext _)=>True
 | _=>False
section
variable {P:Program} {w:World} {H:Hp} {h h':Heap} {x e:Addr} {o':HO}
theorem HOk.write (ok:HOk P w H h) (mu:Mut (H x)) (he:e=x\/H e=some (.own x)) (k:∀b u,b≠e->h.get? b=some u->h'.get? b=some u) (heo:∃u,h'.get? e=some u)
  (new:zaU P w (upd H x o') h' x o'):HOk P w (upd H x o') h':=fun b u q=>by
 have nown:∀c y,H c=some (.own y)->c≠x:=fun c y r z=>by subst z;rw [r] at mu;exact mu
 have ntup:∀c xs,H c=some (.tup xs)->c≠x:=fun c xs r z=>by subst z;rw [r] at mu;exact mu
 have nfrz:∀c ob xs,H c=some (.frz ob xs)->c≠x:=fun c ob xs r z=>by subst z;rw [r] at mu;exact mu
 by_cases hb:b=x
 ·subst hb;rw [zam] at q;cases q;exact new
 ·rw [zah hb] at q
  by_cases hbe:b=e
  ·have q':H b=some (.own x):=by
    rcases he with z | z
    ·exact absurd (hbe.trans z) hb
    ·rw [hbe];exact z
   rw [q] at q';cases q'
   obtain ⟨v,hv⟩:=heo
   exact ⟨v,by rw [hbe];exact hv⟩
  ·refine (ok b u q).stay (fun c v hc r=>k c v ?_ r) (fun c r=>by rw [zah (nown c b r)];exact r) (fun c xs r=>by rw [zah (ntup c xs r)];exact r) fun c ob xs r=>by rw [zah (nfrz c ob xs r)];exact r
   rcases hc with rfl | hc
   ·exact hbe
   ·rintro rfl
    rcases he with z | z
    ·exact nown c b hc z
    ·rw [hc] at z;cases z;exact hb rfl
end
structure Un (fs ex:List Addr) (H H':Hp) (h h':Heap):Prop where
 keep:∀b o,h.get? b=some o->H b=none->b∉fs->b∉ex->h'.get? b=some o
 slot:∀b o,h.get? b=some o->H b=none->b∈fs->b∉ex->∃sl,h'.get? b=some { o with slots:=sl }
 free:∀b o,h.get? b=some o->H b=none->b∉ex->H' b=none
 there:∀b o,h.get? b=some o->b∉ex->∃o',h'.get? b=some o'
 tups:∀b xs,H b=some (.tup xs)->H' b=some (.tup xs)
 frzs:∀b o u,H b=some (.frz o u)->H' b=some (.frz o u)
 tbls:∀b lp lq,H b=some (.tbl lp lq)->H' b=some (.tbl lp lq)
section
variable {fs fs' ex ex':List Addr} {H H1 H2:Hp} {h h1 h2 h':Heap} {a x e:Addr} {o:HO}
theorem Un.any (u:Un fs ex H H1 h h1) {b:Addr} {ob:Obj} (q:h.get? b=some ob) (n:H b=none) (hx:b∉ex):∃sl,h1.get? b=some { ob with slots:=sl }:=by
 by_cases hb:b∈fs
 ·exact u.slot b ob q n hb hx
 ·exact ⟨ob.slots,u.keep b ob q n hb hx⟩
theorem Un.kept (k:∀b u,h.get? b=some u->h'.get? b=some u):Un fs ex H H h h':=
 ⟨fun b ob q _ _ _=>k b ob q,fun b ob q _ _ _=>⟨ob.slots,k b ob q⟩,fun _ _ _ n _=>n,fun b ob q _=>⟨ob,k b ob q⟩,fun _ _ q=>q,fun _ _ _ q=>q,fun _ _ _ q=>q⟩
theorem Un.refl:Un fs ex H H h h:=Un.kept fun _ _ q=>q
theorem Un.laid (k:∀b u,h.get? b=some u->h'.get? b=some u) (hp:h.objs.size<=a) (hn:H a=none):Un fs ex H (upd H a o) h h' where
 keep:=fun b u q _ _ _=>k b u q
 slot:=fun b u q _ _ _=>⟨u.slots,k b u q⟩
 free:=fun b u q n _=>by rw [zah (Nat.ne_of_lt (Nat.lt_of_lt_of_le (Heap.lt_size q) hp))];exact n
 there:=fun b u q _=>⟨u,k b u q⟩
 tups:=fun b xs q=>by rw [zah (zaj q hn)];exact q
 frzs:=fun b u xs q=>by rw [zah (zaj q hn)];exact q
 tbls:=fun b lp lq q=>by rw [zah (zaj q hn)];exact q
theorem Un.write (mu:Mut (H x)) (he:e=x\/H e=some (.own x)) (k:∀b u,b≠e->h.get? b=some u->h'.get? b=some u) (heo:∃u,h'.get? e=some u):Un fs ex H (upd H x o) h h':=by
 have hx:∀b,H b=none->b≠x:=fun b n z=>by subst z;rw [n] at mu;exact mu
 have hb:∀b,H b=none->b≠e:=fun b n z=>by
  subst z
  rcases he with r | r
  ·exact hx b n r
  ·rw [n] at r;cases r
 have hm:∀b u,H b=some u->¬Mut (some u)->b≠x:=fun b u q nm z=>by subst z;rw [q] at mu;exact nm mu
 refine ⟨fun b u q n _ _=>k b u (hb b n) q,fun b u q n _ _=>⟨u.slots,k b u (hb b n) q⟩,fun b u q n _=>by rw [zah (hx b n)];exact n,fun b u q _=>?_,
  fun b xs q=>by rw [zah (hm b _ q fun z=>z)];exact q,fun b u xs q=>by rw [zah (hm b _ q fun z=>z)];exact q,fun b lp lq q=>by rw [zah (hm b _ q fun z=>z)];exact q⟩
 by_cases hbe:b=e
 ·subst hbe;exact heo
 ·exact ⟨u,k b u hbe q⟩
end
def trk (h:Heap) (H:Hp):List Addr:=(List.range h.objs.size).filter fun a=>(H a).isSome
def hidT (h:Heap) (H:Hp):Heap:=W.hideAll h (trk h H)
theorem zl4 (h:Heap) (H:Hp):(hidT h H).objs.size=h.objs.size:=W.hideAll_size _ _
theorem zog {h:Heap} {H:Hp} {b:Addr} {o:Obj} (e:h.get? b=some o) (n:H b=none):(hidT h H).get? b=some o:=
 W.hideAll_get _ e fun hm=>by
  have q:(H b).isSome=true:=(mem_filter.mp hm).2
  rw [n] at q;simp at q
theorem zpY {h:Heap} {H:Hp} {b:Addr} {o:Obj} (e:(hidT h H).get? b=some o):h.get? b=some o/\H b=none:=by
 have e':h.get? b=some o:=W.of_hideAll (trk h H) e
 refine ⟨e',?_⟩
 cases q:H b with
 | none=>rfl
 | some x=>
   have hm:b∈trk h H:=mem_filter.mpr ⟨mem_range.mpr (Heap.lt_size e'),by simp [q]⟩
   have z:(hidT h H).get? b=none:=W.hideAll_none (trk h H) hm
   rw [z] at e;cases e
def zpZ (g h:Heap) (L:Addr):List (Addr × Obj):=(List.range h.objs.size).filterMap fun a=>if a=L\/(g.get? a).isSome=true then none else (h.get? a).map fun o=>(a,o)
def rest (g h:Heap) (L d:Addr):List (Addr × Obj):=(zpZ g h L).filter fun p=>decide (p.1≠d)
end
section
structure Mod (K:W.Frag) (mg:Str->Option Value) (bf:Heap):Prop where
 kin:K.In bf
 glob:bf.Ns mainGlobals mg
 blt:∃mb,bf.Ns builtinsNs mb/\∀x:Str,x ≠ "__name__" -> mb x=bootBuiltins x
 nolimit:bf.NoLimit
structure Cx where
 prog:Program
 w:World
 K:W.Frag
 mg:Str->Option Value
 bf:Heap
 A:Around
 N:List Str
 s₀:Shared
 H₀:Hp
 env:Env
 outer:List Env
 stack:List Env
 ex:List Addr
 fn:Str->Bool
 calm:Bool
 pn:List (Addr × Obj)
 xe:Value->Shared->Prop
def frs (l:List Env):List Addr:=l.filterMap (·.frame)
abbrev Cx.fs (X:Cx):List Addr:=frs X.outer
def Vis (sc:Scope) (x:Str):Prop:=sc.names.lookup x=some .local\/sc.names.lookup x=some .cell\/sc.names.lookup x=some .free
def Loc (sc:Scope) (x:Str):Prop:=sc.names.lookup x=some .local\/sc.names.lookup x=some .cell
def Look (env:Env) (h:Heap) (m:Str->Option Value) (x:Str) (u:Value):Prop:=
 (env.kindOf x=some .local/\m x=some u)\/((env.kindOf x=some .cell\/env.kindOf x=some .free)/\∃c,env.cells.lookup x=some c/\h.IsCell c (some u))
structure Cx.Ok (X:Cx):Prop where
 mod:Mod X.K X.mg X.bf
 kind:X.env.scope.kind=.function
 glob:X.env.globals=mainGlobals
 blt:X.env.builtins=builtinsNs
 above:X.s₀.heap.objs.size<=X.env.locals
 inj:∀x y c,X.env.cells.lookup x=some c->X.env.cells.lookup y=some c->x=y
 has:∀x,(X.env.kindOf x=some .cell\/X.env.kindOf x=some .free)->∃c,X.env.cells.lookup x=some c
 cab:∀x c,X.fn x=true->X.env.cells.lookup x=some c->X.s₀.heap.objs.size<=c
 hd:X.calm=true->X.A.handled=none
 frames:X.A.frames=some X.stack
 stk:X.stack=X.outer\/(X.stack=X.env::X.outer/\X.env.frame=some X.env.locals)
 exf:∀b∈X.ex,b≠X.env.locals/\∀x c,X.env.cells.lookup x=some c->c≠b
 bs:∀b o,X.bf.get? b=some o->X.s₀.heap.get? b=some o/\X.H₀ b=none
 bsz:X.bf.objs.size<=X.s₀.heap.objs.size
 noex:∀b o,X.bf.get? b=some o->b∉X.ex
 exfs:∀b∈X.ex,b∉X.fs
 funs:X.s₀.heap.FunFrames X.bf X.outer
 frf:∀b∈X.fs,X.H₀ b=none
structure Inv (X:Cx) (ai:List (Addr × Obj)) (σ:List (Option V)) (H:Hp) (s:Shared):Prop where
 ok:X.Ok
 os:s.os=X.s₀.os
 bare:AllBare s.gens
 bf:Un X.fs X.ex X.H₀ H X.s₀.heap s.heap
 loc:∃m,s.heap.Ns X.env.locals m/\∀(i:Nat) (x:Str) (v:V),X.N[i]?=some x -> σ[i]?=some (some v)->Vis X.env.scope x->∃u,RelV v u/\Look X.env s.heap m x u
 cell:∀x c,X.env.cells.lookup x=some c->∃v,s.heap.IsCell c v
 free:H X.env.locals=none
 freeC:∀x c,X.env.cells.lookup x=some c->H c=none
 pin:∀p∈X.pn++ai,s.heap.get? p.1=some p.2/\H p.1=none/\p.1≠X.env.locals/\p.1∉X.fs/\∀v,p.2.data≠.cell v
 hok:HOk X.prog X.w H s.heap
 len : σ.length=X.N.length
section
variable {X:Cx} {ai:List (Addr × Obj)} {σ:List (Option V)} {H H':Hp} {s:Shared} {h':Heap}
theorem Cx.Ok.nofr (ok:X.Ok) {b:Addr} {o:Obj} (e:X.bf.get? b=some o):b∉X.fs:=fun hb=>by
 have:=(ok.funs.mem hb).1
 rw [e] at this;cases this
theorem Inv.bs (I:Inv X ai σ H s):∀b o,X.bf.get? b=some o->s.heap.get? b=some o/\H b=none:=fun b o e=>
 ⟨I.bf.keep b o (I.ok.bs b o e).1 (I.ok.bs b o e).2 (I.ok.nofr e) (I.ok.noex b o e),I.bf.free b o (I.ok.bs b o e).1 (I.ok.bs b o e).2 (I.ok.noex b o e)⟩
theorem Inv.bk (I:Inv X ai σ H s):∀b o,X.bf.get? b=some o->s.heap.get? b=some o:=fun b o e=>(I.bs b o e).1
theorem Inv.mod (I:Inv X ai σ H s):Mod X.K X.mg X.bf:=I.ok.mod
theorem Inv.kIn (I:Inv X ai σ H s):X.K.In s.heap:=I.ok.mod.kin.keeps I.bk
theorem Inv.nolimit (I:Inv X ai σ H s):s.heap.NoLimit:=I.ok.mod.nolimit.keeps I.bk
theorem Inv.lt (I:Inv X ai σ H s):X.env.locals<s.heap.objs.size:=let ⟨_,hn,_⟩:=I.loc;hn.lt
theorem Inv.sz (I:Inv X ai σ H s):X.s₀.heap.objs.size<=s.heap.objs.size:=Nat.le_trans I.ok.above (Nat.le_of_lt I.lt)
theorem Inv.nofs (I:Inv X ai σ H s) {a:Addr} (h:s.heap.objs.size<=a):a∉X.fs:=fun hb=>by
 obtain ⟨_,o,ho,_⟩:=I.ok.funs.mem hb
 exact absurd (Nat.lt_of_lt_of_le (Heap.lt_size ho) (Nat.le_trans I.sz h)) (Nat.lt_irrefl _)
theorem Inv.cne (I:Inv X ai σ H s):∀x c,X.env.cells.lookup x=some c->c≠X.env.locals:=fun x c e z=>by
 obtain ⟨v,o,ho,hd⟩:=I.cell x c e
 obtain ⟨m,⟨o',es,ep,ho',hd',_⟩,_⟩:=I.loc
 rw [z,ho'] at ho;cases ho;rw [hd'] at hd;cases hd
theorem Inv.funs (I:Inv X ai σ H s):s.heap.FunFrames X.bf X.outer:=by
 have all:∀(l:List Env),(∀b∈frs l,b∈X.fs)->X.s₀.heap.FunFrames X.bf l->s.heap.FunFrames X.bf l:=by
  intro l
  induction l with
  | nil=>intro _ _;trivial
  | cons env r ih=>
    intro hs hl
    obtain ⟨hk,⟨L,o,hf,hn,ho,hd⟩,hr⟩:=hl
    have hL:L∈X.fs:=hs L (by unfold frs;rw [filterMap_cons,hf];exact mem_cons_self)
    obtain ⟨sl,e⟩:=I.bf.slot L o ho (I.ok.frf L hL) hL fun z=>I.ok.exfs L z hL
    exact ⟨hk,⟨L,_,hf,hn,e,hd⟩,ih (fun b hb=>hs b (by unfold frs;rw [filterMap_cons,hf];exact mem_cons_of_mem _ hb)) hr⟩
 exact all X.outer (fun _ hb=>hb) I.ok.funs
theorem Inv.stack (I:Inv X ai σ H s):s.heap.FunFrames X.bf X.stack:=by
 rcases I.ok.stk with e | ⟨e,hf⟩
 ·rw [e];exact I.funs
 ·rw [e]
  obtain ⟨m,hn,_⟩:=I.loc
  refine .cons (by rw [I.ok.kind];decide) hf hn ?_ I.funs
  exact Heap.get?_none_of_le (Nat.le_trans I.ok.bsz I.ok.above)
theorem Inv.stkSub (I:Inv X ai σ H s):∀b∈frs X.stack,b∈X.env.locals::X.fs:=fun b hb=>by
 rcases I.ok.stk with e | ⟨e,hf⟩
 ·rw [e] at hb;exact mem_cons_of_mem _ hb
 ·rw [e] at hb
  unfold frs at hb
  rw [filterMap_cons,hf] at hb
  exact hb
theorem Inv.stkFree (I:Inv X ai σ H s):∀b∈frs X.stack,H b=none:=fun b hb=>by
 rcases mem_cons.mp (I.stkSub b hb) with e | hb
 ·rw [e];exact I.free
 ·obtain ⟨_,o,ho,_⟩:=I.ok.funs.mem hb
  exact I.bf.free b o ho (I.ok.frf b hb) fun z=>I.ok.exfs b z hb
theorem Inv.step {g':Array GenState} {t':Nat} {d':Drawn} {ch:List Addr} (I:Inv X ai σ H s)
  (hch:∀b∈ch,(b∈X.ex\/X.s₀.heap.objs.size<=b)/\b≠X.env.locals/\(∀x c,X.env.cells.lookup x=some c->c≠b)/\∀p∈X.pn++ai,p.1≠b)
  (keep:∀b o,b≠X.env.locals->b∉X.fs->b∉ch->s.heap.get? b=some o->H b=none->h'.get? b=some o)
  (slot:∀b o,b≠X.env.locals->b∈X.fs->b∉ch->s.heap.get? b=some o->H b=none->∃sl,h'.get? b=some { o with slots:=sl }) (free:∀b o,b∉ch->s.heap.get? b=some o->H b=none->H' b=none)
  (there:∀b o,b∉ch->s.heap.get? b=some o->∃o',h'.get? b=some o')
  (tups:∀b xs,H b=some (.tup xs)->H' b=some (.tup xs)) (frzs:∀b o u,H b=some (.frz o u)->H' b=some (.frz o u)) (tbls:∀b lp lq,H b=some (.tbl lp lq)->H' b=some (.tbl lp lq))
  (ns:∀m,s.heap.Ns X.env.locals m->h'.Ns X.env.locals m) (hok:HOk X.prog X.w H' h') (hg:AllBare g'):
  Inv X ai σ H' { s with heap:=h',gens:=g',drawn:=d',toks:=t' }:=by
 have neL:∀b o,X.s₀.heap.get? b=some o->b≠X.env.locals:=fun b o e=>Nat.ne_of_lt (Nat.lt_of_lt_of_le (Heap.lt_size e) I.ok.above)
 have neC:∀b o,X.s₀.heap.get? b=some o->b∉X.ex->b∉ch:=fun b o e hx hb=>by
  rcases (hch b hb).1 with z | z
  ·exact hx z
  ·exact absurd (Nat.lt_of_lt_of_le (Heap.lt_size e) z) (Nat.lt_irrefl _)
 have cellK:∀x c,X.env.cells.lookup x=some c->∀v,s.heap.IsCell c v->h'.IsCell c v:=fun x c e v ⟨o,ho,hd⟩=>by
  have nch:c∉ch:=fun z=>(hch c z).2.2.1 x c e rfl
  by_cases hc:c∈X.fs
  ·obtain ⟨sl,q⟩:=slot c o (I.cne x c e) hc nch ho (I.freeC x c e)
   exact ⟨_,q,hd⟩
  ·exact ⟨o,keep c o (I.cne x c e) hc nch ho (I.freeC x c e),hd⟩
 refine ⟨I.ok,I.os,hg,⟨fun b o e n hb hx=>?_,fun b o e n hb hx=>?_,fun b o e n hx=>?_,fun b o e hx=>?_,fun b xs e=>tups b xs (I.bf.tups b xs e),fun b o xs e=>frzs b o xs (I.bf.frzs b o xs e),fun b lp lq e=>tbls b lp lq (I.bf.tbls b lp lq e)⟩,?_,fun x c e=>?_,?_,fun x c e=>?_,fun p hp=>?_,hok,I.len⟩
 ·exact keep b o (neL b o e) hb (neC b o e hx) (I.bf.keep b o e n hb hx) (I.bf.free b o e n hx)
 ·obtain ⟨sl,e1⟩:=I.bf.slot b o e n hb hx
  obtain ⟨sl',e2⟩:=slot b _ (neL b o e) hb (neC b o e hx) e1 (I.bf.free b o e n hx)
  exact ⟨sl',e2⟩
 ·obtain ⟨o',e1⟩:=I.bf.there b o e hx
  exact free b o' (neC b o e hx) e1 (I.bf.free b o e n hx)
 ·obtain ⟨o',e1⟩:=I.bf.there b o e hx
  exact there b o' (neC b o e hx) e1
 ·obtain ⟨m,hn,hl⟩:=I.loc
  refine ⟨m,ns m hn,fun i x v e1 e2 e3=>?_⟩
  obtain ⟨u,r,l⟩:=hl i x v e1 e2 e3
  refine ⟨u,r,?_⟩
  rcases l with l | ⟨k,c,e,z⟩
  ·exact .inl l
  ·exact .inr ⟨k,c,e,cellK x c e _ z⟩
 ·obtain ⟨v,z⟩:=I.cell x c e
  exact ⟨v,cellK x c e v z⟩
 ·obtain ⟨m,⟨o,_,_,ho,_⟩,_⟩:=I.loc
  exact free _ o (fun z=>(hch _ z).2.1 rfl) ho I.free
 ·obtain ⟨v,o,ho,hd⟩:=I.cell x c e
  exact free c o (fun z=>(hch c z).2.2.1 x c e rfl) ho (I.freeC x c e)
 ·obtain ⟨e,n,ne,nf,d⟩:=I.pin p hp
  have nch:p.1∉ch:=fun z=>(hch p.1 z).2.2.2 p hp rfl
  exact ⟨keep p.1 p.2 ne nf nch e n,free p.1 p.2 nch e n,ne,nf,d⟩
theorem Inv.un {t':Nat} (I:Inv X ai σ H s) (u:Un X.fs [] H H' s.heap h') (hok:HOk X.prog X.w H' h'):Inv X ai σ H' { s with heap:=h',toks:=t' }:=by
 obtain ⟨m,⟨o,es,ep,ho,r⟩,_⟩:=id I.loc
 obtain ⟨sl,hL⟩:=u.any ho I.free (by simp)
 exact I.step (g':=s.gens) (d':=s.drawn) (ch:=[]) (fun _ z=>nomatch z) (fun b o _ hb _ e n=>u.keep b o e n hb (by simp)) (fun b o _ hb _ e n=>u.slot b o e n hb (by simp)) (fun b o _ e n=>u.free b o e n (by simp)) (fun b o _ e=>u.there b o e (by simp)) u.tups u.frzs u.tbls (fun m' hm=>by
  obtain ⟨o',es',ep',ho',r'⟩:=hm
  rw [ho] at ho';cases ho'
  exact ⟨_,es',ep',hL,r'⟩) hok I.bare
theorem Inv.call {g':Array GenState} {t':Nat} {d':Drawn} {ch:List Addr} (I:Inv X ai σ H s) (u:Un (frs X.stack) ch H H' s.heap h') (hok:HOk X.prog X.w H' h') (hg:AllBare g')
  (hch:∀b∈ch,(b∈X.ex\/X.s₀.heap.objs.size<=b)/\b≠X.env.locals/\(∀x c,X.env.cells.lookup x=some c->c≠b)/\∀p∈X.pn++ai,p.1≠b):
  Inv X ai σ H' { s with heap:=h',gens:=g',drawn:=d',toks:=t' }:=by
 obtain ⟨m,⟨o,es,ep,ho,r⟩,_⟩:=id I.loc
 obtain ⟨sl,hL⟩:=u.any ho I.free fun z=>(hch _ z).2.1 rfl
 exact I.step (ch:=ch) hch (fun b o hL hb hc e n=>u.keep b o e n (fun z=>(mem_cons.mp (I.stkSub b z)).elim hL hb) hc) (fun b o _ _ hc e n=>u.any e n hc) (fun b o hc e n=>u.free b o e n hc) (fun b o hc e=>u.there b o e hc) u.tups u.frzs u.tbls (fun m' hm=>by
  obtain ⟨o',es',ep',ho',r'⟩:=hm
  rw [ho] at ho';cases ho'
  exact ⟨_,es',ep',hL,r'⟩) hok hg
theorem Inv.turned {t':Nat} {it:Addr} (I:Inv X ai σ H s) (k:∀b o,b≠it->s.heap.get? b=some o->h'.get? b=some o) (hn:H it=none) (hL:it≠X.env.locals)
  (h1:it∈X.ex\/X.s₀.heap.objs.size<=it) (h2:∀x c,X.env.cells.lookup x=some c->c≠it) (h3:∀p∈X.pn++ai,p.1≠it):Inv X ai σ H { s with heap:=h',toks:=t' }:=by
 have nit:∀b u,H b=some u->b≠it:=fun b u e z=>by rw [z,hn] at e;cases e
 refine I.step (g':=s.gens) (d':=s.drawn) (ch:=[it]) (fun b hb=>?_) (fun b o _ _ hc e _=>k b o (fun z=>hc (by simp [z])) e) (fun b o _ _ hc e _=>⟨o.slots,k b o (fun z=>hc (by simp [z])) e⟩) (fun _ _ _ _ n=>n)
  (fun b o hc e=>⟨o,k b o (fun z=>hc (by simp [z])) e⟩) (fun _ _ e=>e) (fun _ _ _ e=>e) (fun _ _ _ e=>e) (fun m hm=>?_) (fun b u e=>?_) I.bare
 ·have e:b=it:=by simpa using hb
  subst e
  exact ⟨h1,hL,h2,h3⟩
 ·obtain ⟨o,es,ep,ho,r⟩:=hm
  exact ⟨o,es,ep,k _ o (Ne.symm hL) ho,r⟩
 ·refine (I.hok b u e).stay (fun c v hc q=>k c v ?_ q) (fun _ q=>q) (fun _ _ q=>q) fun _ _ _ q=>q
  rcases hc with z | z
  ·rw [z];exact nit b u e
  ·exact nit c _ z
theorem Inv.tok (I:Inv X ai σ H s) (t:Nat):Inv X ai σ H { s with toks:=t }:=I.un (h':=s.heap) (t':=t) Un.refl I.hok
theorem Inv.kept {t':Nat} (I:Inv X ai σ H s) (k:∀b u,s.heap.get? b=some u->h'.get? b=some u):Inv X ai σ H { s with heap:=h',toks:=t' }:=I.un (Un.kept k) (I.hok.kept k)
theorem Inv.laid {a:Addr} {o:HO} {t':Nat} (I:Inv X ai σ H s) (k:∀b u,s.heap.get? b=some u->h'.get? b=some u) (hp:s.heap.objs.size<=a) (new:zaU X.prog X.w (upd H a o) h' a o):
 Inv X ai σ (upd H a o) { s with heap:=h',toks:=t' }:=I.un (Un.laid k hp (I.hok.fresh hp)) (I.hok.laid k hp new)
theorem Inv.write {x e:Addr} {o:HO} {t':Nat} (I:Inv X ai σ H s) (mu:Mut (H x)) (he:e=x\/H e=some (.own x)) (k:∀b u,b≠e->s.heap.get? b=some u->h'.get? b=some u) (heo:∃u,h'.get? e=some u)
 (new:zaU X.prog X.w (upd H x o) h' x o):Inv X ai σ (upd H x o) { s with heap:=h',toks:=t' }:=I.un (Un.write mu he k heo) (I.hok.write mu he k heo new)
theorem Inv.weak {σ':List (Option V)} (I:Inv X ai σ H s) (hl : σ'.length = σ.length) (w:∀(i:Nat) v,σ'[i]?=some (some v) -> σ[i]?=some (some v)):Inv X ai σ' H s:=
 ⟨I.ok,I.os,I.bare,I.bf,let ⟨m,hn,hl'⟩:=I.loc;⟨m,hn,fun i x v e1 e2 e3=>hl' i x v e1 (w i v e2) e3⟩,I.cell,I.free,I.freeC,I.pin,I.hok,hl.trans I.len⟩
theorem Inv.pins_of {pins':List (Addr × Obj)} (I:Inv X ai σ H s) (h:∀p∈pins',s.heap.get? p.1=some p.2/\H p.1=none/\p.1≠X.env.locals/\p.1∉X.fs/\∀v,p.2.data≠.cell v):Inv X pins' σ H s:=
 ⟨I.ok,I.os,I.bare,I.bf,I.loc,I.cell,I.free,I.freeC,fun p hp=>(mem_append.mp hp).elim (fun z=>I.pin p (mem_append_left _ z)) (h p),I.hok,I.len⟩
theorem zhC {N:List Str} (hN:N.Nodup) {i j:Nat} {x:Str} (a:N[i]?=some x) (b:N[j]?=some x):i=j:=by
 obtain ⟨h1,e1⟩:=List.getElem?_eq_some_iff.mp a
 obtain ⟨h2,e2⟩:=List.getElem?_eq_some_iff.mp b
 exact (List.getElem_inj hN).mp (e1.trans e2.symm)
theorem zik {M:Model} {A:Around} {E:Value->Shared->Prop} {i:Nat} {x:Str} {v:V} {u:Value} {Q:Unit->Shared->Prop} (I:Inv X ai σ H s) (hN:X.N.Nodup) (hi:X.N[i]?=some x) (hx:Loc X.env.scope x) (r:RelV v u)
  (h:∀s',Inv X ai (σ.set i (some v)) H s'->(∃a,Heap.SameBut a s.heap s'.heap/\(a=X.env.locals\/X.env.cells.lookup x=some a))->Q () s') (hf:X.fn x=true\/X.env.scope.names.lookup x=some .local:=by first | exact .inl rfl | exact .inr rfl | assumption):wpAny M A (storeName X.env x u) Q E s:=by
 obtain ⟨m,hn,hl⟩:=id I.loc
 have hcls:(X.env.scope.kind==.class||(X.env.scope.kind==.module&&X.env.locals != X.env.globals))=false:=by rw [I.ok.kind];rfl
 have hiσ:i < σ.length:=by rw [I.len];exact (List.getElem?_eq_some_iff.mp hi).1
 have cne:=I.cne
 have tracked:∀ {a:Addr} {h':Heap},(∃o,s.heap.get? a=some o/\H a=none)->Heap.SameBut a s.heap h'->HOk X.prog X.w H h':=fun {a h'} ha hs b ob e=>by
  obtain ⟨_,_,hfree⟩:=ha
  refine (I.hok b ob e).stay (fun c w' hc q=>(hs.2 c ?_).trans q) (fun _ q=>q) (fun _ _ q=>q) fun _ _ _ q=>q
  rintro rfl
  rcases hc with rfl | hc
  ·rw [hfree] at e;cases e
  ·rw [hfree] at hc;cases hc
 rcases hx with hk | hk
 ·refine wpAny_storeName_local hk hn (fun h' hn' hs=>?_) hcls
  obtain ⟨oL,_,_,hoL,_⟩:=id hn
  refine h _ ⟨I.ok,I.os,I.bare,⟨fun b o e n hb hx=>?_,fun b o e n hb hx=>?_,I.bf.free,fun b o e hx=>?_,I.bf.tups,I.bf.frzs,I.bf.tbls⟩,⟨_,hn',fun j y v' e1 e2 e3=>?_⟩,fun y c e=>?_,I.free,I.freeC,fun p hp=>?_,tracked ⟨oL,hoL,I.free⟩ hs,by simpa using I.len⟩ ⟨_,hs,.inl rfl⟩
  ·exact (hs.2 b (Nat.ne_of_lt (Nat.lt_of_lt_of_le (Heap.lt_size e) I.ok.above))).trans (I.bf.keep b o e n hb hx)
  ·obtain ⟨sl,e1⟩:=I.bf.slot b o e n hb hx
   exact ⟨sl,(hs.2 b (Nat.ne_of_lt (Nat.lt_of_lt_of_le (Heap.lt_size e) I.ok.above))).trans e1⟩
  ·obtain ⟨o',e1⟩:=I.bf.there b o e hx
   exact ⟨o',(hs.2 b (Nat.ne_of_lt (Nat.lt_of_lt_of_le (Heap.lt_size e) I.ok.above))).trans e1⟩
  ·by_cases hj:j=i
   ·subst hj
    rw [hi] at e1;cases e1
    rw [List.getElem?_set_self hiσ] at e2
    cases e2
    exact ⟨u,r,.inl ⟨hk,by simp⟩⟩
   ·rw [getElem?_set_ne (Ne.symm hj)] at e2
    obtain ⟨u',r',q⟩:=hl j y v' e1 e2 e3
    refine ⟨u',r',?_⟩
    rcases q with ⟨k,e⟩ | ⟨k,c,e,z⟩
    ·refine .inl ⟨k,?_⟩
     have:y≠x:=fun e=>hj (zhC hN e1 (e▸hi))
     simp [this,e]
    ·exact .inr ⟨k,c,e,z.sameBut hs (cne y c e)⟩
  ·obtain ⟨w',z⟩:=I.cell y c e
   exact ⟨w',z.sameBut hs (cne y c e)⟩
  ·obtain ⟨e,n,ne,nf,d⟩:=I.pin p hp
   exact ⟨(hs.2 p.1 ne).trans e,n,ne,nf,d⟩
 ·have hfn:X.fn x=true:=by
   rcases hf with z | z
   ·exact z
   ·rw [z] at hk;cases hk
  obtain ⟨c,hc⟩:=I.ok.has x (.inl hk)
  obtain ⟨w',z⟩:=I.cell x c hc
  refine wpAny_storeName_cell I.ok.kind hk hc z (fun h' hc' hs=>?_)
  obtain ⟨oc,hoc,hocd⟩:=id z
  refine h { s with heap:=h' } ⟨I.ok,I.os,I.bare,⟨fun b o e n hb hx=>?_,fun b o e n hb hx=>?_,I.bf.free,fun b o e hx=>?_,I.bf.tups,I.bf.frzs,I.bf.tbls⟩,⟨m,hn.sameBut hs (Ne.symm (cne x c hc)),fun j y v' e1 e2 e3=>?_⟩,fun y c' e=>?_,I.free,I.freeC,fun p hp=>?_,tracked ⟨oc,hoc,I.freeC x c hc⟩ hs,by simpa using I.len⟩ ⟨c,hs,.inr hc⟩
  ·exact (hs.2 b (Nat.ne_of_lt (Nat.lt_of_lt_of_le (Heap.lt_size e) (I.ok.cab x c hfn hc)))).trans (I.bf.keep b o e n hb hx)
  ·obtain ⟨sl,e1⟩:=I.bf.slot b o e n hb hx
   exact ⟨sl,(hs.2 b (Nat.ne_of_lt (Nat.lt_of_lt_of_le (Heap.lt_size e) (I.ok.cab x c hfn hc)))).trans e1⟩
  ·obtain ⟨o',e1⟩:=I.bf.there b o e hx
   exact ⟨o',(hs.2 b (Nat.ne_of_lt (Nat.lt_of_lt_of_le (Heap.lt_size e) (I.ok.cab x c hfn hc)))).trans e1⟩
  ·by_cases hj:j=i
   ·subst hj
    rw [hi] at e1;cases e1
    rw [List.getElem?_set_self hiσ] at e2
    cases e2
    exact ⟨u,r,.inr ⟨.inl hk,c,hc,hc'⟩⟩
   ·rw [getElem?_set_ne (Ne.symm hj)] at e2
    obtain ⟨u',r',q⟩:=hl j y v' e1 e2 e3
    refine ⟨u',r',?_⟩
    rcases q with q | ⟨k,c',e,z'⟩
    ·exact .inl q
    ·refine .inr ⟨k,c',e,z'.sameBut hs ?_⟩
     rintro rfl
     exact hj (zhC hN e1 (I.ok.inj _ _ _ e hc▸hi))
  ·by_cases hcc:c'=c
   ·subst hcc;exact ⟨_,hc'⟩
   ·obtain ⟨w2,z2⟩:=I.cell y c' e
    exact ⟨w2,z2.sameBut hs hcc⟩
  ·obtain ⟨e,n,ne,nf,d⟩:=I.pin p hp
   refine ⟨(hs.2 p.1 ?_).trans e,n,ne,nf,d⟩
   intro q
   rw [q,hoc] at e
   have q':oc=p.2:=Option.some.inj e
   exact d w' (by rw [<-q'];exact hocd)
theorem zfQ {M:Model} {A:Around} {E:Value->Shared->Prop} {i:Nat} {x:Str} {v:V} {u:Value} {Q:Unit->Shared->Prop} (I:Inv X ai σ H s) (hN:X.N.Nodup) (hi:X.N[i]?=some x) (hx:Loc X.env.scope x) (r:RelV v u)
  (h:∀s',Inv X ai (σ.set i (some v)) H s'->Q () s') (hf:X.fn x=true\/X.env.scope.names.lookup x=some .local:=by first | exact .inl rfl | exact .inr rfl | assumption):wpAny M A (storeName X.env x u) Q E s:=
 zik I hN hi hx r (fun s' I' _=>h s' I') hf
theorem Inv.call' {s':Shared} {ch:List Addr} (I:Inv X ai σ H s) (ho:s'.os=s.os) (u:Un (frs X.stack) ch H H' s.heap s'.heap) (hok:HOk X.prog X.w H' s'.heap) (hg:AllBare s'.gens)
  (hch:∀b∈ch,(b∈X.ex\/X.s₀.heap.objs.size<=b)/\b≠X.env.locals/\(∀x c,X.env.cells.lookup x=some c->c≠b)/\∀p∈X.pn++ai,p.1≠b):Inv X ai σ H' s':=by
 obtain ⟨h',g',d',t',o'⟩:=s'
 have e:o'=s.os:=ho
 subst e
 exact I.call (g':=g') (t':=t') (d':=d') u hok hg hch
end
abbrev XK:=Value->Option Addr->Hp->Prop
abbrev St:=List (Option V)
abbrev VK:=V->Hp->Prop
abbrev TE:=St->Hp->VK->Prop
abbrev TT:=St->Hp->(Bool->Hp->Prop)->Prop
abbrev TA:=St->Hp->(List V->Hp->Prop)->Prop
structure Ends where
 nx:St->Hp->Prop
 rt:VK
 bk:St->Hp->Prop:=fun _ _=>False
 ct:St->Hp->Prop:=fun _ _=>False
abbrev TS:=Ends->St->Hp->Prop
def EP (X:Cx) (ai:List (Addr × Obj)) (σ:St) (Q:VK) (u:Value) (s':Shared):Prop:=∃v H',Inv X ai σ H' s'/\RelV v u/\Q v H'
def TP (X:Cx) (ai:List (Addr × Obj)) (σ:St) (Q:Bool->Hp->Prop) (b:Bool) (s':Shared):Prop:=∃H',Inv X ai σ H' s'/\Q b H'
def AP (X:Cx) (ai:List (Addr × Obj)) (σ:St) (Q:List V->Hp->Prop) (us:List Value) (s':Shared):Prop:=∃vs H',Inv X ai σ H' s'/\Vals vs us/\Q vs H'
def SP (X:Cx) (ai:List (Addr × Obj)) (D:Ends) (f:Flow) (s':Shared):Prop:=
 match f with
 | .next=>∃ σ' H',Inv X ai σ' H' s'/\D.nx σ' H'
 | .brk=>∃ σ' H',Inv X ai σ' H' s'/\D.bk σ' H'
 | .cont=>∃ σ' H',Inv X ai σ' H' s'/\D.ct σ' H'
 | .ret u=>∃v σ' H',Inv X ai σ' H' s'/\RelV v u/\D.rt v H'
@[irreducible] def PE (X:Cx) (e:Expr) (t:TE):Prop:=
  ∀(ai:List (Addr × Obj)) (s:Shared) (σ:St) (H:Hp) (Q:VK),Inv X ai σ H s->t σ H Q->wpAny (model X.prog X.w) X.A (eval e X.env) (EP X ai σ Q) X.xe s
@[irreducible] def PT (X:Cx) (e:Expr) (t:TT):Prop:=
  ∀(ai:List (Addr × Obj)) (s:Shared) (σ:St) (H:Hp) (Q:Bool->Hp->Prop),Inv X ai σ H s->t σ H Q->wpAny (model X.prog X.w) X.A (isTrue e X.env (eval e X.env)) (TP X ai σ Q) X.xe s
def PW (X:Cx) (e:Expr) (t:TT):Prop:=
 ∀(whole:Sem Value) (ai:List (Addr × Obj)) (s:Shared) (σ:St) (H:Hp) (Q:Bool->Hp->Prop),Inv X ai σ H s->t σ H Q->wpAny (model X.prog X.w) X.A (isTrue e X.env whole) (TP X ai σ Q) X.xe s
theorem PW.pt {X:Cx} {e:Expr} {t:TT} (h:PW X e t):PT X e t:=by
 with_unfolding_all
  exact h _
@[irreducible] def PA (X:Cx) (es:List Expr) (t:TA):Prop:=
  ∀(pos:Pos) (ai:List (Addr × Obj)) (s:Shared) (σ:St) (H:Hp) (Q:List V->Hp->Prop),Inv X ai σ H s->t σ H Q->wpAny (model X.prog X.w) X.A (spliced (backTo pos (starEach es X.env))) (AP X ai σ Q) X.xe s
@[irreducible] def PS (X:Cx) (st:Stmt) (t:TS):Prop:=
  ∀(ai:List (Addr × Obj)) (s:Shared) (σ:St) (H:Hp) (D:Ends),Inv X ai σ H s->t D σ H->wpAny (model X.prog X.w) X.A (exec st X.env) (SP X ai D) X.xe s
@[irreducible] def PSs (X:Cx) (st:List Stmt) (t:TS):Prop:=
  ∀(ai:List (Addr × Obj)) (s:Shared) (σ:St) (H:Hp) (D:Ends),Inv X ai σ H s->t D σ H->wpAny (model X.prog X.w) X.A (execs st X.env) (SP X ai D) X.xe s
theorem thn {α:Type} {t:Sem α} {Q Q' : α->Shared->Prop} {M:Model} {A:Around} {E:Value->Shared->Prop} {s:Shared} (h:wpAny M A t Q E s) (hQ:∀a s,Q a s->Q' a s):wpAny M A t Q' E s:=wpAny_mono h hQ fun _ _ x=>x
end
section
section
variable {X:Cx}
def tVar (i:Nat):TE:=fun σ H Q=>∃v,σ[i]?=some (some v)/\Q v H
def tC (v:V):TE:=fun _ H Q=>Q v H
theorem zl5 {i:Nat} {x:Str} {pos:Pos} (hN:X.N[i]?=some x) (hv:Vis X.env.scope x) (hd:(x==("__debug__" : Str))=false:=by decide) (hcd:(x==("__classdict__" : Str))=false:=by decide):PE X (.Name x pos) (tVar i):=by
 with_unfolding_all
  intro ai s σ H Q I h
  obtain ⟨v,e,h⟩:=h
  obtain ⟨m,hn,hl⟩:=I.loc
  obtain ⟨u,r,l⟩:=hl i x v hN e hv
  have fin:EP X ai σ Q u s:=⟨v,H,I,r,h⟩
  rcases l with ⟨hk,hm⟩ | ⟨hk,c,hc,hcell⟩
  ·exact wpAny_Name (wpAny_loadName_local I.ok.kind hk hn hm fin) hd
  ·rcases hk with hk | hk
   ·exact wpAny_Name (wpAny_loadName_cell I.ok.kind hk hc hcell fin) hd
   ·exact wpAny_Name (wpAny_loadName_free I.ok.kind hk hc hcell fin hcd) hd
theorem zad {i j pos}:PE X (.Constant (.int i) j pos) (tC (.int i)):=by
 with_unfolding_all
  exact fun _ _ _ H _ I h=>wpAny_Constant_int ⟨.int i,H,I.tok _,⟨_,rfl⟩,h⟩
theorem zbm {b j pos}:PE X (.Constant (.bool b) j pos) (tC (.bl b)):=by
 with_unfolding_all
  exact fun _ _ _ H _ I h=>Constant_bool ⟨.bl b,H,I,rfl,h⟩
theorem zec {j pos}:PE X (.Constant .none j pos) (tC .non):=by
 with_unfolding_all
  exact fun _ _ _ H _ I h=>Constant_none ⟨.non,H,I,rfl,h⟩
theorem zaB {x j pos}:PE X (.Constant (.str x) j pos) (tC (.str x)):=by
 with_unfolding_all
  exact fun _ _ _ H _ I h=>Calls.Constant_str ⟨.str x,H,I.tok _,⟨_,rfl⟩,h⟩
def Gl (X:Cx) (x:Str):Prop:=X.env.kindOf x=some .globalImplicit
theorem zcm {E:Value->Shared->Prop} {ai:List (Addr × Obj)} {s:Shared} {σ:St} {H:Hp} {x:Str} {u:Value} {pos:Pos} {Q:Value->Shared->Prop} (I:Inv X ai σ H s) (hg:Gl X x) (hm:X.mg x=some u) (h:Q u s)
  (hd:(x==("__debug__" : Str))=false:=by decide):wpAny (model X.prog X.w) X.A (eval (.Name x pos) X.env) Q E s:=
 Calls.Name_function_global I.ok.kind hg (Calls.loadGlobal_global (by rw [I.ok.glob];exact I.mod.glob.keeps I.bk) hm h) hd
theorem zfr {E:Value->Shared->Prop} {ai:List (Addr × Obj)} {s:Shared} {σ:St} {H:Hp} {x:Str} {u:Value} {pos:Pos} {Q:Value->Shared->Prop} (I:Inv X ai σ H s) (hg:Gl X x) (hm:X.mg x=none) (hv:bootBuiltins x=some u) (h:Q u s)
  (hn:x ≠ "__name__" := by decide) (hd:(x==("__debug__" : Str))=false:=by decide):wpAny (model X.prog X.w) X.A (eval (.Name x pos) X.env) Q E s:=by
 obtain ⟨mb,h1,h2⟩:=I.mod.blt
 exact Calls.Name_function_global I.ok.kind hg (Calls.loadGlobal_builtin (by rw [I.ok.glob];exact I.mod.glob.keeps I.bk) hm (by rw [I.ok.blt];exact h1.keeps I.bk) ((h2 x hn).trans hv) h) hd
theorem zaZ {x:Str} {v:V} {u:Value} {pos:Pos} (hg:Gl X x) (hm:X.mg x=some u) (r:RelV v u) (hd:(x==("__debug__" : Str))=false:=by decide):PE X (.Name x pos) (tC v):=by
 with_unfolding_all
  exact fun _ _ _ H _ I h=>zcm I hg hm ⟨v,H,I,r,h⟩ hd
theorem zc1 {x:Str} {v:V} {u:Value} {pos:Pos} (hg:Gl X x) (hm:X.mg x=none) (hv:bootBuiltins x=some u) (r:RelV v u) (hn:x ≠ "__name__" := by decide) (hd:(x==("__debug__" : Str))=false:=by decide):PE X (.Name x pos) (tC v):=by
 with_unfolding_all
  exact fun _ _ _ H _ I h=>zfr I hg hm hv ⟨v,H,I,r,h⟩ hn hd
variable {a b:Expr} {ta tb:TE} {pos:Pos}
def tB (t:TE):TT:=fun σ H Q=>t σ H fun x H1=>∃c,x=.bl c/\Q c H1
theorem zaQ {e:Expr} {t:TE} (h:PE X e t) (he:∀whole,isTrue e X.env whole=(do let v <-whole;standAt e.pos;holding [v] (truthy v)):=by intro _;rfl):PT X e (tB t):=by
 with_unfolding_all
  intro ai s σ H Q I hw
  refine isTrue_plain (thn (h ai s σ H _ I hw) fun v s1 ⟨x,H1,I1,r1,q1⟩=>?_) (he _)
  obtain ⟨d,rfl,q⟩:=q1
  cases r1
  exact wpAny_truthy_bool ⟨H1,I1,q⟩
variable {tA tB':TT} {rest:List Expr}
def tAnd (t u:TT):TT:=fun σ H Q=>t σ H fun c H1=>if c=true then u σ H1 Q else Q false H1
def tOr (t u:TT):TT:=fun σ H Q=>t σ H fun c H1=>if c=true then Q true H1 else u σ H1 Q
def tNot (t:TT):TT:=fun σ H Q=>t σ H fun c H1=>Q (!c) H1
theorem zeC (ha:PT X a tA):PW X (.BoolOp .And [a] pos) tA:=by
 with_unfolding_all
  intro wh ai s σ H Q I h
  refine isTrue_and (thn (ha ai s σ H Q I h) fun c s1 e=>?_)
  cases c with
  | true=>exact isTrue_and_nil e
  | false=>exact e
theorem zed (ha:PT X a tA):PW X (.BoolOp .Or [a] pos) tA:=by
 with_unfolding_all
  intro wh ai s σ H Q I h
  refine isTrue_or (thn (ha ai s σ H Q I h) fun c s1 e=>?_)
  cases c with
  | false=>exact isTrue_or_nil e
  | true=>exact e
theorem zhj (ha:PT X a tA) (hb:PW X (.BoolOp .And (b::rest) pos) tB'):PW X (.BoolOp .And (a::b::rest) pos) (tAnd tA tB'):=by
 with_unfolding_all
  intro wh ai s σ H Q I h
  refine isTrue_and (thn (ha ai s σ H _ I h) fun c s1 ⟨H1,I1,q1⟩=>?_)
  cases c with
  | true=>exact hb wh ai s1 σ H1 Q I1 q1
  | false=>exact ⟨H1,I1,q1⟩
theorem zga (ha:PT X a tA) (hb:PW X (.BoolOp .Or (b::rest) pos) tB'):PW X (.BoolOp .Or (a::b::rest) pos) (tOr tA tB'):=by
 with_unfolding_all
  intro wh ai s σ H Q I h
  refine isTrue_or (thn (ha ai s σ H _ I h) fun c s1 ⟨H1,I1,q1⟩=>?_)
  cases c with
  | true=>exact ⟨H1,I1,q1⟩
  | false=>exact hb wh ai s1 σ H1 Q I1 q1
theorem za0 (ha:PT X a tA):PT X (.UnaryOp .Not a pos) (tNot tA):=by
 with_unfolding_all
  intro ai s σ H Q I h
  exact isTrue_not (ha ai s σ H (fun c H1=>Q (!c) H1) I h)
def zsJ (ta tb:TE):TE:=fun σ H Q=>ta σ H fun x H1=>∃c,x=.bl c/\if c=true then tb σ H1 Q else Q (.bl false) H1
theorem zhk {op} {t:TE} (h:PE X a t):PE X (.BoolOp op [a] pos) t:=by
 with_unfolding_all
  exact fun ai s σ H Q I hw=>BoolOp_one (h ai s σ H Q I hw)
theorem zhl (ha:PE X a ta) (hb:PE X (.BoolOp .And (b::rest) pos) tb):PE X (.BoolOp .And (a::b::rest) pos) (zsJ ta tb):=by
 with_unfolding_all
  intro ai s σ H Q I h
  refine BoolOp_and (thn (ha ai s σ H _ I h) fun v s1 ⟨x,H1,I1,r1,q1⟩=>?_)
  obtain ⟨c,rfl,q1⟩:=q1
  cases r1
  refine wpAny_truthy_bool ?_
  cases c with
  | true=>exact hb ai s1 σ H1 Q I1 q1
  | false=>exact ⟨.bl false,H1,I1,rfl,q1⟩
def tIf (t:TT) (ta tb:TE):TE:=fun σ H Q=>t σ H fun c H1=>if c=true then ta σ H1 Q else tb σ H1 Q
theorem zhD {c:Expr} (hc:PT X c tA) (ha:PE X a ta) (hb:PE X b tb):PE X (.IfExp c a b pos) (tIf tA ta tb):=by
 with_unfolding_all
  intro ai s σ H Q I h
  refine wpAny_IfExp (thn (hc ai s σ H _ I h) fun d s1 ⟨H1,I1,q1⟩=>?_)
  cases d with
  | true=>exact ha ai s1 σ H1 Q I1 q1
  | false=>exact hb ai s1 σ H1 Q I1 q1
end
end
section
def SqL (K:W.Frag) (H:Hp) (a:Addr) (xs:List V):Prop:=
 Rd H a (.lst xs) \/
  ∃(o:Obj) (its:Array Value) (n:Nat),K.lookup a=some o/\o.cls=.type "list" /\ o.dict=none/\o.data=.seq its n/\its.size<=sizeLine/\Vals xs its.toList
def SqT (K:W.Frag) (H:Hp) (a:Addr) (xs:List V):Prop:=
 Rd H a (.tup xs) \/
  ∃(o:Obj) (its:Array Value) (n:Nat),K.lookup a=some o/\o.cls=.type "tuple" /\ o.data=.seq its n/\its.size<=sizeLine/\Vals xs its.toList
def absV:Value->Option V
 | .none=>some .non
 | .bool b=>some (.bl b)
 | .int i _=>some (.int i)
 | .str x _=>some (.str x)
 | .bytes b _=>some (.byt b)
 | .float b _=>some (.flt b)
 | .ref a=>some (.ref a)
 | .type n=>some (.ty n)
 | _=>none
theorem RelV.abs {x:V} {u:Value} (r:RelV x u):absV u=some x:=by
 cases x with
 | non=>cases r;rfl
 | bl _=>cases r;rfl
 | int _=>obtain ⟨t,rfl⟩:=r;rfl
 | str _=>obtain ⟨t,rfl⟩:=r;rfl
 | byt _=>obtain ⟨t,rfl⟩:=r;rfl
 | flt _=>obtain ⟨t,rfl⟩:=r;rfl
 | ref _=>cases r;rfl
 | ty _=>cases r;rfl
theorem RelV.inj {x y:V} {u:Value} (r:RelV x u) (q:RelV y u):x=y:=Option.some.inj (r.abs.symm.trans q.abs)
theorem Vals.inj:∀ {xs ys:List V} {us:List Value},Vals xs us->Vals ys us->xs=ys
 | _,_,_,.nil,.nil=>rfl
 | _,_,_,.cons r t,.cons r' t'=>by rw [r.inj r',Vals.inj t t']
section
variable {X:Cx} {ai:List (Addr × Obj)} {σ:St} {H:Hp} {s:Shared} {a:Addr} {xs ys:List V}
theorem SqL.of {K:W.Frag} (h:H a=some (.lst xs)):SqL K H a xs:=.inl (.inl h)
theorem SqT.of {K:W.Frag} (h:H a=some (.tup xs)):SqT K H a xs:=.inl (.inl h)
theorem Inv.list (I:Inv X ai σ H s) (h:SqL X.K H a xs):∃its:List Value,Vals xs its/\PlainL s.heap a its.toArray/\xs.length<=sizeLine:=by
 rcases h with h | ⟨o,its,n,hk,hc,hd,hs,hz,r⟩
 ·obtain ⟨z,its,n,r,e⟩:=h.ok I.hok
  exact ⟨its,r,⟨_,n,e,rfl,rfl,rfl⟩,z⟩
 ·refine ⟨its.toList,r,⟨o,n,I.kIn a o hk,hc,hd,by simpa using hs⟩,?_⟩
  have e:=r.length
  simp only [Array.length_toList] at e
  omega
theorem Inv.tuple (I:Inv X ai σ H s) (h:SqT X.K H a xs):∃its:List Value,Vals xs its/\IsTup s.heap a its.toArray/\xs.length<=sizeLine:=by
 rcases h with h | ⟨o,its,n,hk,hc,hs,hz,r⟩
 ·obtain ⟨z,its,r,p⟩:=h.ok I.hok
  exact ⟨its,r,p,z⟩
 ·refine ⟨its.toList,r,⟨o,I.kIn a o hk,hc,n,by simpa using hs⟩,?_⟩
  have e:=r.length
  simp only [Array.length_toList] at e
  omega
theorem Inv.list_inj (I:Inv X ai σ H s) (h:SqL X.K H a xs) (h':SqL X.K H a ys):xs=ys:=by
 obtain ⟨its,r,⟨o,n,e,_,_,d⟩,_⟩:=I.list h
 obtain ⟨its',r',⟨o',n',e',_,_,d'⟩,_⟩:=I.list h'
 rw [e] at e';cases e'
 rw [d] at d'
 injection d' with d1 _
 have:its=its':=by simpa using congrArg Array.toList d1
 subst this
 exact r.inj r'
theorem Inv.tuple_inj (I:Inv X ai σ H s) (h:SqT X.K H a xs) (h':SqT X.K H a ys):xs=ys:=by
 obtain ⟨its,r,⟨o,e,_,n,d⟩,_⟩:=I.tuple h
 obtain ⟨its',r',⟨o',e',_,n',d'⟩,_⟩:=I.tuple h'
 rw [e] at e';cases e'
 rw [d] at d'
 injection d' with d1 _
 have:its=its':=by simpa using congrArg Array.toList d1
 subst this
 exact r.inj r'
end
abbrev Cx.wish (X:Cx) (E:Value->Shared->Prop):Cx := { X with xe:=E }
abbrev Cx.nox (X:Cx):Cx:=X.wish fun _ _=>False
theorem Cx.Ok.wish {X:Cx} (ok:X.Ok) (E:Value->Shared->Prop):(X.wish E).Ok:=
 ⟨ok.mod,ok.kind,ok.glob,ok.blt,ok.above,ok.inj,ok.has,ok.cab,ok.hd,ok.frames,ok.stk,ok.exf,ok.bs,ok.bsz,ok.noex,ok.exfs,ok.funs,ok.frf⟩
theorem Cx.Ok.unwish {X:Cx} {E:Value->Shared->Prop} (ok:(X.wish E).Ok):X.Ok:=
 ⟨ok.mod,ok.kind,ok.glob,ok.blt,ok.above,ok.inj,ok.has,ok.cab,ok.hd,ok.frames,ok.stk,ok.exf,ok.bs,ok.bsz,ok.noex,ok.exfs,ok.funs,ok.frf⟩
section
variable {X:Cx} {ai:List (Addr × Obj)} {σ:St} {H:Hp} {s:Shared} {E:Value->Shared->Prop}
theorem Inv.wish (I:Inv X ai σ H s) (E:Value->Shared->Prop):Inv (X.wish E) ai σ H s:=⟨I.ok.wish E,I.os,I.bare,I.bf,I.loc,I.cell,I.free,I.freeC,I.pin,I.hok,I.len⟩
theorem Inv.unwish (I:Inv (X.wish E) ai σ H s):Inv X ai σ H s:=⟨I.ok.unwish,I.os,I.bare,I.bf,I.loc,I.cell,I.free,I.freeC,I.pin,I.hok,I.len⟩
theorem SP.unwish {D:Ends} {f:Flow} {s':Shared} (h:SP (X.wish E) ai D f s'):SP X ai D f s':=by
 cases f with
 | next=>obtain ⟨σ',H',I,q⟩:=h;exact ⟨σ',H',I.unwish,q⟩
 | brk=>obtain ⟨σ',H',I,q⟩:=h;exact ⟨σ',H',I.unwish,q⟩
 | cont=>obtain ⟨σ',H',I,q⟩:=h;exact ⟨σ',H',I.unwish,q⟩
 | ret u=>obtain ⟨v,σ',H',I,r,q⟩:=h;exact ⟨v,σ',H',I.unwish,r,q⟩
theorem PSs.nox {st:List Stmt} {t:TS} (h:PSs X.nox st t):PSs X st t:=by
 with_unfolding_all
  exact fun ai s σ H D I hw=>
   wpAny_mono (h ai s σ H D (I.wish _) hw) (fun _ _ q=>q.unwish) fun _ _ z=>False.elim z
end
section
variable {X:Cx} {st:Stmt} {rest:List Stmt} {t u:TS} {e:Expr} {te:TE} {pos:Pos}
def zsK:TS:=fun D σ H=>D.nx σ H
def tSeq (t u:TS):TS:=fun D σ H=>t { D with nx:=u D } σ H
theorem zaC:PSs X [] zsK:=by
 with_unfolding_all
  exact fun _ _ σ H _ I h=>wpAny_execs_nil ⟨σ,H,I,h⟩
theorem zag (h1:PS X st t) (h2:PSs X rest u):PSs X (st::rest) (tSeq t u):=by
 with_unfolding_all
  intro ai s σ H D I h
  refine wpAny_execs_cons (thn (h1 ai s σ H { D with nx:=u D } I h) fun f s1 q=>?_)
  cases f with
  | next=>
    obtain ⟨σ',H',I',q⟩:=q
    exact h2 ai s1 σ' H' D I' q
  | ret v=>exact q
  | brk=>exact q
  | cont=>exact q
theorem zaf (h1:PS X st t):PSs X [st] t:=by
 with_unfolding_all
  intro ai s σ H D I h
  refine wpAny_execs_cons (thn (h1 ai s σ H D I h) fun f s1 q=>?_)
  cases f with
  | next=>exact wpAny_execs_nil q
  | ret v=>exact q
  | brk=>exact q
  | cont=>exact q
theorem Inv.quiet {ai:List (Addr × Obj)} {σ:St} {H:Hp} {s:Shared} (I:Inv X ai σ H s):interactive X.env=false:=by simp [interactive,I.ok.kind]
def zrj (te:TE):TS:=fun D σ H=>te σ H fun _ H1=>D.nx σ H1
theorem zc2 (he:PE X e te) (hs:swapsWith e none pos.line X.env=pure false:=by rfl):PS X (.Expr e pos) (zrj te):=by
 with_unfolding_all
  intro ai s σ H D I h
  exact wpAny_Expr_any (thn (he ai s σ H _ I h) fun v s1 ⟨x,H1,I1,r1,q1⟩=>⟨σ,H1,I1,q1⟩) I.quiet hs
def tRet (te:TE):TS:=fun D σ H=>te σ H D.rt
theorem zak (he:PE X e te):PS X (.Return (some e) pos) (tRet te):=by
 with_unfolding_all
  intro ai s σ H D I h
  exact wpAny_Return_some (thn (he ai s σ H _ I h) fun v s1 ⟨x,H1,I1,r1,q1⟩=>⟨x,σ,H1,I1,r1,q1⟩)
def tIfS (c:TT) (t u:TS):TS:=fun D σ H=>c σ H fun b H1=>if b=true then t D σ H1 else u D σ H1
theorem za9 {c:Expr} {a b:List Stmt} {tc:TT} (hc:PT X c tc) (ha:PSs X a t) (hb:PSs X b u):PS X (.If c a b pos) (tIfS tc t u):=by
 with_unfolding_all
  intro ai s σ H D I h
  refine wpAny_If (thn (hc ai s σ H _ I h) fun d s1 ⟨H1,I1,q1⟩=>?_)
  cases d with
  | true=>exact ha ai s1 σ H1 D I1 q1
  | false=>exact hb ai s1 σ H1 D I1 q1
def zrk:TS:=fun _ _ _=>False
theorem zcD:PS X st zrk:=by
 with_unfolding_all
  exact fun _ _ _ _ _ _ h=>h.elim
end
abbrev TG:=V->St->Hp->(St->Hp->Prop)->Prop
abbrev TGs:=List V->St->Hp->(St->Hp->Prop)->Prop
def PG (X:Cx) (target:Expr) (t:TG):Prop:=
 ∀(ai:List (Addr × Obj)) (s:Shared) (σ:St) (H:Hp) (v:V) (u:Value) (Q:St->Hp->Prop),Inv X ai σ H s->RelV v u->t v σ H Q->
  wpAny (model X.prog X.w) X.A (assign target X.env u) (fun _ s'=>∃ σ' H',Inv X ai σ' H' s'/\Q σ' H') X.xe s
def PGs (X:Cx) (ts:List Expr) (t:TGs):Prop:=
 ∀(ai:List (Addr × Obj)) (s:Shared) (σ:St) (H:Hp) (vs:List V) (us:List Value) (Q:St->Hp->Prop),Inv X ai σ H s->Vals vs us->t vs σ H Q->
  wpAny (model X.prog X.w) X.A (assignInOrder ((assignEach ts X.env).map (·.2)) us) (fun _ s'=>∃ σ' H',Inv X ai σ' H' s'/\Q σ' H') X.xe s
abbrev TSet:=V->V->V->Hp->(Hp->Prop)->Prop
def PSet (X:Cx) (t:TSet):Prop:=
 ∀(ai:List (Addr × Obj)) (s:Shared) (σ:St) (H:Hp) (o i v:V) (ov iv u:Value) (Q:Hp->Prop),Inv X ai σ H s->RelV o ov->RelV i iv->RelV v u->t o i v H Q->
  wpAny (model X.prog X.w) X.A (setItem ov iv u) (fun _ s'=>∃H',Inv X ai σ H' s'/\Q H') X.xe s
abbrev TIp:=V->V->Hp->VK->Prop
def PIp (X:Cx) (op:Operator) (t:TIp):Prop:=
 ∀(ai:List (Addr × Obj)) (s:Shared) (σ:St) (H:Hp) (x y:V) (v u:Value) (Q:VK),Inv X ai σ H s->RelV x v->RelV y u->t x y H Q->
  wpAny (model X.prog X.w) X.A (inplaceOp op v u) (EP X ai σ Q) X.xe s
section
variable {X:Cx} {pos:Pos}
def zoh (i:Nat):TG:=fun v σ H Q=>Q (σ.set i (some v)) H
theorem zbN {i:Nat} {x:Str} (hN:X.N.Nodup) (hi:X.N[i]?=some x) (hx:Loc X.env.scope x) (hf:X.fn x=true\/X.env.scope.names.lookup x=some .local:=by first | exact .inl rfl | exact .inr rfl | assumption):PG X (.Name x pos) (zoh i):=by
 intro ai s σ H v u Q I r h
 exact wpAny_assign_Name (zfQ I hN hi hx r (fun s' I'=>⟨_,H,I',h⟩) hf)
def gNil:TGs:=fun vs σ H Q=>vs=[]/\Q σ H
def zsL (t:TG) (u:TGs):TGs:=fun vs σ H Q=>∃v r,vs=v::r/\t v σ H fun σ' H'=>u r σ' H' Q
theorem zqa:PGs X [] gNil:=by
 intro ai s σ H vs us Q I r h
 obtain ⟨e,h⟩:=h
 subst e
 cases r
 exact assignInOrder_nil ⟨σ,H,I,h⟩
theorem zkp {e:Expr} {es:List Expr} {t:TG} {u:TGs} (h1:PG X e t) (h2:PGs X es u)
  (hs:(assignEach (e::es) X.env).map (·.2)=assign e X.env::(assignEach es X.env).map (·.2):=by rfl):PGs X (e::es) (zsL t u):=by
 intro ai s σ H vs us Q I r h
 obtain ⟨v,vr,e1,h⟩:=h
 subst e1
 cases r with
 | cons r rr=>
   rw [hs]
   refine assignInOrder_cons (thn (h1 ai s σ H _ _ _ I r h) fun _ s1 ⟨σ1,H1,I1,q1⟩=>?_)
   exact h2 ai s1 σ1 H1 _ _ Q I1 rr q1
def gTup (K:W.Frag) (n:Nat) (t:TGs):TG:=fun v σ H Q=>∃a xs,v=.ref a/\SqT K H a xs/\xs.length=n/\t xs σ H Q
theorem zrl {es:List Expr} {k:Nat} {t:TGs} {n:Nat} (hc:X.calm=true) (h:PGs X es t)
  (hn:(assignEach es X.env).length=n:=by rfl) (hst:(assignEach es X.env).findIdx? (·.1)=none:=by rfl):PG X (.Tuple es k pos) (gTup X.K n t):=by
 intro ai s σ H v u Q I r hw
 obtain ⟨a,xs,e1,hq,hl,hw⟩:=hw
 subst e1
 cases r
 obtain ⟨its,rv,ht,hz⟩:=I.tuple hq
 refine assign_Tuple_tuple (I.ok.hd hc) ht (by simp [hn,<-hl,rv.length]) hst fun h' hx=>?_
 have I1:Inv X ai σ H { s with heap:=h' }:=I.kept (t':=s.toks) fun b o e=>hx b o (Nat.ne_of_lt (Heap.lt_size e)) e
 exact h ai _ σ H xs _ Q I1 (by simpa using rv) hw
def gSub (to ti:TE) (t:TSet):TG:=fun v σ H Q=>to σ H fun o H1=>ti σ H1 fun i H2=>t o i v H2 fun H3=>Q σ H3
theorem zpl {o i:Expr} {to ti:TE} {t:TSet} (ho:PE X o to) (hi:PE X i ti) (hs:PSet X t)
  (ha:∀v,assign (.Subscript o i pos) X.env v=(do
    let ov <-holding [v] (eval o X.env)
    let iv <-holding [v,ov] (eval i X.env)
    standAt pos
    holding [v,ov,iv] (setItem ov iv v)
    release [v,ov,iv] []):=by intro _;rfl):PG X (.Subscript o i pos) (gSub to ti t):=by
 with_unfolding_all
  intro ai s σ H v u Q I r h
  rw [ha]
  refine wpAny_bind (wpAny_holding (thn (ho ai s σ H _ I h) fun ov s1 ⟨x,H1,I1,r1,q1⟩=>?_))
  refine wpAny_bind (wpAny_holding (thn (hi ai s1 σ H1 _ I1 q1) fun iv s2 ⟨y,H2,I2,r2,q2⟩=>?_))
  refine wpAny_bind (wpAny_standAt (wpAny_bind (wpAny_holding (thn (hs ai s2 σ H2 x y v ov iv u _ I2 r1 r2 r q2) fun _ s3 ⟨H3,I3,q3⟩=>?_))))
  exact wpAny_release ⟨σ,H3,I3,q3⟩
def tAsg (te:TE) (g:TG):TS:=fun D σ H=>te σ H fun x H1=>g x σ H1 D.nx
theorem zpm {tg e:Expr} {te:TE} {g:TG} (he:PE X e te) (hg:PG X tg g) (hs:swapsWithSole [tg] e pos.line X.env=pure false:=by rfl) (hw:swappedStores [tg] e X.env=pure none:=by rfl)
  (h1:(assignEach [tg] X.env).map (·.2)=[assign tg X.env]:=by rfl):PS X (.Assign [tg] e pos) (tAsg te g):=by
 with_unfolding_all
  intro ai s σ H D I h
  refine wpAny_Assign_stores (thn (he ai s σ H _ I h) fun v s1 ⟨x,H1,I1,r1,q1⟩=>?_) hs hw
  rw [h1]
  exact thn (hg ai s1 σ H1 x v _ I1 r1 q1) fun _ s2 q=>q
theorem zaz {i:Nat} {x:Str} {e:Expr} {te:TE} {pos':Pos} (hN:X.N.Nodup) (hi:X.N[i]?=some x) (hx:Loc X.env.scope x) (he:PE X e te) (hs:swapsWith e (some (.Name x pos')) pos.line X.env=pure false:=by rfl) (hf:X.fn x=true\/X.env.scope.names.lookup x=some .local:=by first | exact .inl rfl | exact .inr rfl | assumption):
  PS X (.Assign [.Name x pos'] e pos) (tAsg te (zoh i)):=by
 with_unfolding_all
  intro ai s σ H D I h
  refine wpAny_Assign_Name (thn (he ai s σ H _ I h) fun v s1 ⟨y,H1,I1,r1,q1⟩=>?_) hs
  exact zfQ I1 hN hi hx r1 (fun s2 I2=>⟨_,H1,I2,q1⟩) hf
def tAug (i:Nat) (te:TE) (ti:TIp):TS:=fun D σ H=>∃x,σ[i]?=some (some x)/\te σ H fun y H1=>ti x y H1 fun z H2=>D.nx (σ.set i (some z)) H2
theorem zrm {i:Nat} {x:Str} {e:Expr} {te:TE} {op:Operator} {ti:TIp} {pos':Pos} (hN:X.N.Nodup) (hi:X.N[i]?=some x) (hx:Loc X.env.scope x) (he:PE X e te) (ho:PIp X op ti) (hf:X.fn x=true\/X.env.scope.names.lookup x=some .local:=by first | exact .inl rfl | exact .inr rfl | assumption):
  PS X (.AugAssign (.Name x pos') op e pos) (tAug i te ti):=by
 with_unfolding_all
  intro ai s σ H D I h
  obtain ⟨v,e1,h⟩:=h
  obtain ⟨m,hn,hl⟩:=I.loc
  have vis:Vis X.env.scope x:=by rcases hx with k | k;exact .inl k;exact .inr (.inl k)
  obtain ⟨u,r,l⟩:=hl i x v hi e1 vis
  refine wpAny_AugAssign_Name ?_
  have go:wpAny (model X.prog X.w) X.A (eval e X.env) (fun w s₂=>wpAny (model X.prog X.w) X.A (inplaceOp op u w) (fun r s₃=>wpAny (model X.prog X.w) X.A (storeName X.env x r) (fun _=>SP X ai D .next) X.xe s₃) X.xe s₂) X.xe s:=by
   refine thn (he ai s σ H _ I h) fun w s1 ⟨y,H1,I1,r1,q1⟩=>?_
   refine thn (ho ai s1 σ H1 v y u w _ I1 r r1 q1) fun z s2 ⟨zv,H2,I2,r2,q2⟩=>?_
   exact zfQ I2 hN hi hx r2 (fun s3 I3=>⟨_,H2,I3,q2⟩) hf
  rcases l with ⟨hk,hm⟩ | ⟨hk,c,hc,hcell⟩
  ·exact wpAny_loadName_local I.ok.kind hk hn hm go
  ·rcases hk with hk | hk
   ·exact wpAny_loadName_cell I.ok.kind hk hc hcell go
   ·rcases hx with k | k
    ·have:X.env.scope.names.lookup x=some .free:=hk
     rw [k] at this;cases this
    ·have:X.env.scope.names.lookup x=some .free:=hk
     rw [k] at this;cases this
def ipI (f:Int->Int->Int):TIp:=fun x y H Q=>∃i j,x=.int i/\y=.int j/\Q (.int (f i j)) H
theorem zrn:PIp X .Add (ipI fun i j=>i+j):=by
 intro ai s σ H x y v u Q I r1 r2 h
 obtain ⟨i,j,e1,e2,q⟩:=h
 subst e1;subst e2
 obtain ⟨t,rfl⟩:=r1
 obtain ⟨t',rfl⟩:=r2
 exact iadd_int ⟨.int _,H,I.tok _,⟨_,rfl⟩,q⟩
end
section
variable {X:Cx} {pos:Pos}
def zpn (c:TT) (tb:TS):TS:=fun D σ H=>∃W:Nat->St->Hp->Prop,(∃m,W m σ H)/\∀m σ H,W m σ H->
 c σ H fun b H1=>if b=true then ∃N:St->Hp->Prop,(∀ σ' H',N σ' H'->∃m',m'<m/\W m' σ' H')/\tb { D with nx:=N,ct:=N,bk:=D.nx } σ H1 else D.nx σ H1
theorem zkq {c:Expr} {body:List Stmt} {tc:TT} {tb:TS} (hp:PassesOwn (model X.prog X.w) X.A X.env X.xe) (hc:PT X c tc) (hb:PSs X body tb):PS X (.While c body [] pos) (zpn tc tb):=by
 with_unfolding_all
  intro ai s σ H D I h
  obtain ⟨W,⟨m0,w0⟩,turn⟩:=h
  refine wpAny_While (codeAny_whileLoop (fun n s'=>∃ σ' H',Inv X ai σ' H' s'/\W n σ' H') ?_ m0 ⟨σ,H,I,w0⟩)
  rintro n s1 ⟨σ1,H1,I1,w1⟩
  refine wpAny_passesOwn hp (thn (hc ai s1 σ1 H1 _ I1 (turn n σ1 H1 w1)) fun b s2 ⟨H2,I2,q2⟩=>?_)
  cases b with
  | true=>
    obtain ⟨N,hN,q2⟩:=q2
    rw [if_pos rfl]
    refine wpAny_passesOwn hp (thn (hb ai s2 σ1 H2 _ I2 q2) fun f s3 q3=>?_)
    cases f with
    | next=>
      obtain ⟨σ3,H3,I3,n3⟩:=q3
      obtain ⟨m',hm,w3⟩:=hN σ3 H3 n3
      exact ⟨m',hm,σ3,H3,I3,w3⟩
    | cont=>
      obtain ⟨σ3,H3,I3,n3⟩:=q3
      obtain ⟨m',hm,w3⟩:=hN σ3 H3 n3
      exact ⟨m',hm,σ3,H3,I3,w3⟩
    | brk=>exact q3
    | ret v=>exact q3
  | false=>
    rw [if_neg Bool.false_ne_true]
    exact wpAny_execs_nil ⟨σ1,H2,I2,q2⟩
end
structure It where
 go:Nat->Hp->Prop
 yld:Nat->Hp->V->Hp->Prop
 stop:Nat->Hp->Prop
def FpOk (X:Cx) (ai:List (Addr × Obj)) (H:Hp) (b:Addr):Prop:=
 H b=none/\b≠X.env.locals/\b∉X.fs/\(b∈X.ex\/X.s₀.heap.objs.size<=b)/\(∀x c,X.env.cells.lookup x=some c->c≠b)/\∀p∈X.pn++ai,p.1≠b
theorem Inv.fpOk {X:Cx} {ai:List (Addr × Obj)} {σ:St} {H H':Hp} {s:Shared} {b:Addr} (I:Inv X ai σ H s) (hb:s.heap.objs.size<=b) (hn:H' b=none):FpOk X ai H' b:=by
 refine ⟨hn,Nat.ne_of_gt (Nat.lt_of_lt_of_le I.lt hb),I.nofs hb,.inr (Nat.le_trans I.sz hb),fun x c e z=>?_,fun p hp z=>?_⟩
 ·obtain ⟨v,q⟩:=I.cell x c e
  exact absurd (Nat.lt_of_lt_of_le q.lt (by rw [z];exact hb)) (Nat.lt_irrefl _)
 ·exact absurd (Nat.lt_of_lt_of_le (Heap.lt_size (I.pin p hp).1) (by rw [z];exact hb)) (Nat.lt_irrefl _)
structure Turn (P:Program) (w:World) (K:W.Frag) (tg:Expr) (J:It) (fp:List Addr) (it:Addr) (tn:Nat->Heap->Prop):Prop where
 mem:it∈fp
 obj:∀i h,tn i h->∀b∈fp,∃o,h.get? b=some o/\∀v,o.data≠.cell v
 keep:∀i h h',tn i h->(∀b∈fp,∀o,h.get? b=some o->h'.get? b=some o)->tn i h'
 item:∀(X:Cx),X.prog=P->X.w=w->X.K=K->X.calm=true->∀(i:Nat) (ai:List (Addr × Obj)) (s:Shared) (σ:St) (H:Hp) (E:Value->Shared->Prop),Inv X ai σ H s->(∀b∈fp,FpOk X ai H b)->tn i s.heap->J.go i H->
  wpAny (model P w) X.A (pyNext (.ref it)) (fun r s1=>∃u,r=some u/\
   wpAny (model P w) X.A (letOwnedTupleGo tg (.ref it) u) (fun _ s2=>∃x H',Inv X ai σ H' s2/\RelV x u/\J.yld i H x H'/\tn (i+1) s2.heap/\∀b∈fp,H' b=none) E s1) E s
 done:∀(X:Cx),X.prog=P->X.w=w->X.K=K->X.calm=true->∀(i:Nat) (ai:List (Addr × Obj)) (s:Shared) (σ:St) (H:Hp) (E:Value->Shared->Prop),Inv X ai σ H s->(∀b∈fp,FpOk X ai H b)->tn i s.heap->J.stop i H->
  wpAny (model P w) X.A (pyNext (.ref it)) (fun r s1=>r=none/\Inv X ai σ H s1) E s
 self:∀(A:Around) (i:Nat) (s:Shared) (Q:Value->Shared->Prop) (E:Value->Shared->Prop),tn i s.heap->Q (.ref it) s->wpAny (model P w) A (pyIter (.ref it)) Q E s
abbrev TI:=St->Hp->(It->Hp->Prop)->Prop
def PIE (X:Cx) (ai:List (Addr × Obj)) (σ:St) (tg:Expr) (R:It->Hp->Prop) (itv:Value) (s2:Shared):Prop:=
 ∃(it:Addr) (fp:List Addr) (tn:Nat->Heap->Prop) (J:It) (H':Hp),itv=.ref it/\Inv X ai σ H' s2/\Turn X.prog X.w X.K tg J fp it tn/\tn 0 s2.heap/\(∀b∈fp,FpOk X ai H' b)/\R J H'
def PI (X:Cx) (tg iter:Expr) (wi:TI):Prop:=
 ∀(ai:List (Addr × Obj)) (s:Shared) (σ:St) (H:Hp) (R:It->Hp->Prop),Inv X ai σ H s->wi σ H R->
  wpAny (model X.prog X.w) X.A (eval iter X.env) (fun v s1=>wpAny (model X.prog X.w) X.A (pyIter v) (PIE X ai σ tg R) X.xe s1) X.xe s
theorem zlh {M:Model} {A:Around} {E:Value->Shared->Prop} {s:Shared} {tg:Expr} {it:Addr} {u:Value} {o:Obj} {n:String} {vs:Array Value} {Q:Unit->Shared->Prop} (ho:s.heap.get? it=some o) (hc:o.cls=.type n) (hd:o.data=.fields vs)
  (hn:["enumerate","zip","dict_itemiterator","dict_reverseitemiterator","odict_iterator","itertools.zip_longest","itertools.pairwise"].contains n=false) (hQ:Q () s):wpAny M A (letOwnedTupleGo tg (.ref it) u) Q E s:=by
 unfold letOwnedTupleGo
 cases tg<;>first
  | exact wpAny_pure hQ
  | (cases u<;>first
      | exact wpAny_pure hQ
      | (refine wpAny_bind (wpAny_load ho ?_)
         rw [hc,hd]
         show wpAny M A (if (["enumerate","zip","dict_itemiterator","dict_reverseitemiterator","odict_iterator","itertools.zip_longest","itertools.pairwise"].contains n&&vs[0]?==some (rawInt _))=true then _ else _) Q E s
         rw [if_neg (by intro h;rw [hn,Bool.false_and] at h;cases h)]
         exact wpAny_pure hQ))
def Itl (K:W.Frag) (a:Addr):It:=
 ⟨fun i H=>∃xs x,SqL K H a xs/\xs[i]?=some x,fun i H x H'=>H'=H/\∀xs,SqL K H a xs->xs[i]?=some x,fun i H=>∃xs,SqL K H a xs/\xs.length<=i⟩
def Itt (K:W.Frag) (a:Addr):It:=
 ⟨fun i H=>∃xs x,SqT K H a xs/\xs[i]?=some x,fun i H x H'=>H'=H/\∀xs,SqT K H a xs->xs[i]?=some x,fun i H=>∃xs,SqT K H a xs/\xs.length<=i⟩
def Itr (lo:Int) (n:Nat):It:=⟨fun i _=>i<n,fun i H x H'=>H'=H/\x=.int (lo+i),fun i _=>n<=i⟩
theorem zl6 {P:Program} {w:World} {K:W.Frag} {tg:Expr} (a it:Addr):Turn P w K tg (Itl K a) [it] it (fun i h=>h.IsListIter it a i) where
 mem:=by simp
 obj:=fun i h st b hb=>by
  have e:b=it:=by simpa using hb
  subst e
  obtain ⟨o,e,c,d⟩:=st
  exact ⟨o,e,fun v z=>by rw [d] at z;cases z⟩
 keep:=fun i h h' st k=>st.at fun o e=>k it (by simp) o e
 item:=by
  intro X hP hw hK hc i ai s σ H E I hf st hg
  subst hP hw hK
  obtain ⟨xs,x,hq,hx⟩:=hg
  obtain ⟨its,rv,p,hz⟩:=I.list hq
  obtain ⟨u,hu,ru⟩:=rv.get hx
  obtain ⟨f0,f1,f2,f3,f4,f5⟩:=hf it (by simp)
  refine wpAny_pyNext_list_item st p.isList (x:=u) (by simpa using hu) fun h' st' sb=>?_
  have I1:Inv X ai σ H { s with heap:=h' }:=I.turned (t':=s.toks) (fun b o hb e=>(sb.2 b hb).trans e) f0 f1 f3 f4 f5
  obtain ⟨o,e,c,d⟩:=id st'
  exact ⟨u,rfl,zlh (s := { s with heap:=h' }) e c d (by decide) ⟨x,H,I1,ru,⟨rfl,fun ys hy=>by rw [I.list_inj hy hq];exact hx⟩,st',fun b hb=>(hf b hb).1⟩⟩
 done:=by
  intro X hP hw hK hc i ai s σ H E I hf st hg
  subst hP hw hK
  obtain ⟨xs,hq,hx⟩:=hg
  obtain ⟨its,rv,p,hz⟩:=I.list hq
  obtain ⟨f0,f1,f2,f3,f4,f5⟩:=hf it (by simp)
  have hl:=rv.length
  exact wpAny_pyNext_list_end (I.ok.hd hc) st p.isList (by simp;omega) fun h' eb=>⟨rfl,I.turned (t':=s.toks) (fun b o hb e=>eb b o hb e) f0 f1 f3 f4 f5⟩
 self:=fun _ _ _ _ _ st h=>wpAny_pyIter_listiter st h
theorem zli {P:Program} {w:World} {K:W.Frag} {tg:Expr} (a it:Addr):Turn P w K tg (Itt K a) [it] it (fun i h=>h.IsTupleIter it a i) where
 mem:=by simp
 obj:=fun i h st b hb=>by
  have e:b=it:=by simpa using hb
  subst e
  obtain ⟨o,e,c,d⟩:=st
  exact ⟨o,e,fun v z=>by rw [d] at z;cases z⟩
 keep:=fun i h h' st k=>st.at fun o e=>k it (by simp) o e
 item:=by
  intro X hP hw hK hc i ai s σ H E I hf st hg
  subst hP hw hK
  obtain ⟨xs,x,hq,hx⟩:=hg
  obtain ⟨its,rv,p,hz⟩:=I.tuple hq
  obtain ⟨u,hu,ru⟩:=rv.get hx
  obtain ⟨f0,f1,f2,f3,f4,f5⟩:=hf it (by simp)
  refine wpAny_pyNext_tuple_item st (show s.heap.IsTuple a its.toArray from p) (x:=u) (by simpa using hu) fun h' st' sb=>?_
  have I1:Inv X ai σ H { s with heap:=h' }:=I.turned (t':=s.toks) (fun b o hb e=>(sb.2 b hb).trans e) f0 f1 f3 f4 f5
  obtain ⟨o,e,c,d⟩:=id st'
  exact ⟨u,rfl,zlh (s := { s with heap:=h' }) e c d (by decide) ⟨x,H,I1,ru,⟨rfl,fun ys hy=>by rw [I.tuple_inj hy hq];exact hx⟩,st',fun b hb=>(hf b hb).1⟩⟩
 done:=by
  intro X hP hw hK hc i ai s σ H E I hf st hg
  subst hP hw hK
  obtain ⟨xs,hq,hx⟩:=hg
  obtain ⟨its,rv,p,hz⟩:=I.tuple hq
  obtain ⟨f0,f1,f2,f3,f4,f5⟩:=hf it (by simp)
  have hl:=rv.length
  exact wpAny_pyNext_tuple_end (I.ok.hd hc) st (show s.heap.IsTuple a its.toArray from p) (by simp;omega) fun h' eb=>⟨rfl,I.turned (t':=s.toks) (fun b o hb e=>eb b o hb e) f0 f1 f3 f4 f5⟩
 self:=fun _ _ _ _ _ st h=>wpAny_pyIter_tupleiter st h
theorem zlj {P:Program} {w:World} {K:PySem.W.Frag} {tg:Expr} (it:Addr) (lo:Int) (n:Nat):Turn P w K tg (Itr lo n) [it] it (fun i h=>IsRangeIter h it (lo+(i:Nat)*1) ((n:Int)-(i:Nat)) 1) where
 mem:=by simp
 obj:=fun i h st b hb=>by
  have e:b=it:=by simpa using hb
  subst e
  exact ⟨_,st,fun v z=>by
   have z':Data.fields _=Data.cell v:=z
   cases z'⟩
 keep:=fun i h h' st k=>k it (by simp) _ st
 item:=by
  intro X hP hw hK hc i ai s σ H E I hf st hg
  subst hP hw hK
  obtain ⟨f0,f1,f2,f3,f4,f5⟩:=hf it (by simp)
  have W:=Walks.range (prog:=X.prog) (w:=X.w) (I.ok.hd hc) it lo 1 n
  refine W.item i s _ _ hg st fun v h' tk hv st' kk=>?_
  obtain ⟨t,rfl⟩:=hv
  have I1:Inv X ai σ H { s with heap:=h',toks:=tk }:=I.turned (fun b o hb e=>kk b o (by simpa using hb) e) f0 f1 f3 f4 f5
  refine ⟨_,rfl,zlh (s := { s with heap:=h',toks:=tk }) (n := "range_iterator") st' rfl rfl (by decide) ⟨.int (lo+i),H,I1,⟨t,?_⟩,⟨rfl,rfl⟩,st',fun b hb=>(hf b hb).1⟩⟩
  rw [Int.mul_one]
 done:=by
  intro X hP hw hK hc i ai s σ H E I hf st hg
  subst hP hw hK
  obtain ⟨f0,f1,f2,f3,f4,f5⟩:=hf it (by simp)
  exact wpAny_pyNext_range_end (I.ok.hd hc) st (by have:n<=i:=hg;omega) fun h' eb=>⟨rfl,I.turned (t':=s.toks) (fun b o hb e=>eb b o hb e) f0 f1 f3 f4 f5⟩
 self:=fun _ _ _ _ _ st h=>wpAny_pyIter_rangeiter st h
end
section
section
variable {X:Cx} {tg:Expr}
def zsM (K:W.Frag) (tl:TE):TI:=fun σ H R=>tl σ H fun x H1=>∃a,x=.ref a/\(∃xs,SqL K H1 a xs)/\R (Itl K a) H1
def iTup (K:W.Frag) (tl:TE):TI:=fun σ H R=>tl σ H fun x H1=>∃a,x=.ref a/\(∃xs,SqT K H1 a xs)/\R (Itt K a) H1
theorem zaL {l:Expr} {tl:TE} (hl:PE X l tl):PI X tg l (zsM X.K tl):=by
 with_unfolding_all
  intro ai s σ H R I h
  refine thn (hl ai s σ H _ I h) fun v s1 ⟨x,H1,I1,r1,q1⟩=>?_
  obtain ⟨a,e,⟨xs,hq⟩,q⟩:=q1
  subst e
  cases r1
  obtain ⟨its,rv,p,hz⟩:=I1.list hq
  refine wpAny_pyIter_list p.isList ?_
  refine ⟨s1.heap.objs.size,[s1.heap.objs.size],_,_,H1,rfl,I1.kept (t':=s1.toks) fun b o e=>Heap.get?_push_of_some _ e,zl6 a _,⟨_,Heap.get?_push_size _ rfl,rfl,rfl⟩,fun b hb=>?_,q⟩
  have e:b=s1.heap.objs.size:=by simpa using hb
  subst e
  exact I1.fpOk (Nat.le_refl _) (I1.hok.fresh (Nat.le_refl _))
theorem zro {l:Expr} {tl:TE} (hl:PE X l tl):PI X tg l (iTup X.K tl):=by
 with_unfolding_all
  intro ai s σ H R I h
  refine thn (hl ai s σ H _ I h) fun v s1 ⟨x,H1,I1,r1,q1⟩=>?_
  obtain ⟨a,e,⟨xs,hq⟩,q⟩:=q1
  subst e
  cases r1
  obtain ⟨its,rv,p,hz⟩:=I1.tuple hq
  refine wpAny_pyIter_tuple (show s1.heap.IsTuple a its.toArray from p) ?_
  refine ⟨s1.heap.objs.size,[s1.heap.objs.size],_,_,H1,rfl,I1.kept (t':=s1.toks) fun b o e=>Heap.get?_push_of_some _ e,zli a _,⟨_,Heap.get?_push_size _ rfl,rfl,rfl⟩,fun b hb=>?_,q⟩
  have e:b=s1.heap.objs.size:=by simpa using hb
  subst e
  exact I1.fpOk (Nat.le_refl _) (I1.hok.fresh (Nat.le_refl _))
theorem zkr {ai:List (Addr × Obj)} {σ:St} {H:Hp} {s:Shared} {R:It->Hp->Prop} {E:Value->Shared->Prop} {lo hi:Int} {t u v:Tok} {tk:Nat} (I:Inv X ai σ H s) (h1 : -(2 ^ 62)<=lo) (h2:lo<2 ^ 62) (h3 : -(2 ^ 62)<=hi) (h4:hi<2 ^ 62)
  (q:R (Itr lo (hi-lo).toNat) H):wpAny (model X.prog X.w) X.A (pyIter (.ref s.heap.objs.size)) (PIE X ai σ tg R) E { s with heap:=s.heap.push { cls:=.type "range",data:=.fields #[.int lo t,.int hi u,.int 1 v] },toks:=tk }:=by
 refine wpAny_pyIter_range (IsRange.new ..) (small_one h1 h2 h3 h4) ?_
 have I1:Inv X ai σ H { s with heap:=s.heap.push { cls:=.type "range",data:=.fields #[.int lo t,.int hi u,.int 1 v] },toks:=tk }:=I.kept fun b o e=>Heap.get?_push_of_some _ e
 refine ⟨(s.heap.push { cls:=.type "range",data:=.fields #[.int lo t,.int hi u,.int 1 v] }).objs.size,[(s.heap.push { cls:=.type "range",data:=.fields #[.int lo t,.int hi u,.int 1 v] }).objs.size],_,_,H,rfl,
  I1.kept (t':=tk) fun b o e=>Heap.get?_push_of_some _ e,zlj _ lo (hi-lo).toNat,?_,fun b hb=>?_,q⟩
 ·have e1:lo+((0:Nat):Int)*1=lo:=by simp
  have e2:(((hi-lo).toNat:Nat):Int)-((0:Nat):Int)=Builtin.Range.rangeSize lo hi 1:=by rw [rangeSize_one];split<;>omega
  show IsRangeIter _ _ (lo+((0:Nat):Int)*1) ((((hi-lo).toNat:Nat):Int)-((0:Nat):Int)) 1
  rw [e1,e2]
  exact Heap.get?_push_size _ rfl
 ·have e:b=(s.heap.push { cls:=.type "range",data:=.fields #[.int lo t,.int hi u,.int 1 v] }).objs.size:=by simpa using hb
  subst e
  exact I1.fpOk (Nat.le_refl _) (I1.hok.fresh (Nat.le_refl _))
def zsN (ta:TA):TI:=fun σ H R=>ta σ H fun vs H1=>∃j:Int,vs=[.int j] /\ -(2 ^ 62)<=j/\j<2 ^ 62/\R (Itr 0 j.toNat) H1
def zsO (ta:TA):TI:=fun σ H R=>ta σ H fun vs H1=>∃i j:Int,vs=[.int i,.int j]/\(-(2 ^ 62)<=i/\i<2 ^ 62 /\ -(2 ^ 62)<=j/\j<2 ^ 62)/\R (Itr i (j-i).toNat) H1
theorem zl7 {a:Expr} {ta:TA} {p pos:Pos} (hg:Gl X "range") (hm:X.mg "range" = none) (ha:PA X [a] ta) (hs:starEach [a] X.env=[(false,eval a X.env)]:=by rfl):PI X tg (.Call (.Name "range" p) [a] [] pos) (zsN ta):=by
 with_unfolding_all
  intro ai s σ H R I h
  refine Call_ (zfr I hg hm boot_range (PyProof.Rows.callWith_type1 (thn (ha pos ai s σ H _ I h) fun us s1 ⟨vs,H1,I1,r1,q1⟩=>?_) hs rfl))
  obtain ⟨j,e,q1,q2,q⟩:=q1
  subst e
  cases r1 with
  | cons r rr=>
    cases rr
    obtain ⟨t,rfl⟩:=r
    exact call_range_1 (zkr I1 (by omega) (by omega) q1 q2 (by simpa using q))
theorem zl8 {a b:Expr} {ta:TA} {p pos:Pos} (hg:Gl X "range") (hm:X.mg "range" = none) (ha:PA X [a,b] ta) (hs:starEach [a,b] X.env=[(false,eval a X.env),(false,eval b X.env)]:=by rfl) (hs2:starEach [b] X.env=[(false,eval b X.env)]:=by rfl):
  PI X tg (.Call (.Name "range" p) [a,b] [] pos) (zsO ta):=by
 with_unfolding_all
  intro ai s σ H R I h
  refine Call_ (zfr I hg hm boot_range (PyProof.Rows.callWith_type1 (thn (ha pos ai s σ H _ I h) fun us s1 ⟨vs,H1,I1,r1,q1⟩=>?_) (by rw [hs,hs2]) (by rw [hs2];rfl)))
  obtain ⟨i,j,e,⟨q1,q2,q3,q4⟩,q⟩:=q1
  subst e
  cases r1 with
  | cons r rr=>
    cases rr with
    | cons r' rr=>
      cases rr
      obtain ⟨t,rfl⟩:=r
      obtain ⟨t',rfl⟩:=r'
      exact call_range_2 (zkr I1 q1 q2 q3 q4 q)
def tFor (wi:TI) (g:TG) (tb:TS):TS:=fun D σ H=>wi σ H fun J H1=>∃W:Nat->Nat->St->Hp->Prop,(∃m,W 0 m σ H1)/\∀i m σ H,W i m σ H->
 (J.stop i H/\D.nx σ H)\/(J.go i H/\∃N:St->Hp->Prop,(∀ σ' H',N σ' H'->∃m',m'<m/\W (i+1) m' σ' H')/\∀x H',J.yld i H x H'->g x σ H' fun σ2 H2=>tb { D with nx:=N,ct:=N,bk:=D.nx } σ2 H2)
def zil (fp:List Addr) (h:Heap):List (Addr × Obj):=fp.filterMap fun b=>(h.get? b).map fun o=>(b,o)
theorem zdo {fp:List Addr} {h:Heap} {b:Addr} {o:Obj} (hb:b∈fp) (e:h.get? b=some o):(b,o)∈zil fp h:=List.mem_filterMap.mpr ⟨b,hb,by rw [e];rfl⟩
theorem zl9 {fp:List Addr} {h:Heap} {p:Addr × Obj} (hp:p∈zil fp h):p.1∈fp/\h.get? p.1=some p.2:=by
 obtain ⟨b,hb,e⟩:=List.mem_filterMap.mp hp
 cases q:h.get? b with
 | none=>rw [q] at e;cases e
 | some o=>
   rw [q] at e
   have e':(b,o)=p:=Option.some.inj e
   subst e'
   exact ⟨hb,q⟩
theorem Inv.pinned {ai:List (Addr × Obj)} {σ:St} {H:Hp} {s:Shared} {fp:List Addr} (I:Inv X ai σ H s) (hf:∀b∈fp,FpOk X ai H b) (ho:∀b∈fp,∃o,s.heap.get? b=some o/\∀v,o.data≠.cell v):Inv X (ai++zil fp s.heap) σ H s:=
 I.pins_of fun p hp=>(mem_append.mp hp).elim (fun z=>I.pin p (mem_append_right _ z)) fun z=>by
  obtain ⟨hb,e⟩:=zl9 z
  obtain ⟨f0,f1,f2,_⟩:=hf p.1 hb
  obtain ⟨o,e',d⟩:=ho p.1 hb
  rw [e] at e';cases e'
  exact ⟨e,f0,f1,f2,d⟩
theorem Inv.unpinned {ai pl:List (Addr × Obj)} {σ:St} {H:Hp} {s:Shared} (I:Inv X (ai++pl) σ H s):Inv X ai σ H s:=I.pins_of fun p hp=>I.pin p (mem_append_right _ (mem_append_left _ hp))
theorem zdB {iter:Expr} {body:List Stmt} {wi:TI} {g:TG} {tb:TS} {pos:Pos} (hp:PassesOwn (model X.prog X.w) X.A X.env X.xe) (hc:X.calm=true) (hi:PI X tg iter wi) (hg:PG X tg g) (hb:PSs X body tb)
  (hs:∀x,foldedSetIterable iter X.env x=pure x:=by intro _;rfl):PS X (.For tg iter body [] pos) (tFor wi g tb):=by
 with_unfolding_all
  intro ai s σ H D I h
  refine wpAny_For (thn (hi ai s σ H _ I h) fun v s1 h1=>thn h1 fun itv s2 h2=>?_) hs
  obtain ⟨it,fp,tn,J,H2,e,I2,T,st2,f2,W,⟨m0,w0⟩,turn⟩:=h2
  subst e
  have stat:∀ {H':Hp},(∀b∈fp,H' b=none)->∀b∈fp,FpOk X ai H' b:=fun hn b hb=>⟨hn b hb,(f2 b hb).2⟩
  refine codeAny_forLoop_any (fun n s'=>∃i σ' H',Inv X ai σ' H' s'/\tn i s'.heap/\(∀b∈fp,H' b=none)/\W i n σ' H') ?_ m0 ⟨0,σ,H2,I2,st2,fun b hb=>(f2 b hb).1,w0⟩
  rintro n s3 ⟨i,σ3,H3,I3,st3,fr3,w3⟩
  rcases turn i n σ3 H3 w3 with ⟨stop,qn⟩ | ⟨go,N,hN,step⟩
  ·refine wpAny_passesOwn hp (thn (T.done X rfl rfl rfl hc i ai s3 σ3 H3 X.xe I3 (stat fr3) st3 stop) fun r s4 ⟨hr,I4⟩=>?_)
   subst hr
   exact wpAny_execs_nil ⟨σ3,H3,I4,qn⟩
  ·refine wpAny_passesOwn hp (thn (T.item X rfl rfl rfl hc i ai s3 σ3 H3 X.xe I3 (stat fr3) st3 go) fun r s4 ⟨u,hr,h4⟩=>?_)
   subst hr
   refine wpAny_passesOwn hp (thn h4 fun _ s5 ⟨x,H5,I5,r5,y5,st5,fr5⟩=>?_)
   have I5':=I5.pinned (stat fr5) (T.obj _ _ st5)
   refine wpAny_passesOwn hp (thn (hg _ s5 σ3 H5 x u _ I5' r5 (step x H5 y5)) fun _ s6 ⟨σ6,H6,I6,q6⟩=>?_)
   refine wpAny_passesOwn hp (thn (hb _ s6 σ6 H6 _ I6 q6) fun f s7 q7=>?_)
   have again:∀ {σ7:St} {H7:Hp},Inv X (ai++zil fp s5.heap) σ7 H7 s7->N σ7 H7->∃m,m<n/\∃i σ' H',Inv X ai σ' H' s7/\tn i s7.heap/\(∀b∈fp,H' b=none)/\W i m σ' H':=fun {σ7 H7} I7 n7=>by
    obtain ⟨m',hm,w7⟩:=hN σ7 H7 n7
    refine ⟨m',hm,i+1,σ7,H7,I7.unpinned,T.keep _ _ _ st5 fun b hb o e=>(I7.pin (b,o) (mem_append_right _ (mem_append_right _ (zdo hb e)))).1,fun b hb=>?_,w7⟩
    obtain ⟨o,e,d⟩:=T.obj _ _ st5 b hb
    exact (I7.pin (b,o) (mem_append_right _ (mem_append_right _ (zdo hb e)))).2.1
   cases f with
   | next=>obtain ⟨σ7,H7,I7,n7⟩:=q7;exact again I7 n7
   | cont=>obtain ⟨σ7,H7,I7,n7⟩:=q7;exact again I7 n7
   | brk=>obtain ⟨σ7,H7,I7,q7⟩:=q7;exact ⟨σ7,H7,I7.unpinned,q7⟩
   | ret v=>obtain ⟨x7,σ7,H7,I7,r7,q7⟩:=q7;exact ⟨x7,σ7,H7,I7.unpinned,r7,q7⟩
end
theorem zcj {K:PySem.W.Frag} {a:Addr} {xs:List V} {g:TG} {tb:TS} {D:Ends} {σ:St} {H:Hp} (Pv:Nat->St->Hp->Prop) (h0:Pv 0 σ H) (hl:∀i σ H,i<=xs.length->Pv i σ H->SqL K H a xs)
  (hs:∀i x σ H,xs[i]?=some x->Pv i σ H->g x σ H fun σ2 H2=>tb { D with nx:=Pv (i+1),ct:=Pv (i+1),bk:=D.nx } σ2 H2) (hd:∀ σ H,Pv xs.length σ H->D.nx σ H):
  ∃W:Nat->Nat->St->Hp->Prop,(∃m,W 0 m σ H)/\∀i m σ H,W i m σ H->
   ((Itl K a).stop i H/\D.nx σ H)\/((Itl K a).go i H/\∃N:St->Hp->Prop,(∀ σ' H',N σ' H'->∃m',m'<m/\W (i+1) m' σ' H')/\∀x H',(Itl K a).yld i H x H'->g x σ H' fun σ2 H2=>tb { D with nx:=N,ct:=N,bk:=D.nx } σ2 H2):=by
 refine ⟨fun i m σ H=>m=xs.length-i/\i<=xs.length/\Pv i σ H,⟨xs.length,by simp,Nat.zero_le _,h0⟩,?_⟩
 rintro i m σ H ⟨rfl,hi,p⟩
 have q:=hl i σ H hi p
 by_cases hlt:i<xs.length
 ·refine .inr ⟨⟨xs,xs[i],q,by simp [hlt]⟩,Pv (i+1),fun σ' H' p'=>⟨xs.length-(i+1),by omega,rfl,hlt,p'⟩,fun x H' y=>?_⟩
  obtain ⟨e,y⟩:=y
  subst e
  exact hs i x σ _ (y xs q) p
 ·have e:i=xs.length:=by omega
  subst e
  exact .inl ⟨⟨xs,q,Nat.le_refl _⟩,hd σ H p⟩
theorem zqb {K:PySem.W.Frag} {a:Addr} {xs:List V} {g:TG} {tb:TS} {D:Ends} {σ:St} {H:Hp} (Pv:Nat->St->Hp->Prop) (h0:Pv 0 σ H) (hl:∀i σ H,i<=xs.length->Pv i σ H->SqT K H a xs)
  (hs:∀i x σ H,xs[i]?=some x->Pv i σ H->g x σ H fun σ2 H2=>tb { D with nx:=Pv (i+1),ct:=Pv (i+1),bk:=D.nx } σ2 H2) (hd:∀ σ H,Pv xs.length σ H->D.nx σ H):
  ∃W:Nat->Nat->St->Hp->Prop,(∃m,W 0 m σ H)/\∀i m σ H,W i m σ H->
   ((Itt K a).stop i H/\D.nx σ H)\/((Itt K a).go i H/\∃N:St->Hp->Prop,(∀ σ' H',N σ' H'->∃m',m'<m/\W (i+1) m' σ' H')/\∀x H',(Itt K a).yld i H x H'->g x σ H' fun σ2 H2=>tb { D with nx:=N,ct:=N,bk:=D.nx } σ2 H2):=by
 refine ⟨fun i m σ H=>m=xs.length-i/\i<=xs.length/\Pv i σ H,⟨xs.length,by simp,Nat.zero_le _,h0⟩,?_⟩
 rintro i m σ H ⟨rfl,hi,p⟩
 have q:=hl i σ H hi p
 by_cases hlt:i<xs.length
 ·refine .inr ⟨⟨xs,xs[i],q,by simp [hlt]⟩,Pv (i+1),fun σ' H' p'=>⟨xs.length-(i+1),by omega,rfl,hlt,p'⟩,fun x H' y=>?_⟩
  obtain ⟨e,y⟩:=y
  subst e
  exact hs i x σ _ (y xs q) p
 ·have e:i=xs.length:=by omega
  subst e
  exact .inl ⟨⟨xs,q,Nat.le_refl _⟩,hd σ H p⟩
theorem zma {lo:Int} {n:Nat} {g:TG} {tb:TS} {D:Ends} {σ:St} {H:Hp} (Pv:Nat->St->Hp->Prop) (h0:Pv 0 σ H)
  (hs:∀i σ H,i<n->Pv i σ H->g (.int (lo+i)) σ H fun σ2 H2=>tb { D with nx:=Pv (i+1),ct:=Pv (i+1),bk:=D.nx } σ2 H2) (hd:∀ σ H,Pv n σ H->D.nx σ H):
  ∃W:Nat->Nat->St->Hp->Prop,(∃m,W 0 m σ H)/\∀i m σ H,W i m σ H->
   ((Itr lo n).stop i H/\D.nx σ H)\/((Itr lo n).go i H/\∃N:St->Hp->Prop,(∀ σ' H',N σ' H'->∃m',m'<m/\W (i+1) m' σ' H')/\∀x H',(Itr lo n).yld i H x H'->g x σ H' fun σ2 H2=>tb { D with nx:=N,ct:=N,bk:=D.nx } σ2 H2):=by
 refine ⟨fun i m σ H=>m=n-i/\i<=n/\Pv i σ H,⟨n,by simp,Nat.zero_le _,h0⟩,?_⟩
 rintro i m σ H ⟨rfl,hi,p⟩
 by_cases hlt:i<n
 ·refine .inr ⟨hlt,Pv (i+1),fun σ' H' p'=>⟨n-(i+1),by omega,rfl,hlt,p'⟩,fun x H' y=>?_⟩
  obtain ⟨e,y⟩:=y
  subst e y
  exact hs i σ _ hlt p
 ·have e:i=n:=by omega
  subst e
  exact .inl ⟨Nat.le_refl _,hd σ H p⟩
theorem zks {c:TT} {tb:TS} {D:Ends} {σ:St} {H:Hp} (Pv:St->Hp->Prop) (μ:St->Hp->Nat) (h0:Pv σ H)
  (hs:∀ σ H,Pv σ H->c σ H fun b H1=>if b=true then tb { D with nx:=fun σ' H'=>Pv σ' H' /\ μ σ' H' < μ σ H,ct:=fun σ' H'=>Pv σ' H' /\ μ σ' H' < μ σ H,bk:=D.nx } σ H1 else D.nx σ H1)
  (mono:∀ σ H Q Q',(∀b H1,Q b H1->Q' b H1)->c σ H Q->c σ H Q'):zpn c tb D σ H:=by
 refine ⟨fun m σ H=>m = μ σ H/\Pv σ H,⟨_,rfl,h0⟩,?_⟩
 rintro m σ H ⟨rfl,p⟩
 refine mono σ H _ _ (fun b H1 q=>?_) (hs σ H p)
 cases b with
 | true=>exact ⟨_,fun σ' H' ⟨p',l⟩=>⟨_,l,rfl,p'⟩,q⟩
 | false=>exact q
end
section
abbrev R2:=V->V->Hp->VK->Prop
def OpR (X:Cx) (f:Value->Value->Sem Value) (r:R2):Prop:=
 ∀(ai:List (Addr × Obj)) (s:Shared) (σ:St) (H:Hp) (x y:V) (v u:Value) (Q:VK),Inv X ai σ H s->RelV x v->RelV y u->r x y H Q->
  wpAny (model X.prog X.w) X.A (f v u) (EP X ai σ Q) X.xe s
def UnR (X:Cx) (f:Value->Sem Value) (r:V->Hp->VK->Prop):Prop:=
 ∀(ai:List (Addr × Obj)) (s:Shared) (σ:St) (H:Hp) (x:V) (v:Value) (Q:VK),Inv X ai σ H s->RelV x v->r x H Q->
  wpAny (model X.prog X.w) X.A (f v) (EP X ai σ Q) X.xe s
def zcE (X:Cx) (f:Value) (r:List V->Hp->VK->Prop):Prop:=
 ∀(ai:List (Addr × Obj)) (s:Shared) (σ:St) (H:Hp) (xs:List V) (us:List Value) (Q:VK),Inv X ai σ H s->Vals xs us->r xs H Q->
  wpAny (model X.prog X.w) X.A (call f us) (EP X ai σ Q) X.xe s
def tOp (r:R2) (ta tb:TE):TE:=fun σ H Q=>ta σ H fun x H1=>tb σ H1 fun y H2=>r x y H2 Q
def tUn (r:V->Hp->VK->Prop) (ta:TE):TE:=fun σ H Q=>ta σ H fun x H1=>r x H1 Q
def rI (C:Int->Int->Prop) (g:Int->Int->V):R2:=fun x y H Q=>∃i j,x=.int i/\y=.int j/\C i j/\Q (g i j) H
def rI0 (g:Int->Int->V):R2:=fun x y H Q=>∃i j,x=.int i/\y=.int j/\Q (g i j) H
def rU (g:Int->V):V->Hp->VK->Prop:=fun x H Q=>∃i,x=.int i/\Q (g i) H
section
variable {X:Cx} {a b c:Expr} {ta tb tc:TE} {pos:Pos}
theorem binT (ha:PE X a ta) (hb:PE X b tb) {ai:List (Addr × Obj)} {s:Shared} {σ:St} {H:Hp} {R:V->V->Hp->Prop} (I:Inv X ai σ H s)
  (h:ta σ H fun x H1=>tb σ H1 fun y H2=>R x y H2) {Q:Value->Shared->Prop} {f:Value->Value->Sem Value}
  (hf:∀v u s2 x y H2,Inv X ai σ H2 s2->RelV x v->RelV y u->R x y H2->wpAny (model X.prog X.w) X.A (f v u) Q X.xe s2):
  wpAny (model X.prog X.w) X.A (eval a X.env) (fun v s₁=>wpAny (model X.prog X.w) X.A (eval b X.env) (fun u s₂=>wpAny (model X.prog X.w) X.A (f v u) Q X.xe s₂) X.xe s₁) X.xe s:=by
 with_unfolding_all
  refine thn (ha ai s σ H _ I h) fun v s1 ⟨x,H1,I1,r1,q1⟩=>?_
  refine thn (hb ai s1 σ H1 _ I1 q1) fun u s2 ⟨y,H2,I2,r2,q2⟩=>?_
  exact hf v u s2 x y H2 I2 r1 r2 q2
theorem zaD {op:Operator} {r:R2} (ho:OpR X (binaryOp op) r) (ha:PE X a ta) (hb:PE X b tb):PE X (.BinOp a op b pos) (tOp r ta tb):=by
 with_unfolding_all
  intro ai s σ H Q I h
  exact wpAny_BinOp (binT ha hb I h fun v u s2 x y H2 I2 rx ry q=>ho ai s2 σ H2 x y v u Q I2 rx ry q)
theorem zmb {op:UnaryOp} {r:V->Hp->VK->Prop} (ho:UnR X (unaryOp op) r) (ha:PE X a ta):PE X (.UnaryOp op a pos) (tUn r ta):=by
 with_unfolding_all
  intro ai s σ H Q I h
  exact UnaryOp_ (thn (ha ai s σ H _ I h) fun v s1 ⟨x,H1,I1,r1,q1⟩=>ho ai s1 σ H1 x v Q I1 r1 q1)
theorem opI {f:Value->Value->Sem Value} {C:Int->Int->Prop} {g:Int->Int->Int}
  (rule:∀(i j:Int) (t u:Tok) (s:Shared) (Q:Value->Shared->Prop) (E:Value->Shared->Prop),C i j->Q (.int (g i j) s.toks) { s with toks:=s.toks+1 }->wpAny (model X.prog X.w) X.A (f (.int i t) (.int j u)) Q E s):
  OpR X f (rI C fun i j=>.int (g i j)):=by
 intro ai s σ H x y v u Q I rx ry h
 obtain ⟨i,j,rfl,rfl,hc,q⟩:=h
 obtain ⟨t,rfl⟩:=rx
 obtain ⟨t',rfl⟩:=ry
 exact rule i j t t' s _ _ hc ⟨.int (g i j),H,I.tok _,⟨_,rfl⟩,q⟩
theorem opI0 {f:Value->Value->Sem Value} {g:Int->Int->Int}
  (rule:∀(i j:Int) (t u:Tok) (s:Shared) (Q:Value->Shared->Prop) (E:Value->Shared->Prop),Q (.int (g i j) s.toks) { s with toks:=s.toks+1 }->wpAny (model X.prog X.w) X.A (f (.int i t) (.int j u)) Q E s):
  OpR X f (rI0 fun i j=>.int (g i j)):=by
 intro ai s σ H x y v u Q I rx ry h
 obtain ⟨i,j,rfl,rfl,q⟩:=h
 obtain ⟨t,rfl⟩:=rx
 obtain ⟨t',rfl⟩:=ry
 exact rule i j t t' s _ _ ⟨.int (g i j),H,I.tok _,⟨_,rfl⟩,q⟩
theorem opB0 {f:Value->Value->Sem Value} {g:Int->Int->Bool}
  (rule:∀(i j:Int) (t u:Tok) (s:Shared) (Q:Value->Shared->Prop) (E:Value->Shared->Prop),Q (.bool (g i j)) s->wpAny (model X.prog X.w) X.A (f (.int i t) (.int j u)) Q E s):
  OpR X f (rI0 fun i j=>.bl (g i j)):=by
 intro ai s σ H x y v u Q I rx ry h
 obtain ⟨i,j,rfl,rfl,q⟩:=h
 obtain ⟨t,rfl⟩:=rx
 obtain ⟨t',rfl⟩:=ry
 exact rule i j t t' s _ _ ⟨.bl (g i j),H,I,rfl,q⟩
def CPow (i j:Int):Prop:=0<=j/\j<=1000000/\i.natAbs<2 ^ 64
def CMul (i j:Int):Prop:=(-(2 ^ 64)<i/\i<2 ^ 64)\/(-(2 ^ 64)<j/\j<2 ^ 64)
theorem CMul.ok {i j:Int} (h:CMul i j):IntMulOk i j:=by
 rcases h with ⟨h1,h2⟩ | ⟨h1,h2⟩
 ·exact .of_left (intBits_le_64 h1 h2)
 ·exact .of_right (intBits_le_64 h1 h2)
theorem zlk (k:Nat):(0:Int)<=2 ^ k:=by
 rw [two_pow_cast]
 exact Int.natCast_nonneg _
theorem zbY:OpR X (binaryOp .Add) (rI0 fun i j=>.int (i+j)):=opI0 fun _ _ _ _ _ _ _ q=>add_int q
theorem zkt:OpR X (binaryOp .Sub) (rI0 fun i j=>.int (i-j)):=opI0 fun _ _ _ _ _ _ _ q=>sub_int q
theorem zcv:OpR X (binaryOp .Mult) (rI CMul fun i j=>.int (i*j)):=opI fun _ _ _ _ _ _ _ hc q=>mul_int q hc.ok
theorem zcw:OpR X (binaryOp .Mod) (rI (fun _ j=>0<j) fun i j=>.int (i % j)):=opI fun i j _ _ _ _ _ hc q=>by
 have h1:(0:Int)<j:=hc
 exact mod_int' (by omega) (by rw [Int.fmod_eq_emod_of_nonneg i (by omega)];exact q)
theorem zim:OpR X (binaryOp .Pow) (rI CPow fun i j=>.int (i ^ j.toNat)):=opI fun _ _ _ _ _ _ _ hc q=>pow_int_small hc.1 hc.2.1 hc.2.2 q
theorem zpo:OpR X (binaryOp .RShift) (rI (fun _ j=>0<=j) fun i j=>.int (i / 2 ^ j.toNat)):=opI fun i j _ _ _ _ _ hc q=>
 rshift_int hc (by rw [Int.fdiv_eq_ediv_of_nonneg i (zlk _)];exact q)
theorem unI {f:Value->Sem Value} {g:Int->Int}
  (rule:∀(i:Int) (t:Tok) (s:Shared) (Q:Value->Shared->Prop) (E:Value->Shared->Prop),Q (.int (g i) s.toks) { s with toks:=s.toks+1 }->wpAny (model X.prog X.w) X.A (f (.int i t)) Q E s):
  UnR X f (rU fun i=>.int (g i)):=by
 intro ai s σ H x v Q I rx h
 obtain ⟨i,rfl,q⟩:=h
 obtain ⟨t,rfl⟩:=rx
 exact rule i t s _ _ ⟨.int (g i),H,I.tok _,⟨_,rfl⟩,q⟩
theorem zin:UnR X (unaryOp .USub) (rU fun i=>.int (-i)):=unI fun _ _ _ _ _ q=>neg_int q
end
def scal:V->V->Bool
 | .non,.non=>true | .non,.int _=>true | .int _,.non=>true | .non,.bl _=>true | .bl _,.non=>true | .non,.str _=>true | .str _,.non=>true
 | .int _,.int _=>true | .bl _,.bl _=>true | .str _,.str _=>true | .byt _,.byt _=>true
 | .int _,.str _=>true | .str _,.int _=>true | .bl _,.str _=>true | .str _,.bl _=>true
 | _,_=>false
def rEq:R2:=fun x y H Q=>scal x y=true/\Q (.bl (decide (x=y))) H
def rNe:R2:=fun x y H Q=>scal x y=true/\Q (.bl (!decide (x=y))) H
theorem zmc {i j:Int}:decide (V.int i=V.int j)=(i==j):=by
 rw [Bool.eq_iff_iff]
 simp
theorem zpp {i j:Bool}:decide (V.bl i=V.bl j)=(i==j):=by
 rw [Bool.eq_iff_iff]
 simp
theorem zmd {i j:Str}:decide (V.str i=V.str j)=(i==j):=by
 rw [Bool.eq_iff_iff]
 simp
theorem zme {i j:Array UInt8}:decide (V.byt i=V.byt j)=(i.toList==j.toList):=by
 rw [Bool.eq_iff_iff]
 cases i
 cases j
 simp
section
variable {X:Cx} {a b c:Expr} {ta tb tc:TE} {pos:Pos}
theorem zaN {ai:List (Addr × Obj)} {σ:St} {H:Hp} {s:Shared} {Q:VK} {k k':Bool} (I:Inv X ai σ H s) (q:Q (.bl k) H) (e:k=k'):EP X ai σ Q (.bool k') s:=by
 subst e
 exact ⟨.bl k,H,I,rfl,q⟩
theorem zio:OpR X (compareOp .Eq) rEq:=by
 intro ai s σ H x y v u Q I rx ry h
 obtain ⟨hs,q⟩:=h
 cases x with
 | non=>
   cases rx
   cases y with
   | non=>cases ry;exact PySem.EqNone.eq_none_none (zaN I q (by simp))
   | bl j=>cases ry;exact PySem.EqNone.eq_none_bool (zaN I q (by simp))
   | int j=>obtain ⟨t',rfl⟩:=ry;exact PySem.EqNone.eq_none_int (zaN I q (by simp))
   | str j=>obtain ⟨t',rfl⟩:=ry;exact PySem.EqNone.eq_none_str (zaN I q (by simp))
   | _=>exact absurd (show false=true from hs) Bool.false_ne_true
 | bl i=>
   cases rx
   cases y with
   | non=>cases ry;exact PySem.EqNone.eq_bool_none (zaN I q (by simp))
   | bl j=>cases ry;exact eq_bool (zaN I q zpp)
   | str j=>obtain ⟨t',rfl⟩:=ry;exact PySem.EqMixed.eq_bool_str (zaN I q (by simp))
   | _=>exact absurd (show false=true from hs) Bool.false_ne_true
 | int i=>
   obtain ⟨t,rfl⟩:=rx
   cases y with
   | non=>cases ry;exact PySem.EqNone.eq_int_none (zaN I q (by simp))
   | int j=>obtain ⟨t',rfl⟩:=ry;exact eq_int (zaN I q zmc)
   | str j=>obtain ⟨t',rfl⟩:=ry;exact PySem.EqMixed.eq_int_str (zaN I q (by simp))
   | _=>exact absurd (show false=true from hs) Bool.false_ne_true
 | str i=>
   obtain ⟨t,rfl⟩:=rx
   cases y with
   | non=>cases ry;exact PySem.EqNone.eq_str_none (zaN I q (by simp))
   | bl j=>cases ry;exact PySem.EqMixed.eq_str_bool (zaN I q (by simp))
   | int j=>obtain ⟨t',rfl⟩:=ry;exact PySem.EqMixed.eq_str_int (zaN I q (by simp))
   | str j=>obtain ⟨t',rfl⟩:=ry;exact eq_str (zaN I q zmd)
   | _=>exact absurd (show false=true from hs) Bool.false_ne_true
 | byt i=>
   obtain ⟨t,rfl⟩:=rx
   cases y with
   | byt j=>obtain ⟨t',rfl⟩:=ry;exact W.eq_bytes (zaN I q zme)
   | _=>exact absurd (show false=true from hs) Bool.false_ne_true
 | _=>cases y<;>exact absurd (show false=true from hs) Bool.false_ne_true
theorem zqc:OpR X (compareOp .NotEq) rNe:=by
 intro ai s σ H x y v u Q I rx ry h
 obtain ⟨hs,q⟩:=h
 cases x with
 | non=>
   cases rx
   cases y with
   | non=>cases ry;exact PySem.EqNone.ne_none_none (zaN I q (by simp))
   | bl j=>cases ry;exact PySem.EqNone.ne_none_bool (zaN I q (by simp))
   | int j=>obtain ⟨t',rfl⟩:=ry;exact PySem.EqNone.ne_none_int (zaN I q (by simp))
   | str j=>obtain ⟨t',rfl⟩:=ry;exact PySem.EqNone.ne_none_str (zaN I q (by simp))
   | _=>exact absurd (show false=true from hs) Bool.false_ne_true
 | bl i=>
   cases rx
   cases y with
   | non=>cases ry;exact PySem.EqNone.ne_bool_none (zaN I q (by simp))
   | bl j=>cases ry;exact ne_bool (zaN I q (congrArg not zpp))
   | str j=>obtain ⟨t',rfl⟩:=ry;exact PySem.EqMixed.ne_bool_str (zaN I q (by simp))
   | _=>exact absurd (show false=true from hs) Bool.false_ne_true
 | int i=>
   obtain ⟨t,rfl⟩:=rx
   cases y with
   | non=>cases ry;exact PySem.EqNone.ne_int_none (zaN I q (by simp))
   | int j=>obtain ⟨t',rfl⟩:=ry;exact ne_int (zaN I q (congrArg not zmc))
   | str j=>obtain ⟨t',rfl⟩:=ry;exact PySem.EqMixed.ne_int_str (zaN I q (by simp))
   | _=>exact absurd (show false=true from hs) Bool.false_ne_true
 | str i=>
   obtain ⟨t,rfl⟩:=rx
   cases y with
   | non=>cases ry;exact PySem.EqNone.ne_str_none (zaN I q (by simp))
   | bl j=>cases ry;exact PySem.EqMixed.ne_str_bool (zaN I q (by simp))
   | int j=>obtain ⟨t',rfl⟩:=ry;exact PySem.EqMixed.ne_str_int (zaN I q (by simp))
   | str j=>obtain ⟨t',rfl⟩:=ry;exact ne_str (zaN I q (congrArg not zmd))
   | _=>exact absurd (show false=true from hs) Bool.false_ne_true
 | byt i=>
   obtain ⟨t,rfl⟩:=rx
   cases y with
   | byt j=>obtain ⟨t',rfl⟩:=ry;exact W.ne_bytes (zaN I q (congrArg not zme))
   | _=>exact absurd (show false=true from hs) Bool.false_ne_true
 | _=>cases y<;>exact absurd (show false=true from hs) Bool.false_ne_true
theorem zsP:OpR X (compareOp .Lt) (rI0 fun i j=>.bl (decide (i<j))):=opB0 fun _ _ _ _ _ _ _ q=>lt_int q
theorem zjB:OpR X (compareOp .LtE) (rI0 fun i j=>.bl (decide (i<=j))):=opB0 fun _ _ _ _ _ _ _ q=>le_int q
theorem zg2:OpR X (compareOp .Gt) (rI0 fun i j=>.bl (decide (j<i))):=opB0 fun _ _ _ _ _ _ _ q=>gt_int q
theorem zrp:OpR X (compareOp .GtE) (rI0 fun i j=>.bl (decide (j<=i))):=opB0 fun _ _ _ _ _ _ _ q=>ge_int q
theorem zrq:OpR X (compareOp .Is) (fun x y H Q=>y=.non/\Q (.bl (decide (x=.non))) H):=by
 intro ai s σ H x y v u Q I rx ry h
 obtain ⟨rfl,q⟩:=h
 cases ry
 refine is_none_gen (zaN I q ?_)
 cases x<;>first
  | (cases rx;rfl)
  | (obtain ⟨t,rfl⟩:=rx;rfl)
theorem zqd:OpR X (compareOp .IsNot) (fun x y H Q=>y=.non/\Q (.bl (!decide (x=.non))) H):=by
 intro ai s σ H x y v u Q I rx ry h
 obtain ⟨rfl,q⟩:=h
 cases ry
 refine isnot_none_gen (zaN I q ?_)
 cases x<;>first
  | (cases rx;rfl)
  | (obtain ⟨t,rfl⟩:=rx;rfl)
theorem zaJ (b:Expr) {op:CmpOp} (h:op ≠ .In:=by decide) (h2:op ≠ .NotIn:=by decide):behindInMarks op b=false:=by
 have e1:(op==CmpOp.In)=false:=by cases op<;>first | rfl | exact absurd rfl h
 have e2:(op==CmpOp.NotIn)=false:=by cases op<;>first | rfl | exact absurd rfl h2
 cases b<;>simp [behindInMarks,e1,e2]
theorem zeD {op:CmpOp} {r:R2} (ho:OpR X (compareOp op) r) (ha:PE X a ta) (hb:PE X b tb) (hm:behindInMarks op b=false):PE X (.Compare a [op] [b] pos) (tOp r ta tb):=by
 with_unfolding_all
  intro ai s σ H Q I h
  exact wpAny_Compare1 (binT ha hb I h fun v u s2 x y H2 I2 rx ry q=>ho ai s2 σ H2 x y v u Q I2 rx ry q) hm
def zrr (t:TE):TT:=fun σ H Q=>t σ H fun x H'=>∃k,x=.bl k/\Q k H'
theorem zaE {op:CmpOp} {r:R2} (ho:OpR X (compareOp op) r) (ha:PE X a ta) (hb:PE X b tb) (hm:behindInMarks op b=false):PT X (.Compare a [op] [b] pos) (zrr (tOp r ta tb)):=by
 with_unfolding_all
  intro ai s σ H Q I h
  refine wpAny_isTrue_Compare1 (thn (ha ai s σ H _ I h) fun v s1 ⟨x,H1,I1,r1,q1⟩=>thn (hb ai s1 σ H1 _ I1 q1) fun u s2 ⟨y,H2,I2,r2,q2⟩=>
   thn (ho ai s2 σ H2 x y v u _ I2 r1 r2 q2) fun c s3 ⟨z,H3,I3,r3,k,e,q3⟩=>?_) hm
  subst e
  cases r3
  exact wpAny_truthy_bool ⟨H3,I3,q3⟩
def zpq (r r':R2) (ta tb tc:TE):TE:=fun σ H Q=>ta σ H fun x H1=>tb σ H1 fun y H2=>r x y H2 fun z H3=>∃k,z=.bl k/\
 (if k=true then tc σ H3 fun w' H4=>r' y w' H4 Q else Q (.bl false) H3)
theorem zhE {op op':CmpOp} {r r':R2} (ho:OpR X (compareOp op) r) (ho':OpR X (compareOp op') r') (ha:PE X a ta) (hb:PE X b tb) (hc:PE X c tc)
  (hm:lastMarks [op,op'] [b,c]=false:=by with_unfolding_all rfl):PE X (.Compare a [op,op'] [b,c] pos) (zpq r r' ta tb tc):=by
 with_unfolding_all
  intro ai s σ H Q I h
  refine Compare_chain (thn (ha ai s σ H _ I h) fun v s1 ⟨x,H1,I1,r1,q1⟩=>chain_link (thn (hb ai s1 σ H1 _ I1 q1) fun u s2 ⟨y,H2,I2,r2,q2⟩=>
   thn (ho ai s2 σ H2 x y v u _ I2 r1 r2 q2) fun d s3 ⟨z,H3,I3,r3,k,e,q3⟩=>?_)) hm
  subst e
  cases r3
  refine wpAny_truthy_bool ?_
  cases k with
  | false=>exact ite_ff ⟨.bl false,H3,I3,rfl,q3⟩
  | true=>exact ite_tt (chain_last (thn (hc ai s3 σ H3 _ I3 q3) fun w' s4 ⟨z',H4,I4,r4,q4⟩=>ho' ai s4 σ H4 y z' u w' Q I4 r2 r4 q4))
theorem zoi {op op':CmpOp} {r r':R2} (ho:OpR X (compareOp op) r) (ho':OpR X (compareOp op') r') (ha:PE X a ta) (hb:PE X b tb) (hc:PE X c tc)
  (hm:lastMarks [op,op'] [b,c]=false:=by with_unfolding_all rfl):PT X (.Compare a [op,op'] [b,c] pos) (zrr (zpq r r' ta tb tc)):=by
 with_unfolding_all
  intro ai s σ H Q I h
  refine isTrue_chain (thn (ha ai s σ H _ I h) fun v s1 ⟨x,H1,I1,r1,q1⟩=>test_link (thn (hb ai s1 σ H1 _ I1 q1) fun u s2 ⟨y,H2,I2,r2,q2⟩=>
   thn (ho ai s2 σ H2 x y v u _ I2 r1 r2 q2) fun d s3 ⟨z,H3,I3,r3,k,e,q3⟩=>?_)) hm
  subst e
  cases r3
  refine wpAny_truthy_bool ?_
  cases k with
  | false=>
    obtain ⟨k',e',q'⟩:=q3
    cases e'
    exact ite_ff ⟨H3,I3,q'⟩
  | true=>
    refine ite_tt (test_last (thn (hc ai s3 σ H3 _ I3 q3) fun w' s4 ⟨z',H4,I4,r4,q4⟩=>thn (ho' ai s4 σ H4 y z' u w' _ I4 r2 r4 q4) fun d' s5 ⟨z2,H5,I5,r5,k2,e2,q5⟩=>?_))
    subst e2
    cases r5
    exact wpAny_truthy_bool ⟨H5,I5,q5⟩
theorem ziq:(sizeLine:Nat)<2 ^ 63:=by rw [sizeLine_eq];decide
theorem zeE {x:V} {us:List Value} (r:Vals [x] us):∃u,us=[u]/\RelV x u:=by
 cases r with
 | cons r1 r2=>cases r2;exact ⟨_,rfl,r1⟩
theorem zoj {x y:V} {us:List Value} (r:Vals [x,y] us):∃u w',us=[u,w']/\RelV x u/\RelV y w':=by
 cases r with
 | cons r1 r2=>
   cases r2 with
   | cons r3 r4=>cases r4;exact ⟨_,_,rfl,r1,r3⟩
theorem zok:zcE X (.builtin "abs") (fun xs H Q=>∃i,xs=[.int i]/\Q (.int (if i<0 then -i else i)) H):=by
 intro ai s σ H xs us Q I r h
 obtain ⟨i,rfl,q⟩:=h
 obtain ⟨u,rfl,t,rfl⟩:=zeE r
 exact call_abs_int fun u tk=>⟨.int (if i<0 then -i else i),H,I.tok _,⟨_,rfl⟩,q⟩
end
end
section
structure ObjM (h:Heap) (x dx C:Addr) (mA:Str->Option Value):Prop where
 obj:h.get? x=some (W.instObj C dx)
 ns:h.Ns1 dx mA
 ne:dx≠x
theorem zir {h:Heap} {dx:Addr} {mA:Str->Option Value} (n:h.Ns1 dx mA):∃od,h.get? dx=some od/\∀name,W.lookIn name od=some (mA name):=by
 obtain ⟨o,es,ep,ho,hd,hk,_,hm⟩:=n
 refine ⟨o,ho,fun name=>?_⟩
 have e:=hm name
 unfold nsFind findBy at e
 rw [<-Array.find?_toList] at e
 unfold W.lookIn
 rw [hd]
 dsimp only
 split
 ·rename_i y q
  rw [q] at e
  exact congrArg some e
 ·rename_i q
  rw [q] at e
  have a:es.toList.any (·.refKey)=false:=by
   rw [List.any_eq_false]
   intro y hy
   obtain ⟨z,t,hkey⟩:=hk y (Array.mem_toList_iff.mp hy)
   simp [DictEntry.refKey,hkey]
  have a':¬es.toList.any (·.refKey)=true:=by rw [a];exact Bool.false_ne_true
  rw [if_neg a']
  exact congrArg some e
theorem ObjM.look {h:Heap} {x dx C:Addr} {mA:Str->Option Value} (I:ObjM h x dx C mA):∃od,W.InstAt h x (W.instObj C dx) C (some od)/\∀name,W.lookIn name od=some (mA name):=
 let ⟨od,ho,hl⟩:=zir I.ns
 ⟨od,⟨I.obj,rfl,rfl,ho⟩,hl⟩
section
variable {prog:Program} {w:World} {A:Around} {E:Value->Shared->Prop} {s:Shared} {K:W.Frag} {x dx C f:Addr} {mA:Str->Option Value} {name:Str} {v:Value}
theorem zqe {expr:Bool} {Q:Value->Shared->Prop} (X:K.In s.heap) (I:ObjM s.heap x dx C mA) (hg:W.plainGet K C name=true) (hh:W.hasDictIn K C=true)
  (ha:W.findIn K (.ref C) name=some none) (hv:mA name=some v) (hv':W.handedIn v=true) (h:Q v { s with toks:=s.toks+1 }):
  wpAny (model prog w) A (getAttr (.ref x) name expr) Q E s:=by
 obtain ⟨od,J,hl⟩:=I.look
 exact W.get_value X J (W.plainGet_of hg).1 (W.findObj_own hh ha rfl (by rw [hl,hv])) hv' h
theorem zol {pl:Sem Bool} {Q:Value × List Value->Shared->Prop} (X:K.In s.heap) (I:ObjM s.heap x dx C mA) (hg:W.plainGet K C name=true)
  (hf:W.findIn K (.ref C) name=some (some (.ref f))) (ht:W.isFn K (.ref f)=true) (hv:mA name=none) (h:Q (.ref f,[.ref x]) s):
  wpAny (model prog w) A (getMethod (.ref x) name pl) Q E s:=by
 obtain ⟨od,J,hl⟩:=I.look
 exact W.method_fn X J (W.plainGet_of hg).1 (W.plainGet_of hg).2 hf (beq_iff_eq.mp ht) (by show (W.lookIn name od).map (·.isSome)=some false;rw [hl,hv];rfl) h
theorem zqf {ns:List Str} {Q:Unit->Shared->Prop} (X:K.In s.heap) (I:ObjM s.heap x dx C mA)
  (hs:W.findIn K (.ref C) "__setattr__" = some (some (.builtin "object.__setattr__"))) (hp:W.plainOver K C=true) (ht:W.takerIn K C name=some none) (hh:W.hasDictIn K C=true)
  (hw:PySem.Within mA ns) (hsz:ns.length<=sizeLine)
  (h:∀h',ObjM h' x dx C (fun y=>if y=name then some v else mA y)->Heap.SameBut dx s.heap h'->Q () { s with heap:=h',toks:=s.toks+2 }):
  wpAny (model prog w) A (setAttr (.ref x) name v) Q E s:=by
 obtain ⟨od,J,hl⟩:=I.look
 refine W.set_plain X J hs (W.osa_open (s := { s with toks:=s.toks+1 }) (r:=none) X J hp ht fun b=>?_)
 obtain ⟨cd,hc,hd'⟩:=W.any_some hh
 have hx:s.heap.get? x=some ⟨.ref C,some dx,.plain,#[]⟩:=I.obj
 refine wpAny_bind (wpAny_pure (wpAny_bind (wpAny_bind (wpAny_loadPart hx (wpAny_bind (W.Looks.here (s := { s with toks:=s.toks+1 }) (W.looks_clsIn X hc) ?_))))))
 rw [hd']
 refine wpAny_pure (a:=some dx) (wpAny_bind (wpAny_pure (wpAny_bind ?_)))
 refine wpAny_nsSet1 (s := { s with toks:=s.toks+1 }) I.ns fun h' hn2 hs2=>?_
 obtain ⟨oD,esD,epD,hoD,hdD,hcD⟩:=hn2.count (PySem.Within.cons name v hw)
 refine wpAny_bind (wpAny_lookBehind hoD (by rw [hdD];exact pastItsLine_dict (Nat.le_trans hcD (by rw [length_cons];omega))) ?_)
 exact wpAny_pure (h _ ⟨(hs2.2 _ (Ne.symm I.ne)).trans I.obj,hn2,I.ne⟩ hs2)
theorem zku {R:Result->Shared->Prop} {vs:List Value} {kw:List (Str × Value)} (X:K.In s.heap) (hm:W.makesIn K C=true)
  (hi:W.findIn K (.ref C) "__init__" = some (some (.ref f))) (hf:W.typeIn K (.ref f)=some (.type "function"))
  (h:codeAny (model prog w) (A.under (.builtin "type.__call__" ⟨.ref C::vs,kw⟩)) (.call (.ref f) ⟨.ref (s.heap.objs.size+1)::vs,kw⟩) (W.InitBack (s.heap.objs.size+1) R)
    { s with heap:=(s.heap.push W.emptyDict).push (W.instObj C s.heap.objs.size) }):
  codeAny (model prog w) A (.call (.ref C) ⟨vs,kw⟩) R s:=by
 obtain ⟨hh,g,d,t,os⟩:=s
 exact W.make_core (W.makes_of X hm) (W.looks_findIn X hi) (fun self=>W.bind_fn X self hf) (.inl rfl) h
end
def putF (f:Str) (v:V):List (Str × V)->List (Str × V)
 | []=>[(f,v)]
 | (g,x)::r=>if g=f then (g,v)::r else (g,x)::putF f v r
theorem zgb (f g:Str) (v:V):∀fs:List (Str × V),(putF f v fs).lookup g=if g=f then some v else fs.lookup g
 | []=>by
   show List.lookup g [(f,v)]=_
   by_cases h:g=f
   ·have hb:(g==f)=true:=beq_iff_eq.mpr h
    simp only [List.lookup,hb,if_pos h]
   ·have hb:(g==f)=false:=beq_eq_false_iff_ne.mpr h
    simp only [List.lookup,hb,if_neg h]
 | (k,x)::r=>by
   have ih:=zgb f g v r
   rw [show putF f v ((k,x)::r)=(if k=f then (k,v)::r else (k,x)::putF f v r) from rfl]
   by_cases hk:k=f
   ·rw [if_pos hk]
    by_cases h:g=k
    ·have hb:(g==k)=true:=beq_iff_eq.mpr h
     simp only [List.lookup,hb,if_pos (h.trans hk)]
    ·have hb:(g==k)=false:=beq_eq_false_iff_ne.mpr h
     simp only [List.lookup,hb,if_neg (fun e:g=f=>h (e.trans hk.symm))]
   ·rw [if_neg hk]
    by_cases h:g=k
    ·have hb:(g==k)=true:=beq_iff_eq.mpr h
     simp only [List.lookup,hb,if_neg (fun e:g=f=>hk (h.symm.trans e))]
    ·have hb:(g==k)=false:=beq_eq_false_iff_ne.mpr h
     simp only [List.lookup,hb]
     exact ih
theorem zgc (f:Str) (v:V):∀fs:List (Str × V),f∈(putF f v fs).map (·.1)/\∀g,g∈fs.map (·.1)->g∈(putF f v fs).map (·.1)
 | []=>⟨by simp [putF],fun g h=>by simp at h⟩
 | (k,x)::r=>by
   obtain ⟨i1,i2⟩:=zgc f v r
   rw [show putF f v ((k,x)::r)=(if k=f then (k,v)::r else (k,x)::putF f v r) from rfl]
   by_cases hk:k=f
   ·rw [if_pos hk]
    subst hk
    exact ⟨by simp,fun g h=>by simpa using h⟩
   ·rw [if_neg hk]
    refine ⟨?_,fun g h=>?_⟩
    ·rw [map_cons]
     exact mem_cons_of_mem _ i1
    ·rw [map_cons] at h ⊢
     rcases mem_cons.mp h with e | e
     ·exact mem_cons.mpr (.inl e)
     ·exact mem_cons_of_mem _ (i2 g e)
theorem zgd (f:Str) (v:V):∀fs:List (Str × V),(putF f v fs).length<=fs.length+1
 | []=>by simp [putF]
 | (k,x)::r=>by
   have ih:=zgd f v r
   rw [show putF f v ((k,x)::r)=(if k=f then (k,v)::r else (k,x)::putF f v r) from rfl]
   by_cases hk:k=f
   ·rw [if_pos hk,length_cons,length_cons];omega
   ·rw [if_neg hk,length_cons,length_cons];omega
theorem RelO.some_of {v:V} {o:Option Value} (r:RelO (some v) o):∃u,o=some u/\RelV v u:=by
 cases o with
 | none=>exact (show False from r).elim
 | some u=>exact ⟨u,rfl,r⟩
theorem RelO.none_of {o:Option Value} (r:RelO none o):o=none:=by
 cases o with
 | none=>rfl
 | some u=>exact (show False from r).elim
theorem zis {v:V} {u:Value} (r:RelV v u):W.handedIn u=true:=by
 cases v with
 | non=>cases (show u=Value.none from r);rfl
 | bl b=>cases (show u=Value.bool b from r);rfl
 | int i=>obtain ⟨t,e⟩:=(show ∃t,u=Value.int i t from r);cases e;rfl
 | str x=>obtain ⟨t,e⟩:=(show ∃t,u=Value.str x t from r);cases e;rfl
 | byt b=>obtain ⟨t,e⟩:=(show ∃t,u=Value.bytes b t from r);cases e;rfl
 | flt b=>obtain ⟨t,e⟩:=(show ∃t,u=Value.float b t from r);cases e;rfl
 | ref a=>cases (show u=Value.ref a from r);rfl
 | ty n=>cases (show u=Value.type n from r);rfl
section
variable {P:Program} {w:World} {H H':Hp} {h h':Heap} {a C dx:Addr} {fs fs':List (Str × V)}
theorem zge (hok:HOk P w H h) (e:H a=some (.ins C dx fs)):∃mA,ObjM h a dx C mA/\(∀f,RelO (fs.lookup f) (mA f))/\PySem.Within mA (fs.map (·.1))/\fs.length<=1000/\H dx=some (.own a):=by
 obtain ⟨d,z,ne,ob,mA,n,r,q⟩:=(show zaU P w H h a (.ins C dx fs) from hok a _ e)
 exact ⟨mA,⟨ob,n,ne⟩,r,q,z,d⟩
end
structure Cls (K:W.Frag) (C:Addr):Prop where
 pg:W.plainGet K C Str.empty=true
 hd:W.hasDictIn K C=true
 po:W.plainOver K C=true
 sa:W.findIn K (.ref C) "__setattr__" = some (some (.builtin "object.__setattr__"))
theorem Cls.get {K:W.Frag} {C:Addr} (c:Cls K C) (f:Str):W.plainGet K C f=true:=c.pg
def zal (K:W.Frag) (C:Addr) (f:Str):Prop:=W.findIn K (.ref C) f=some none
theorem zal.taker {K:W.Frag} {C:Addr} {f:Str} (n:zal K C f):W.takerIn K C f=some none:=by
 unfold W.takerIn
 rw [show W.findIn K (.ref C) f=some none from n]
 rfl
structure Con (K:W.Frag) (C:Addr) (f:Str) (v:V) (u:Value):Prop where
 at_:W.findIn K (.ref C) f=some (some u)
 rel:RelV v u
 get:W.specialIn K u "__get__" = some none
 cp:W.copiedNames.contains f=false
structure Meth (K:W.Frag) (C:Addr) (m:Str) (f:Addr):Prop where
 at_:W.findIn K (.ref C) m=some (some (.ref f))
 fn:W.isFn K (.ref f)=true
 kp:W.keepIn K (.ref f)=true
section
variable {X:Cx} {ai:List (Addr × Obj)} {σ:St} {H:Hp} {s:Shared} {a C dx:Addr} {fs:List (Str × V)} {f:Str} {v:V} {A:Around} {E:Value->Shared->Prop}
theorem zll {b:Bool} {Q:Value->Shared->Prop} (I:Inv X ai σ H s) (e:H a=some (.ins C dx fs)) (c:Cls X.K C) (n:zal X.K C f) (l:fs.lookup f=some v)
  (h:∀u s',Inv X ai σ H s'->RelV v u->Q u s'):wpAny (model X.prog X.w) A (getAttr (.ref a) f b) Q E s:=by
 obtain ⟨mA,O,r,_,_,_⟩:=zge I.hok e
 obtain ⟨u,hu,ru⟩:=RelO.some_of (v:=v) (o:=mA f) (by rw [<-l];exact r f)
 exact zqe I.kIn O (c.get f) c.hd n hu (zis ru) (h u _ (I.tok _) ru)
theorem zeF {m:Str} {g:Addr} {pl:Sem Bool} {Q:Value × List Value->Shared->Prop} (I:Inv X ai σ H s) (e:H a=some (.ins C dx fs)) (c:Cls X.K C) (k:Meth X.K C m g) (l:fs.lookup m=none)
  (h:Q (.ref g,[.ref a]) s):wpAny (model X.prog X.w) A (getMethod (.ref a) m pl) Q E s:=by
 obtain ⟨mA,O,r,_,_,_⟩:=zge I.hok e
 have hn:mA m=none:=RelO.none_of (by rw [<-l];exact r m)
 exact zol I.kIn O (c.get m) k.at_ k.fn hn h
theorem zlm {y:V} {u:Value} {Q:Unit->Shared->Prop} (I:Inv X ai σ H s) (e:H a=some (.ins C dx fs)) (c:Cls X.K C) (n:zal X.K C f) (hl:fs.length<1000) (ry:RelV y u)
  (h:∀s',Inv X ai σ (upd H a (.ins C dx (putF f y fs))) s'->Q () s'):wpAny (model X.prog X.w) A (setAttr (.ref a) f u) Q E s:=by
 obtain ⟨mA,O,r,wi,_,ho⟩:=zge I.hok e
 have hz:(fs.map (·.1)).length<=sizeLine:=by rw [length_map,sizeLine_eq];omega
 refine zqf I.kIn O c.sa c.po n.taker c.hd wi hz fun h' O' sb=>h _ ?_
 have hd:∃o,h'.get? dx=some o:=let ⟨o,_,_,e',_⟩:=O'.ns;⟨o,e'⟩
 refine I.write (x:=a) (e:=dx) (by rw [e];exact True.intro) (.inr ho) (fun b q hb z=>(sb.2 b hb).trans z) hd ?_
 refine ⟨by rw [zah O.ne];exact ho,?_,O.ne,O'.obj,_,O'.ns,fun g=>?_,fun g hg=>?_⟩
 ·have:=zgd f y fs;omega
 ·show RelO ((putF f y fs).lookup g) (if g=f then some u else mA g)
  rw [zgb]
  by_cases q:g=f
  ·rw [if_pos q,if_pos q];exact ry
  ·rw [if_neg q,if_neg q];exact r g
 ·by_cases q:g=f
  ·rw [q];exact (zgc f y fs).1
  ·refine (zgc f y fs).2 g (wi g fun z=>hg ?_)
   show (if g=f then some u else mA g)=none
   rw [if_neg q];exact z
theorem Inv.made (I:Inv X ai σ H s):Inv X ai σ (upd (upd H s.heap.objs.size (.own (s.heap.objs.size+1))) (s.heap.objs.size+1) (.ins C s.heap.objs.size []))
  { s with heap:=(s.heap.push W.emptyDict).push (W.instObj C s.heap.objs.size) }:=by
 have e1:(s.heap.push W.emptyDict).get? s.heap.objs.size=some W.emptyDict:=Heap.get?_push_size s.heap rfl
 have e2:((s.heap.push W.emptyDict).push (W.instObj C s.heap.objs.size)).get? (s.heap.objs.size+1)=some (W.instObj C s.heap.objs.size):=by
  have:=Heap.get?_push_size (s.heap.push W.emptyDict) (o:=W.instObj C s.heap.objs.size) rfl
  rwa [Heap.size_push] at this
 have e3:(s.heap.push W.emptyDict).Ns s.heap.objs.size (fun _=>none):=⟨W.emptyDict,#[],_,e1,rfl,(fun e he=>absurd he (by simp)),fun _=>rfl⟩
 have I1:=I.laid (a:=s.heap.objs.size) (o:=.own (s.heap.objs.size+1)) (h':=s.heap.push W.emptyDict) (t':=s.toks) (fun b u q=>Heap.get?_push_of_some _ q) (Nat.le_refl _) ⟨_,e1⟩
 refine I1.laid (a:=s.heap.objs.size+1) (o:=.ins C s.heap.objs.size []) (t':=s.toks) (fun b u q=>Heap.get?_push_of_some _ q) (Nat.le_of_eq (Heap.size_push _ _)) ?_
 have ne:s.heap.objs.size≠s.heap.objs.size+1:=Nat.ne_of_lt (Nat.lt_succ_self _)
 refine ⟨by rw [zah ne,zam],Nat.zero_le _,ne,e2,fun _=>none,(Heap.Ns1.of_empty e3).at fun o q=>Heap.get?_push_of_some _ q,fun _=>True.intro,fun y hy=>absurd rfl hy⟩
theorem zmf {prog:Program} {w:World} {env:Env} {e:Expr} {f:Str} {pos:Pos} {s:Shared} {Q:Value->Shared->Prop} (hb:attributeBase e f env (eval e env)=eval e env)
  (h:wpAny (model prog w) A (eval e env) (fun o s₁=>wpAny (model prog w) A (getAttr o f true) Q E s₁) E s):wpAny (model prog w) A (eval (.Attribute e f pos) env) Q E s:=
 Attribute_any_ h (by rw [arm_eval_Attribute,hb])
end
def tFld (K:W.Frag) (ta:TE) (f:Str):TE:=fun σ H Q=>ta σ H fun x H1=>∃a C dx fs v,x=.ref a/\H1 a=some (.ins C dx fs)/\Cls K C/\zal K C f/\fs.lookup f=some v/\Q v H1
section
variable {X:Cx} {o e value:Expr} {f:Str} {pos pos' tpos:Pos} {ta tv:TE}
theorem zap (he:PE X e ta) (hb:attributeBase e f X.env (eval e X.env)=eval e X.env):PE X (.Attribute e f pos) (tFld X.K ta f):=by
 with_unfolding_all
  intro ai s σ H Q I h
  refine zmf hb (thn (he ai s σ H _ I h) fun u s1 ⟨x,H1,I1,rx,a,C,dx,fs,v,ex,ea,c,n,l,q⟩=>?_)
  subst ex
  obtain rfl:u=Value.ref a:=rx
  exact zll I1 ea c n l fun u' s2 I2 ru=>⟨v,H1,I2,ru,q⟩
end
section
variable {X:Cx} {ai:List (Addr × Obj)} {σ:St} {H:Hp} {s:Shared} {A:Around} {E:Value->Shared->Prop} {Q:Value->Shared->Prop} {c:Value} {b:Bool}
inductive TyOf (K:W.Frag) (H:Hp):V->Value->Prop where
 | non:TyOf K H .non (.type "NoneType")
 | bl (x:Bool):TyOf K H (.bl x) (.type "bool")
 | int (i:Int):TyOf K H (.int i) (.type "int")
 | str (x:Str):TyOf K H (.str x) (.type "str")
 | flt (x:UInt64):TyOf K H (.flt x) (.type "float")
 | lst {a:Addr} {xs:List V} (e:H a=some (.lst xs)):TyOf K H (.ref a) (.type "list")
 | frz {a:Addr} {o:Obj} {xs:List V} (e:H a=some (.frz o (.lst xs))):TyOf K H (.ref a) (.type "list")
 | tup {a:Addr} {xs:List V} (e:H a=some (.tup xs)):TyOf K H (.ref a) (.type "tuple")
 | dK {a:Addr} {kvs:List (Key × V)} (e:H a=some (.dK kvs)):TyOf K H (.ref a) (.type "dict")
 | dT {a:Addr} {kvs:List (List Key × V)} (e:H a=some (.dT kvs)):TyOf K H (.ref a) (.type "dict")
 | ins {a C dx:Addr} {fs:List (Str × V)} (e:H a=some (.ins C dx fs)) (cl:Cls K C) (ha:W.findIn K (.ref C) "__class__" = some (some (.builtin "object.__class__")))
    (hn:W.specialIn K (.builtin "object.__class__") "__get__" = some (some (.builtin "getset_descriptor.__get__"))) (htk:W.takesIn K (.builtin "object.__class__")=some true)
    (hm:W.mroIn K C (.type "object")=some true):TyOf K H (.ref a) (.ref C)
theorem zmg {x:V} {u t:Value} (I:Inv X ai σ H s) (rx:RelV x u) (ty:TyOf X.K H x t) (e:W.kitOne X.K t c=some b) (h:∀tk,Q (.bool b) { s with toks:=tk }):
  wpAny (model X.prog X.w) A (call (.builtin "isinstance") [u,c]) Q E s:=by
 cases ty with
 | non=>cases (show u=Value.none from rx);exact W.kia_one W.kitx_none I.kIn True.intro e (fun z=>nomatch z) h
 | bl y=>cases (show u=Value.bool y from rx);exact W.kia_one W.kitx_bool I.kIn True.intro e (fun z=>nomatch z) h
 | int i=>obtain ⟨t,q⟩:=(show ∃t,u=Value.int i t from rx);cases q;exact W.kia_one W.kitx_int I.kIn True.intro e (fun z=>nomatch z) h
 | str y=>obtain ⟨t,q⟩:=(show ∃t,u=Value.str y t from rx);cases q;exact W.kia_one W.kitx_str I.kIn True.intro e (fun z=>nomatch z) h
 | flt y=>obtain ⟨t,q⟩:=(show ∃t,u=Value.float y t from rx);cases q;exact W.kia_one W.kitx_float I.kIn True.intro e (fun z=>nomatch z) h
 | @lst a xs ea=>
   cases (show u=Value.ref a from rx)
   obtain ⟨_,_,n,_,h1⟩:=(show zaU X.prog X.w H s.heap a (.lst xs) from I.hok a _ ea)
   exact W.kia_one W.kitx_list I.kIn ⟨_,h1,rfl⟩ e (fun z=>nomatch z) h
 | @frz a ob xs ea=>
   cases (show u=Value.ref a from rx)
   obtain ⟨_,_,_,n,_,h1⟩:=(show zaU X.prog X.w H s.heap a (.frz ob (.lst xs)) from I.hok a _ ea)
   exact W.kia_one W.kitx_list I.kIn ⟨_,h1,rfl⟩ e (fun z=>nomatch z) h
 | @tup a xs ea=>
   cases (show u=Value.ref a from rx)
   obtain ⟨_,_,_,p⟩:=(show zaU X.prog X.w H s.heap a (.tup xs) from I.hok a _ ea)
   obtain ⟨o,h1,h2,_⟩:=p
   exact W.kia_one W.kitx_tuple I.kIn ⟨o,h1,h2⟩ e (fun z=>nomatch z) h
 | @dK a kvs ea=>
   cases (show u=Value.ref a from rx)
   obtain ⟨_,_,vs,_,p⟩:=(show zaU X.prog X.w H s.heap a (.dK kvs) from I.hok a _ ea)
   obtain ⟨o,es,ep,h1,h2,_⟩:=p
   exact W.kia_one W.kitx_dict I.kIn ⟨o,h1,h2.1⟩ e (fun z=>nomatch z) h
 | @dT a kvs ea=>
   cases (show u=Value.ref a from rx)
   obtain ⟨_,_,xs,_,o,es,ep,h1,h2,_⟩:=(show zaU X.prog X.w H s.heap a (.dT kvs) from I.hok a _ ea)
   exact W.kia_one W.kitx_dict I.kIn ⟨o,h1,h2.1⟩ e (fun z=>nomatch z) h
 | @ins a C dx fs ea cl ha hn htk hm=>
   cases (show u=Value.ref a from rx)
   obtain ⟨mA,O,_⟩:=zge I.hok ea
   obtain ⟨od,J,_⟩:=O.look
   exact W.kia_one (W.kitx_own (cl.get _) cl.hd ha hn htk hm) I.kIn J e (fun z=>nomatch z) h
end
end
section
structure Room (k:Nat) (A:Around):Prop where
 hd:A.handled=none
 dp:A.depth+3*k+5<recursionLimit
 un:A.units+16*k+200<cLine
 gd:A.guards=some []
theorem Room.mono {j k:Nat} {A:Around} (r:Room k A) (h:j<=k):Room j A:=⟨r.hd,by have:=r.dp;omega,by have:=r.un;omega,r.gd⟩
theorem Room.deeper {k:Nat} {A:Around} (r:Room (k+1) A) (env:Env):Room k (A.deeper env):=
 ⟨r.hd,by have:=r.dp;show A.depth+1+3*k+5<_;omega,by have:=r.un;show A.units+3+16*k+200<_;omega,r.gd⟩
theorem Room.in1 {k:Nat} {A:Around} (r:Room (k+1) A):Room k A.in1:=
 ⟨r.hd,by have:=r.dp;show A.depth+3*k+5<_;omega,by have:=r.un;show A.units+1+16*k+200<_;omega,r.gd⟩
theorem zln {A:Around} {C:Addr} {us:List Value} {kw:List (Str × Value)}:(A.under (.builtin "type.__call__" ⟨.ref C::us,kw⟩)).depth=A.depth+1:=by
 first | rfl | simp [Around.under,Code.weight,Code.isCreation,Code.isGuard,Code.isCaller,Code.frames,Code.isFrame,guardIds]
theorem zlo {A:Around} {C:Addr} {us:List Value} {kw:List (Str × Value)}:(A.under (.builtin "type.__call__" ⟨.ref C::us,kw⟩)).units=A.units+1:=by
 first | rfl | simp [Around.under,Code.cUnits,Code.frames,Code.isFrame]
theorem zjC {A:Around} {C:Addr} {us:List Value} {kw:List (Str × Value)}:(A.under (.builtin "type.__call__" ⟨.ref C::us,kw⟩)).guards=A.guards:=by
 first | rfl | simp [Around.under,Code.guards,Code.isGuard,guardIds,pushGuards]
theorem Room.make {k:Nat} {A:Around} (r:Room (k+1) A) (C:Addr) (us:List Value) (kw:List (Str × Value)):Room k (A.under (.builtin "type.__call__" ⟨.ref C::us,kw⟩)):=
 ⟨r.hd,by have:=r.dp;rw [zln];omega,by have:=r.un;rw [zlo];omega,by rw [zjC];exact r.gd⟩
theorem Room.depth {k:Nat} {A:Around} (r:Room k A):A.depth<recursionLimit:=by have:=r.dp;omega
theorem Room.units0 {k:Nat} {A:Around} (r:Room k A):A.units<cLine:=by have:=r.un;omega
def tNil:TA:=fun _ H Q=>Q [] H
def zdE (ta:TE) (tr:TA):TA:=fun σ H Q=>ta σ H fun x H1=>tr σ H1 fun xs H2=>Q (x::xs) H2
section
variable {X:Cx} {e:Expr} {es:List Expr} {te:TE} {t:TA} {pos:Pos}
theorem zae:PA X [] tNil:=by
 with_unfolding_all
  exact fun _ _ _ _ H Q I h=>Calls.spliced_nil ⟨[],H,I,.nil,h⟩
theorem zaa (ha:PE X e te) (hr:PA X es t) (hs:starEach (e::es) X.env=(false,eval e X.env)::starEach es X.env:=by rfl):PA X (e::es) (zdE te t):=by
 with_unfolding_all
  intro pos ai s σ H Q I h
  rw [hs]
  show wpAny _ _ (spliced ((false,eval e X.env)::backTo pos (starEach es X.env))) _ _ s
  refine Calls.spliced_cons (thn (ha ai s σ H _ I h) fun u s1 ⟨x,H1,I1,r1,q1⟩=>?_)
  exact thn (hr pos ai s1 σ H1 _ I1 q1) fun us s2 ⟨xs,H2,I2,r2,q2⟩=>⟨x::xs,H2,I2,.cons r1 r2,q2⟩
end
abbrev Sp:=List V->Hp->VK->XK->Prop
abbrev CXT:=List Env->Hp->Shared->XK->Value->Shared->Prop
structure Env0 (P:Program) (w:World) (K:W.Frag) (mg:Str->Option Value) (bf:Heap) (A:Around) (outer:List Env) (s:Shared) (H:Hp):Prop where
 frames:A.frames=some outer
 mod:Mod K mg bf
 bs:∀b o,bf.get? b=some o->s.heap.get? b=some o/\H b=none
 bsz:bf.objs.size<=s.heap.objs.size
 funs:s.heap.FunFrames bf outer
 frf:∀b∈frs outer,H b=none
 hok:HOk P w H s.heap
 bare:AllBare s.gens
def CE (outer:List Env) (P:Program) (w:World) (H:Hp) (s:Shared) (Q:VK) (u:Value) (s':Shared):Prop:=
 ∃v H',s'.os=s.os/\AllBare s'.gens/\Un (frs outer) [] H H' s.heap s'.heap/\HOk P w H' s'.heap/\RelV v u/\Q v H'
def CR (CX:CXT) (outer:List Env) (P:Program) (w:World) (H:Hp) (s:Shared) (Q:VK) (E:XK) (r:Result) (s':Shared):Prop:=
 match r with
 | .ok (.ret u)=>CE outer P w H s Q u s'
 | .ok _=>False
 | .error e=>CX outer H s E e s'
structure FnOk (P:Program) (w:World) (K:W.Frag) (mg:Str->Option Value) (bf:Heap) (CX:CXT) (k:Nat) (f:Addr) (fd:FuncData) (ps:List Str) (sp:Sp):Prop where
 len:∀vs H Q E,sp vs H Q E->vs.length=ps.length
 run:∀(A:Around) (outer:List Env) (s:Shared) (H:Hp) (args:Args) (us:List Value) (vs:List V) (Q:VK) (E:XK),Room k A->Env0 P w K mg bf A outer s H->BindsTo s fd args (ps.zip us)->Vals vs us->sp vs H Q E->
  codeAny (model P w) A (.call (.ref f) args) (CR CX outer P w H s Q E) s
theorem FnOk.mono {P:Program} {w:World} {K:W.Frag} {mg:Str->Option Value} {bf:Heap} {CX:CXT} {j k:Nat} {f:Addr} {fd:FuncData} {ps:List Str} {sp:Sp} (F:FnOk P w K mg bf CX j f fd ps sp) (h:j<=k):
 FnOk P w K mg bf CX k f fd ps sp:=⟨F.len,fun A outer s H args us vs Q E hr=>F.run A outer s H args us vs Q E (hr.mono h)⟩
theorem FnOk.imp {P:Program} {w:World} {K:W.Frag} {mg:Str->Option Value} {bf:Heap} {CX:CXT} {k:Nat} {f:Addr} {fd:FuncData} {ps:List Str} {sp sp':Sp} (F:FnOk P w K mg bf CX k f fd ps sp)
  (h:∀vs H Q E,sp' vs H Q E->sp vs H Q E):FnOk P w K mg bf CX k f fd ps sp':=
 ⟨fun vs H Q E q=>F.len vs H Q E (h _ _ _ _ q),fun A outer s H args us vs Q E hr he hb hv hs=>F.run A outer s H args us vs Q E hr he hb hv (h _ _ _ _ hs)⟩
theorem Env0.make {P:Program} {w:World} {K:W.Frag} {mg:Str->Option Value} {bf:Heap} {A:Around} {outer:List Env} {s:Shared} {H:Hp} (e:Env0 P w K mg bf A outer s H) (C:Addr) (us:List Value) (kw:List (Str × Value)):
 Env0 P w K mg bf (A.under (.builtin "type.__call__" ⟨.ref C::us,kw⟩)) outer s H:=⟨by first | exact e.frames | (simpa [Around.under,Code.envs,Code.isFrame,pushEnvs] using e.frames),e.mod,e.bs,e.bsz,e.funs,e.frf,e.hok,e.bare⟩
section
variable {X:Cx} {ai:List (Addr × Obj)} {σ:St} {H:Hp} {s s':Shared}
theorem Inv.env0 (I:Inv X ai σ H s):Env0 X.prog X.w X.K X.mg X.bf X.A X.stack s H:=
 ⟨I.ok.frames,I.ok.mod,I.bs,Nat.le_trans I.ok.bsz I.sz,I.stack,I.stkFree,I.hok,I.bare⟩
theorem Inv.after {Q:VK} {u:Value} (I:Inv X ai σ H s) (h:CE X.stack X.prog X.w H s Q u s'):EP X ai σ Q u s':=by
 obtain ⟨v,H',os,bare,un,hok,r,q⟩:=h
 obtain ⟨hh,g,d,t,os'⟩:=s'
 obtain rfl:os'=s.os:=os
 exact ⟨v,H',I.call (h':=hh) (g':=g) (d':=d) (t':=t) (ch:=[]) un hok bare (fun b z=>absurd z (by simp)),r,q⟩
end
def zmh (sp:Sp) (dvs:List V) (E:XK) (t:TA):TE:=fun σ H Q=>t σ H fun vs H1=>sp (vs++dvs) H1 Q E
def za2 (K:W.Frag) (fd:FuncData) (ps:List Str) (ds:List Value):Prop:=
 ∀(s:Shared) (us:List Value),K.In s.heap->(us++ds).length=ps.length->BindsTo s fd ⟨us,[]⟩ (ps.zip (us++ds))
theorem za2.all {K:W.Frag} {fd:FuncData} {ps:List Str} (h:∀us:List Value,us.length=ps.length->bindArgs fd ⟨us,[]⟩=pure (ps.zip us)):za2 K fd ps []:=fun s us _ hl=>by
 rw [append_nil] at hl ⊢
 exact .of_eq (h us hl)
def zcx (CX:CXT) (X:Cx) (E:XK):Prop:=∀(ai:List (Addr × Obj)) (σ:St) (H:Hp) (s:Shared) (e:Value) (s':Shared),Inv X ai σ H s->CX X.stack H s E e s'->X.xe e s'
section
variable {X:Cx} {CX:CXT} {k:Nat} {f C:Addr} {fd:FuncData} {ps:List Str} {sp:Sp} {dvs:List V} {ds:List Value} {E:XK} {x m:Str} {p pos apos:Pos} {e o:Expr} {es:List Expr} {ta:TE} {t:TA}
theorem zkv {ai:List (Addr × Obj)} {σ:St} {H:Hp} {s:Shared} {Q:VK} {us:List Value} {vs:List V} (F:FnOk X.prog X.w X.K X.mg X.bf CX k f fd ps sp) (hr:Room k X.A) (hb:za2 X.K fd ps ds) (hd:Vals dvs ds) (hx:zcx CX X E)
  (I:Inv X ai σ H s) (r:Vals vs us) (h:sp (vs++dvs) H Q E):wpAny (model X.prog X.w) X.A (call (.ref f) us) (EP X ai σ Q) X.xe s:=by
 have r2:Vals (vs++dvs) (us++ds):=r.append hd
 have hl:(us++ds).length=ps.length:=by rw [<-r2.length];exact F.len _ _ _ _ h
 refine wpAny_call (codeAny_mono (F.run X.A X.stack s H ⟨us,[]⟩ (us++ds) (vs++dvs) Q E hr I.env0 (hb s us I.kIn hl) r2 h) fun r s' hq=>?_)
 cases r with
 | error e=>exact hx ai σ H s e s' I hq
 | ok fl=>
   cases fl with
   | ret u=>exact I.after hq
   | next=>exact False.elim hq
   | brk=>exact False.elim hq
   | cont=>exact False.elim hq
theorem zmi (F:FnOk X.prog X.w X.K X.mg X.bf CX k f fd ps sp) (hr:Room k X.A) (hg:Gl X x) (hm:X.mg x=some (.ref f)) (hk:W.keepIn X.K (.ref f)=true) (hb:za2 X.K fd ps ds) (hd:Vals dvs ds) (hx:zcx CX X E)
  (ha:PA X (e::es) t) (hdb:(x==("__debug__" : Str))=false:=by decide) (he:starEach (e::es) X.env=(false,eval e X.env)::starEach es X.env:=by rfl) (hpl:(backTo pos (starEach es X.env)).any (·.1)=false:=by rfl):
  PE X (.Call (.Name x p) (e::es) [] pos) (zmh sp dvs E t):=by
 with_unfolding_all
  intro ai s σ H Q I h
  refine wpAny_Call_Name_kw (zcm I hg hm ?_ hdb)
  refine W.callWith_K (h₀:=X.bf) I.ok.mod.kin hk (thn (ha pos ai s σ H _ I h) fun us s1 ⟨vs,H1,I1,r,q⟩=>⟨I1.kIn,?_⟩) he hpl
  exact zkv F hr hb hd hx I1 r q
theorem zom (F:FnOk X.prog X.w X.K X.mg X.bf CX k f fd ps sp) (hr:Room k X.A) (hg:Gl X x) (hm:X.mg x=some (.ref f)) (hk:W.keepIn X.K (.ref f)=true) (hb:za2 X.K fd ps ds) (hd:Vals dvs ds) (hx:zcx CX X E)
  (hdb:(x==("__debug__" : Str))=false:=by decide):PE X (.Call (.Name x p) [] [] pos) (zmh sp dvs E tNil):=by
 with_unfolding_all
  intro ai s σ H Q I h
  refine wpAny_Call_Name_kw (zcm I hg hm ?_ hdb)
  exact W.callWith_K0 I.kIn hk (zkv (us:=[]) F hr hb hd hx I .nil h)
structure Mk (K:W.Frag) (C f:Addr):Prop where
 makes:W.makesIn K C=true
 init:W.findIn K (.ref C) "__init__" = some (some (.ref f))
 fn:W.isFn K (.ref f)=true
 kp:W.keepIn K (.ref C)=true
theorem zkw {ai:List (Addr × Obj)} {σ:St} {H:Hp} {s:Shared} {Q:VK} {us:List Value} {vs:List V} (M:Mk X.K C f) (F:FnOk X.prog X.w X.K X.mg X.bf CX k f fd ps sp) (hr:Room (k+1) X.A) (hb:za2 X.K fd ps ds) (hd:Vals dvs ds)
  (hx:zcx CX X E) (I:Inv X ai σ H s) (r:Vals vs us)
  (h:∀x dx,H x=none->H dx=none->dx≠x->sp (.ref x::(vs++dvs)) (upd (upd H dx (.own x)) x (.ins C dx [])) (fun v H2=>v=.non/\Q (.ref x) H2) E):
  wpAny (model X.prog X.w) X.A (call (.ref C) us) (EP X ai σ Q) X.xe s:=by
 have hq:=h (s.heap.objs.size+1) s.heap.objs.size (I.hok.fresh (Nat.le_succ _)) (I.hok.fresh (Nat.le_refl _)) (Nat.ne_of_lt (Nat.lt_succ_self _))
 have I2:=Inv.made (C:=C) I
 have r2:Vals (V.ref (s.heap.objs.size+1)::(vs++dvs)) (Value.ref (s.heap.objs.size+1)::(us++ds)):=.cons rfl (r.append hd)
 have hl:(Value.ref (s.heap.objs.size+1)::us++ds).length=ps.length:=by
  have e:=r2.length
  rw [F.len _ _ _ _ hq] at e
  exact e.symm
 refine wpAny_call (zku (f:=f) I.kIn M.makes M.init (beq_iff_eq.mp M.fn) (codeAny_mono (F.run _ X.stack _ _ ⟨Value.ref (s.heap.objs.size+1)::us,[]⟩ (Value.ref (s.heap.objs.size+1)::(us++ds)) _ _ E (hr.make C us [])
  (I2.env0.make C us []) (hb _ (Value.ref (s.heap.objs.size+1)::us) I2.kIn hl) r2 hq) fun r s' hq'=>?_))
 cases r with
 | error e=>exact hx ai σ _ _ e s' I2 hq'
 | ok fl=>
   cases fl with
   | ret u=>
     obtain ⟨v,H',I3,rv,ev,q3⟩:=I2.after hq'
     subst ev
     exact ⟨rv,⟨V.ref (s.heap.objs.size+1),H',I3,rfl,q3⟩⟩
   | next=>exact False.elim hq'
   | brk=>exact False.elim hq'
   | cont=>exact False.elim hq'
end
section
variable {X:Cx} {CX:CXT} {k:Nat} {f C:Addr} {fd:FuncData} {ps ks:List Str} {sp:Sp} {E:XK} {x m:Str} {p pos apos kpos:Pos} {e o:Expr} {es:List Expr} {kws:List Keyword} {te ta:TE} {t tk:TA} {nm:Option Str}
structure KBinds (K:W.Frag) (fd:FuncData) (ps ks:List Str) (g:List Value->List Value->List Value) (gV:List V->List V->List V):Prop where
 to:∀(s:Shared) (us ws:List Value),K.In s.heap->(g us ws).length=ps.length->BindsTo s fd ⟨us,ks.zip ws⟩ (ps.zip (g us ws))
 rel:∀ {vs:List V} {us:List Value} {zs:List V} {ws:List Value},Vals vs us->Vals zs ws->Vals (gV vs zs) (g us ws)
variable {g:List Value->List Value->List Value} {gV:List V->List V->List V}
end
structure FnScope (N P:List Str) (sc:Scope):Prop where
 kind:sc.kind=.function
 co:sc.isCoroutine=false
 gen:sc.isGenerator=false
 nd:N.Nodup
 pre:N.take P.length=P
 par:∀x∈P,sc.names.lookup x=some .local\/sc.names.lookup x=some .cell
 nofree:∀y∈sc.names,y.2≠.free
theorem zit {kindOf:Str->Option NameKind} {x:Str}:∀ {binds:List (Str × Value)} {m:Str->Option Value},(∀v,(x,v)∉binds)->bindL kindOf binds m x=m x
 | [],_,_=>rfl
 | (n,v)::r,m,h=>by
   unfold bindL
   rw [zit fun w hw=>h w (mem_cons_of_mem _ hw)]
   split
   ·have:x≠n:=by rintro rfl;exact h v mem_cons_self
    simp [this]
   ·rfl
theorem ziu {kindOf:Str->Option NameKind} {x:Str}:∀ {binds:List (Str × Value)} {m:Str->Option Value},(∀v,(x,v)∉binds)->bindC kindOf binds m x=m x
 | [],_,_=>rfl
 | (n,v)::r,m,h=>by
   unfold bindC
   rw [ziu fun w hw=>h w (mem_cons_of_mem _ hw)]
   split
   ·rfl
   ·have:x≠n:=by rintro rfl;exact h v mem_cons_self
    simp [this]
theorem ziv {kindOf:Str->Option NameKind} {x:Str} {v:Value}:∀ {P:List Str} {vs:List Value} {i:Nat} {m:Str->Option Value},P.Nodup->P[i]?=some x->vs[i]?=some v->kindOf x=some .local->
  bindL kindOf (P.zip vs) m x=some v
 | [],_,_,_,_,h,_,_=>by simp at h
 | _::_,[],_,_,_,_,h,_=>by simp at h
 | p::P,w::vs,0,m,nd,h1,h2,hk=>by
   simp at h1 h2;subst h1;subst h2
   show bindL kindOf ((p,w)::P.zip vs) m p=_
   unfold bindL
   rw [zit fun v hv=>(nodup_cons.mp nd).1 (List.of_mem_zip hv).1,if_pos hk]
   simp
 | p::P,w::vs,i+1,m,nd,h1,h2,hk=>by
   show bindL kindOf ((p,w)::P.zip vs) m x=_
   unfold bindL
   exact ziv (i:=i) (nodup_cons.mp nd).2 (by simpa using h1) (by simpa using h2) hk
theorem ziw {kindOf:Str->Option NameKind} {x:Str} {v:Value}:∀ {P:List Str} {vs:List Value} {i:Nat} {m:Str->Option Value},P.Nodup->P[i]?=some x->vs[i]?=some v->kindOf x≠some .local->
  bindC kindOf (P.zip vs) m x=some v
 | [],_,_,_,_,h,_,_=>by simp at h
 | _::_,[],_,_,_,_,h,_=>by simp at h
 | p::P,w::vs,0,m,nd,h1,h2,hk=>by
   simp at h1 h2;subst h1;subst h2
   show bindC kindOf ((p,w)::P.zip vs) m p=_
   unfold bindC
   rw [ziu fun v hv=>(nodup_cons.mp nd).1 (List.of_mem_zip hv).1,if_neg hk]
   simp
 | p::P,w::vs,i+1,m,nd,h1,h2,hk=>by
   show bindC kindOf ((p,w)::P.zip vs) m x=_
   unfold bindC
   exact ziw (i:=i) (nodup_cons.mp nd).2 (by simpa using h1) (by simpa using h2) hk
def zfz (N:List Str) (vs:List V):St:=vs.map some++List.replicate (N.length-vs.length) none
def cxOf (CX:CXT) (P:Program) (w:World) (K:W.Frag) (mg:Str->Option Value) (bf:Heap) (N:List Str) (qual:Str) (scope:Scope) (f:Addr) (cd:Value) (A:Around) (outer:List Env) (s:Shared) (H:Hp) (E:XK):Cx where
 prog:=P
 w:=w
 K:=K
 mg:=mg
 bf:=bf
 A:=A.deeper (envOfC qual scope s.heap.objs.size f cd)
 N:=N
 s₀:=s
 H₀:=H
 env:=envOfC qual scope s.heap.objs.size f cd
 outer:=outer
 stack:=envOfC qual scope s.heap.objs.size f cd::outer
 ex:=[]
 calm:=true
 fn:=fun _=>true
 pn:=[]
 xe:=fun e s'=>wpAny (model P w) (A.deeper (envOfC qual scope s.heap.objs.size f cd)) (leaving (envOfC qual scope s.heap.objs.size f cd) e) (fun _ s''=>CX outer H s E e s'') (fun e' s''=>CX outer H s E e' s'') s'
theorem zkx {sc:Scope} {n:Nat} {x:Str} (h:sc.names.lookup x=some .cell):∃c,(cellsFrom n sc.names []).lookup x=some c:=by
 have q:=W.cellsFrom_some sc.names n [] (.inl h)
 exact Option.isSome_iff_exists.mp q
theorem zmj {CX:CXT} {P:Program} {w:World} {K:W.Frag} {mg:Str->Option Value} {bf:Heap} {N ps:List Str} {qual:Str} {scope:Scope} {f:Addr} {cd:Value} {A:Around} {outer:List Env} {s s1:Shared} {H:Hp} {E:XK} {us:List Value} {vs:List V}
  (S:FnScope N ps scope) (hd:A.handled=none) (e0:Env0 P w K mg bf A outer s H) (hl:vs.length=ps.length) (r:Vals vs us)
  (x:InCallC s s.heap.objs.size (bindL (envOfC qual scope s.heap.objs.size f cd).kindOf (ps.zip us) fun _=>none) (cellsFrom (s.heap.objs.size+1) scope.names []) (bindC (envOfC qual scope s.heap.objs.size f cd).kindOf (ps.zip us) fun _=>none) s1):
  Inv (cxOf CX P w K mg bf N qual scope f cd A outer s H E) [] (zfz N vs) H s1:=by
 have hpl:ps.length<=N.length:=by have:=congrArg List.length S.pre;rw [length_take] at this;omega
 obtain ⟨h1,tk,rfl,hk⟩:=x.done
 have noA:∀b:Addr,b∉(cxOf CX P w K mg bf N qual scope f cd A outer s H E).ex:=fun b z=>absurd (show b∈([]:List Addr) from z) (by simp)
 refine ⟨⟨e0.mod,S.kind,rfl,rfl,Nat.le_refl _,fun y z c h1 h2=>?_,fun y hy=>?_,fun y c _ h=>?_,fun _=>hd,Around.frames_deeper e0.frames,.inr ⟨rfl,rfl⟩,fun b z=>absurd z (noA b),e0.bs,e0.bsz,fun b _ _=>noA b,fun b z=>absurd z (noA b),e0.funs,e0.frf⟩,
  rfl,e0.bare,Un.kept hk,⟨_,x.toInCall.ns,fun i y v h1 h2 h3=>?_⟩,fun y c h=>⟨_,x.cell y c h⟩,e0.hok.fresh (Nat.le_refl _),fun y c h=>?_,fun p hp=>absurd (show p∈([]:List (Addr × Obj)) from hp) (by simp),e0.hok.kept hk,?_⟩
 ·exact name_of_addr x.apart (PySem.mem_of_lookup h1) (PySem.mem_of_lookup h2)
 ·have hy:scope.names.lookup y=some .cell\/scope.names.lookup y=some .free:=hy
  rcases hy with hy | hy
  ·exact zkx hy
  ·exact absurd rfl (S.nofree _ (PySem.mem_of_lookup hy))
 ·exact Nat.le_of_lt (x.above y c (PySem.mem_of_lookup h))
 ·have hi:i<vs.length:=by
   unfold zfz at h2
   by_cases hi:i<vs.length
   ·exact hi
   ·rw [getElem?_append_right (by simpa using hi)] at h2
    rw [List.getElem?_replicate] at h2
    split at h2<;>cases h2
  have ha:vs[i]?=some v:=by
   unfold zfz at h2
   rw [getElem?_append_left (by simpa using hi),getElem?_map] at h2
   cases e:vs[i]? with
   | none=>rw [e] at h2;cases h2
   | some a=>rw [e] at h2;cases h2;rfl
  obtain ⟨u,hu,rv⟩:=r.get ha
  have hp:ps[i]?=some y:=by
   rw [<-S.pre,List.getElem?_take_of_lt (by omega)];exact h1
  have ndP:ps.Nodup:=by rw [<-S.pre];exact S.nd.sublist (List.take_sublist _ _)
  refine ⟨u,rv,?_⟩
  rcases S.par y (mem_of_getElem? hp) with k | k
  ·exact .inl ⟨k,ziv ndP hp hu k⟩
  ·obtain ⟨c,e⟩:=zkx (n:=s.heap.objs.size+1) k
   refine .inr ⟨.inl k,c,e,?_⟩
   have q:=x.cell y c e
   rw [ziw ndP hp hu (by show scope.names.lookup y≠_;rw [k];decide)] at q
   exact q
 ·exact e0.hok.fresh (Nat.le_of_lt (x.above y c (PySem.mem_of_lookup h)))
 ·unfold zfz
  show _=N.length
  rw [length_append,length_map,List.length_replicate]
  omega
theorem zmk {CX:CXT} {P:Program} {w:World} {K:W.Frag} {mg:Str->Option Value} {bf:Heap} {k:Nat} {f:Addr} {name qual:Str} {params:Arguments} {body:List Stmt} {scope:Scope} {dV kV doc pm cdv ct oc:Value} {an od:Option Addr}
  {osl:Array (Option Value)} {N ps:List Str} {sp:Sp} (lk:K.lookup f=some ⟨oc,od,.func (W.fnOf name qual params body scope dV kV doc pm an cdv ct),osl⟩) (hcd:W.codeIn K cdv qual=true) (S:FnScope N ps scope)
  (len:∀vs H Q E,sp vs H Q E->vs.length=ps.length)
  (hbody:∀(A:Around) (outer:List Env) (s:Shared) (H:Hp) (vs:List V) (Q:VK) (E:XK),Room k (A.deeper (envOfC qual scope s.heap.objs.size f cdv))->sp vs H Q E->
    ∃t,PSs (cxOf CX P w K mg bf N qual scope f cdv A outer s H E) body t/\t { nx:=fun _ H'=>Q .non H',rt:=Q } (zfz N vs) H):
  FnOk P w K mg bf CX (k+1) f (W.fnOf name qual params body scope dV kV doc pm an cdv ct) ps sp:=by
 with_unfolding_all
  refine ⟨len,fun A outer s H args us vs Q E hr e0 hb r hsp=>?_⟩
  have hl:=len _ _ _ _ hsp
  have KX:K.In s.heap:=e0.mod.kin.keeps fun b o e=>(e0.bs b o e).1
  have lim:s.heap.NoLimit:=e0.mod.nolimit.keeps fun b o e=>(e0.bs b o e).1
  have hkind:∀y∈ps.zip us,scope.names.lookup y.1=some .local\/(scope.names.lookup y.1=some .cell/\((cellsFrom (s.heap.objs.size+1) scope.names []).lookup y.1).isSome=true):=fun ⟨n,v⟩ hy=>by
   rcases S.par n (List.of_mem_zip hy).1 with q | q
   ·exact .inl q
   ·exact .inr ⟨q,W.cellsFrom_some _ _ _ (.inl q)⟩
  refine codeAny_call_function hr.depth (KX _ _ lk) rfl S.co S.gen rfl (W.codeRec_of KX hcd) (hb _ _ _ _ ?_)
  refine wpAny_newFunctionEnv_cells S.kind hkind fun env he s1 x=>?_
  subst he
  refine ⟨lim.keeps x.toInCall.keep,codeAny_func ?_⟩
  obtain ⟨t,ht,hq⟩:=hbody A outer s H vs Q E (hr.deeper _) hsp
  have I:Inv (cxOf CX P w K mg bf N qual scope f cdv A outer s H E) [] (zfz N vs) H s1:=zmj S hr.hd e0 hl r x
  refine wpAny_mono (ht [] s1 (zfz N vs) H _ I hq) (fun fl s' hs=>?_) fun e s' hs=>hs
  have fin:∀ {σ':St} {H':Hp} {v:V} {u:Value},Inv (cxOf CX P w K mg bf N qual scope f cdv A outer s H E) [] σ' H' s'->RelV v u->Q v H'->CE outer P w H s Q u s':=
   fun {σ' H' v u} J rv q=>⟨v,H',J.os,J.bare,J.bf,J.hok,rv,q⟩
  cases fl with
  | ret u=>
    obtain ⟨v,σ',H',J,rv,q⟩:=hs
    exact fin J rv q
  | next=>
    obtain ⟨σ',H',J,q⟩:=hs
    exact fin (v:=V.non) (u:=Value.none) J rfl q
  | brk=>
    obtain ⟨_,_,_,q⟩:=hs
    exact False.elim q
  | cont=>
    obtain ⟨_,_,_,q⟩:=hs
    exact False.elim q
end
section
section
variable {X:Cx} {x:Str} {p pos:Pos} {e:Expr} {es:List Expr} {t:TA} {id T:String} {r:List V->Hp->VK->Prop}
def tCB (r:List V->Hp->VK->Prop) (t:TA):TE:=fun σ H Q=>t σ H fun vs H1=>r vs H1 Q
theorem zar (hc:zcE X (.builtin id) r) (hg:Gl X x) (hm:X.mg x=none) (hv:bootBuiltins x=some (.builtin id)) (ha:PA X (e::es) t) (hn:x ≠ "__name__" := by decide) (hdb:(x==("__debug__" : Str))=false:=by decide)
  (he:starEach (e::es) X.env=(false,eval e X.env)::starEach es X.env:=by rfl) (hpl:(backTo pos (starEach es X.env)).any (·.1)=false:=by rfl):PE X (.Call (.Name x p) (e::es) [] pos) (tCB r t):=by
 with_unfolding_all
  intro ai s σ H Q I h
  refine wpAny_Call_Name_kw (zfr I hg hm hv ?_ hn hdb)
  exact PyProof.Rows.callWith_builtin1 (thn (ha pos ai s σ H _ I h) fun us s1 ⟨vs,H1,I1,r1,q1⟩=>hc ai s1 σ H1 vs us Q I1 r1 q1) he hpl
theorem zgf (hc:zcE X (.type T) r) (hg:Gl X x) (hm:X.mg x=none) (hv:bootBuiltins x=some (.type T)) (ha:PA X (e::es) t) (hn:x ≠ "__name__" := by decide) (hdb:(x==("__debug__" : Str))=false:=by decide)
  (he:starEach (e::es) X.env=(false,eval e X.env)::starEach es X.env:=by rfl) (hpl:(backTo pos (starEach es X.env)).any (·.1)=false:=by rfl):PE X (.Call (.Name x p) (e::es) [] pos) (tCB r t):=by
 with_unfolding_all
  intro ai s σ H Q I h
  refine wpAny_Call_Name_kw (zfr I hg hm hv ?_ hn hdb)
  exact PyProof.Rows.callWith_type1 (thn (ha pos ai s σ H _ I h) fun us s1 ⟨vs,H1,I1,r1,q1⟩=>hc ai s1 σ H1 vs us Q I1 r1 q1) he hpl
end
end
section
section
variable {κ:Type} [DecidableEq κ]
def valV (kvs:List (κ × V)) (k : κ):Option V:=(kvs.find? fun kv=>decide (kv.1=k)).map (·.2)
def putK (kvs:List (κ × V)) (k : κ) (v:V):List (κ × V):=
 if (kvs.any fun kv=>decide (kv.1=k))=true then kvs.map (fun kv=>if kv.1=k then (kv.1,v) else kv) else kvs++[(k,v)]
theorem zon {k : κ}:valV ([]:List (κ × V)) k=none:=rfl
theorem zbf {p : κ × V} {r:List (κ × V)} {k : κ} (e:p.1=k):valV (p::r) k=some p.2:=by simp [valV,find?_cons,e]
theorem zba {p : κ × V} {r:List (κ × V)} {k : κ} (e:¬p.1=k):valV (p::r) k=valV r k:=by simp [valV,find?_cons,e]
theorem zee (k : κ):∀kvs:List (κ × V),(kvs.any fun kv=>decide (kv.1=k))=(valV kvs k).isSome
 | []=>rfl
 | p::r=>by
   rw [any_cons]
   by_cases e:p.1=k
   ·simp only [zbf e,decide_eq_true e,Bool.true_or,Option.isSome_some]
   ·rw [zba e,decide_eq_false e,Bool.false_or];exact zee k r
theorem zky (k j : κ) (y:V):∀kvs:List (κ × V),valV (kvs.map fun kv=>if kv.1=k then (kv.1,y) else kv) j=(valV kvs j).map fun x=>if j=k then y else x
 | []=>rfl
 | p::r=>by
   have ih:=zky k j y r
   rw [map_cons]
   by_cases h:p.1=k
   ·rw [if_pos h]
    by_cases e:p.1=j
    ·rw [zbf (p:=(p.1,y)) e,zbf e,Option.map_some,if_pos (e.symm.trans h)]
    ·rw [zba (p:=(p.1,y)) e,zba e,ih]
   ·rw [if_neg h]
    by_cases e:p.1=j
    ·rw [zbf (p:=p) e,zbf e,Option.map_some,if_neg (fun z=>h (e.trans z))]
    ·rw [zba (p:=p) e,zba e,ih]
theorem zix (k j : κ) (y:V):∀kvs:List (κ × V),valV kvs k=none->valV (kvs++[(k,y)]) j=if j=k then some y else valV kvs j
 | [],_=>by
   by_cases e:k=j
   ·rw [if_pos e.symm];exact zbf (p:=(k,y)) e
   ·rw [if_neg (fun z=>e z.symm)];exact zba (p:=(k,y)) e
 | p::r,hn=>by
   rw [List.cons_append]
   have hk:¬p.1=k:=fun z=>by rw [zbf z] at hn;cases hn
   rw [zba hk] at hn
   have ih:=zix k j y r hn
   by_cases e:p.1=j
   ·rw [zbf e,zbf e,if_neg (fun z=>hk (e.trans z))]
   ·rw [zba e,zba e,ih]
theorem zfR (kvs:List (κ × V)) (k j : κ) (y:V):valV (putK kvs k y) j=if j=k then some y else valV kvs j:=by
 unfold putK
 by_cases a:(kvs.any fun kv=>decide (kv.1=k))=true
 ·rw [if_pos a,zky]
  rw [zee] at a
  by_cases e:j=k
  ·obtain ⟨x,hx⟩:=Option.isSome_iff_exists.mp a
   rw [if_pos e,e,hx,Option.map_some,if_pos rfl]
  ·rw [if_neg e]
   cases valV kvs j with
   | none=>rfl
   | some x=>rw [Option.map_some,if_neg e]
 ·rw [if_neg a]
  refine zix k j y kvs ?_
  rw [zee] at a
  cases q:valV kvs k with
  | none=>rfl
  | some x=>rw [q] at a;exact (a rfl).elim
theorem zgg (kvs:List (κ × V)) (k : κ) (v:V):(putK kvs k v).length<=kvs.length+1:=by
 unfold putK
 split
 ·rw [length_map];omega
 ·rw [length_append,length_cons,length_nil];omega
theorem zoo {kvs:List (κ × V)} {k : κ} (v:V) (h:valV kvs k=none):putK kvs k v=kvs++[(k,v)]:=by
 unfold putK
 rw [zee,h]
 exact if_neg (by decide)
theorem RelO.isSome_eq {o:Option V} {u:Option Value} (r:RelO o u):o.isSome=u.isSome:=by
 cases o with
 | none=>cases u with
   | none=>rfl
   | some _=>exact (show False from r).elim
 | some _=>cases u with
   | none=>exact (show False from r).elim
   | some _=>rfl
theorem RelO.getD {o:Option V} {u:Option Value} {d:V} {d':Value} (r:RelO o u) (rd:RelV d d'):RelV (o.getD d) (u.getD d'):=by
 cases o with
 | none=>cases u with
   | none=>exact rd
   | some _=>exact (show False from r).elim
 | some _=>cases u with
   | none=>exact (show False from r).elim
   | some _=>exact r
theorem KV.val {kvs:List (κ × V)} {vs:List (κ × Value)} (r:KV kvs vs) (k : κ):RelO (valV kvs k) (valueAt vs k):=by
 unfold KV at r
 induction r with
 | nil=>exact True.intro
 | @cons p q ps qs h t ih=>
   obtain ⟨h1,h2⟩:=h
   by_cases e:p.1=k
   ·have e':q.1=k:=h1.symm.trans e
    have b:valueAt (q::qs) k=some q.2:=by simp [valueAt,find?_cons,e']
    rw [zbf e,b];exact h2
   ·have e':¬q.1=k:=fun z=>e (h1.trans z)
    have b:valueAt (q::qs) k=valueAt qs k:=by simp [valueAt,find?_cons,e']
    rw [zba e,b];exact ih
theorem KV.any {kvs:List (κ × V)} {vs:List (κ × Value)} (r:KV kvs vs) (k : κ):(kvs.any fun kv=>decide (kv.1=k))=vs.any fun kv=>decide (kv.1=k):=by
 unfold KV at r
 induction r with
 | nil=>rfl
 | cons h t ih=>rw [any_cons,any_cons,ih,h.1]
theorem KV.repl {kvs:List (κ × V)} {vs:List (κ × Value)} (r:KV kvs vs) (k : κ) {y:V} {u:Value} (ry:RelV y u):
  KV (kvs.map fun kv=>if kv.1=k then (kv.1,y) else kv) (vs.map fun kv=>if kv.1=k then (kv.1,u) else kv):=by
 unfold KV at r ⊢
 induction r with
 | nil=>exact .nil
 | @cons p q ps qs h t ih=>
   rw [map_cons,map_cons]
   refine .cons ?_ ih
   obtain ⟨h1,h2⟩:=h
   by_cases e:p.1=k
   ·rw [if_pos e,if_pos (h1.symm.trans e)];exact ⟨h1,ry⟩
   ·rw [if_neg e,if_neg (fun z=>e (h1.trans z))];exact ⟨h1,h2⟩
theorem KV.put {kvs:List (κ × V)} {vs:List (κ × Value)} (r:KV kvs vs) (k : κ) {y:V} {u:Value} (ry:RelV y u):KV (putK kvs k y) (stored vs k u):=by
 unfold putK stored
 rw [r.any k]
 by_cases e:(vs.any fun kv=>decide (kv.1=k))=true
 ·rw [if_pos e,if_pos e];exact r.repl k ry
 ·rw [if_neg e,if_neg e];exact Paired.snoc r ⟨rfl,ry⟩
theorem KV.keys {kvs:List (κ × V)} {vs:List (κ × Value)} (r:KV kvs vs):kvs.map (·.1)=vs.map (·.1):=by
 unfold KV at r
 induction r with
 | nil=>rfl
 | cons h t ih=>rw [map_cons,map_cons,ih,h.1]
theorem KV.length {kvs:List (κ × V)} {vs:List (κ × Value)} (r:KV kvs vs):kvs.length=vs.length:=Paired.length r
end
theorem zml {P:Program} {w:World} {k:Key} {u:Value} (r:RelV (kV k) u):(zaP P w).is k u=true:=by
 cases k with
 | inl i=>obtain ⟨t,e⟩:=(show ∃t,u=Value.int i t from r);subst e;exact zjy P w i t
 | inr x=>obtain ⟨t,e⟩:=(show ∃t,u=Value.str x t from r);subst e;exact zjz P w x t
theorem ziy {P:Program} {w:World}:∀ {ks:List Key} {us:List Value},Vals (ks.map kV) us->ItemsAre (zaP P w) ks us
 | [],_,r=>by rw [List.map_nil] at r;cases r;exact .nil
 | k::ks,_,r=>by
   rw [map_cons] at r
   cases r with
   | cons h t=>exact .cons (zml h) (ziy t)
abbrev KT (H:Hp):List (List Key × V)->List (List Key × Addr × Value)->Prop:=Paired fun p q=>p.1=q.1/\H q.2.1=some (.tup (p.1.map kV))/\RelV p.2 q.2.2
theorem KT.val {H:Hp} {kvs:List (List Key × V)} {xs:List (List Key × Addr × Value)} (r:KT H kvs xs) (k:List Key):RelO (valV kvs k) ((atKey xs k).map (·.2)):=by
 induction r with
 | nil=>exact True.intro
 | @cons p q ps qs h t ih=>
   obtain ⟨h1,_,h2⟩:=h
   by_cases e:p.1=k
   ·have e':q.1=k:=h1.symm.trans e
    have b:atKey (q::qs) k=some q.2:=by simp [atKey,find?_cons,e']
    rw [zbf e,b];exact h2
   ·have e':¬q.1=k:=fun z=>e (h1.trans z)
    have b:atKey (q::qs) k=atKey qs k:=by simp [atKey,find?_cons,e']
    rw [zba e,b];exact ih
theorem KT.repl {H:Hp} {kvs:List (List Key × V)} {xs:List (List Key × Addr × Value)} (r:KT H kvs xs) (k:List Key) {y:V} {u:Value} (ry:RelV y u):
  KT H (kvs.map fun kv=>if kv.1=k then (kv.1,y) else kv) (xs.map (putAt k u)):=by
 induction r with
 | nil=>exact .nil
 | @cons p q ps qs h t ih=>
   rw [map_cons,map_cons]
   refine .cons ?_ ih
   obtain ⟨h1,h2,h3⟩:=h
   unfold putAt
   by_cases e:p.1=k
   ·rw [if_pos e,if_pos (h1.symm.trans e)];exact ⟨h1,h2,ry⟩
   ·rw [if_neg e,if_neg (fun z=>e (h1.trans z))];exact ⟨h1,h2,h3⟩
theorem KT.put {H:Hp} {kvs:List (List Key × V)} {xs:List (List Key × Addr × Value)} (r:KT H kvs xs) (k:List Key) {b:Addr} {y:V} {u:Value} (hb:H b=some (.tup (k.map kV))) (ry:RelV y u):
  KT H (putK kvs k y) (storedH xs k b u):=by
 have e:(kvs.any fun kv=>decide (kv.1=k))=(atKey xs k).isSome:=by
  rw [zee,(r.val k).isSome_eq,Option.isSome_map]
 unfold putK storedH
 rw [e]
 by_cases q:(atKey xs k).isSome=true
 ·rw [if_pos q,if_pos q];exact r.repl k ry
 ·rw [if_neg q,if_neg q];exact Paired.snoc r ⟨rfl,hb,ry⟩
theorem KT.keeps {H H':Hp} {kvs:List (List Key × V)} {xs:List (List Key × Addr × Value)} (r:KT H kvs xs) (ht:∀b ys,H b=some (.tup ys)->H' b=some (.tup ys)):KT H' kvs xs:=
 Paired.mapP r fun _ _ z=>⟨z.1,ht _ _ z.2.1,z.2.2⟩
section
variable {P:Program} {w:World} {H:Hp} {h:Heap} {a:Addr}
theorem zrs {u:HO} (ok:HOk P w H h) (e:Rd H a u):zaU P w H h a u:=e.ok ok
theorem zjD {kvs:List (Key × V)} (ok:HOk P w H h) (e:Rd H a (.dK kvs)):kvs.length<=sizeLine/\(a==sysModules)=false/\∃vs,KV kvs vs/\h.DictOf (zaP P w) a vs:=
 show zaU P w H h a (.dK kvs) from zrs ok e
theorem zsQ {kvs:List (Key × V)} (ok:HOk P w H h) (e:H a=some (.dK kvs)):kvs.length<=sizeLine/\(a==sysModules)=false/\∃vs,KV kvs vs/\h.DictOf (zaP P w) a vs:=zjD ok (.inl e)
theorem ziz {ks:List Key} (ok:HOk P w H h) (e:H a=some (.tup (ks.map kV))):(tupleKind (zaP P w)).is h ks a:=by
 obtain ⟨_,its,r,o,h1,h2,n,h3⟩:=(show zaU P w H h a (.tup (ks.map kV)) from ok a _ e)
 exact ⟨o,its.toArray,n,h1,h2,h3,by simpa using ziy r⟩
theorem zlp {kvs:List (List Key × V)} (ok:HOk P w H h) (e:Rd H a (.dT kvs)):kvs.length<=sizeLine/\(a==sysModules)=false/\
  ∃xs,KT H kvs xs/\h.DictOfH (tupleKind (zaP P w)) a xs:=by
 obtain ⟨z,y,xs,r,o,es,ep,h1,h2,h3,h4,h5⟩:=(show zaU P w H h a (.dT kvs) from zrs ok e)
 refine ⟨z,y,xs,r,o,es,ep,h1,h2,h3,h4,fun x hx=>?_,h5⟩
 have all:∀ {l:List (List Key × V)} {m:List (List Key × Addr × Value)},KT H l m->∀x∈m,(tupleKind (zaP P w)).is h x.1 x.2.1:=by
  intro l m q
  induction q with
  | nil=>intro x hx;exact nomatch hx
  | @cons p q ps qs hq t ih=>
    intro x hx
    rcases mem_cons.mp hx with e | hx
    ·subst e
     exact ziz ok (by rw [<-hq.1];exact hq.2.1)
    ·exact ih x hx
 exact all r x hx
theorem zsR {kvs:List (List Key × V)} (ok:HOk P w H h) (e:H a=some (.dT kvs)):kvs.length<=sizeLine/\(a==sysModules)=false/\
 ∃xs,KT H kvs xs/\h.DictOfH (tupleKind (zaP P w)) a xs:=zlp ok (.inl e)
end
def DGet (H:Hp) (a:Addr) (y:V) (r:Option V):Prop:=
 (∃kvs k,Rd H a (.dK kvs)/\y=kV k/\r=valV kvs k)\/∃kvs k b,Rd H a (.dT kvs)/\y=.ref b/\H b=some (.tup (k.map kV))/\r=valV kvs k
def DPut (H:Hp) (a:Addr) (y v:V) (H':Hp):Prop:=
 (∃kvs k,H a=some (.dK kvs)/\y=kV k/\kvs.length<sizeLine/\H'=upd H a (.dK (putK kvs k v))) \/
 ∃kvs k b,H a=some (.dT kvs)/\y=.ref b/\H b=some (.tup (k.map kV))/\kvs.length<sizeLine/\H'=upd H a (.dT (putK kvs k v))
theorem DGet.k {H:Hp} {a:Addr} {kvs:List (Key × V)} {k:Key} (e:H a=some (.dK kvs)):DGet H a (kV k) (valV kvs k):=.inl ⟨kvs,k,.inl e,rfl,rfl⟩
theorem DPut.k {H:Hp} {a:Addr} {kvs:List (Key × V)} {k:Key} {v:V} (e:H a=some (.dK kvs)) (hl:kvs.length<sizeLine):DPut H a (kV k) v (upd H a (.dK (putK kvs k v))):=.inl ⟨kvs,k,e,rfl,hl,rfl⟩
section
variable {X:Cx} {ai:List (Addr × Obj)} {σ:St} {H:Hp} {s:Shared} {a:Addr} {y v:V} {u r:Value} {o:Option V} {A:Around} {E:Value->Shared->Prop}
theorem Inv.big (I:Inv X ai σ H s):sysModules<s.heap.objs.size:=by
 have h:mainGlobals<s.heap.objs.size:=(I.mod.glob.keeps I.bk).lt
 exact Nat.lt_trans (by decide) h
theorem zmm {Q:Value->Shared->Prop} (hu:A.units+1<cLine) (I:Inv X ai σ H s) (g:DGet H a y (some v)) (ry:RelV y u) (h:∀w' s',Inv X ai σ H s'->RelV v w'->Q w' s'):
  wpAny (model X.prog X.w) A (getItem (.ref a) u) Q E s:=by
 rcases g with ⟨kvs,k,e,ey,l⟩ | ⟨kvs,k,b,e,ey,eb,l⟩
 ·subst ey
  obtain ⟨z,hd,vs,rel,dd⟩:=zjD I.hok e
  obtain ⟨w',hw,rw'⟩:=RelO.some_of (v:=v) (o:=valueAt vs k) (by rw [l];exact rel.val k)
  exact wpAny_getItem_of (zml ry) dd.mapOf hw (h w' _ (I.tok _) rw')
 ·subst ey
  cases (show u=Value.ref b from ry)
  obtain ⟨z,hd,xs,rel,dd⟩:=zlp I.hok e
  obtain ⟨w',hw,rw'⟩:=RelO.some_of (v:=v) (o:=(atKey xs k).map (·.2)) (by rw [l];exact rel.val k)
  obtain ⟨p,hp,hp2⟩:=Option.map_eq_some_iff.mp hw
  refine wpAny_getItem_heap (tupleKind_room_in1 hu) (ziz I.hok eb) dd hp ?_
  rw [hp2]
  exact h w' _ (I.tok _) rw'
theorem d_in {Q:Value->Shared->Prop} (hu:A.units+1<cLine) (I:Inv X ai σ H s) (g:DGet H a y o) (ry:RelV y u) (h:∀s',Inv X ai σ H s'->Q (.bool o.isSome) s'):
  wpAny (model X.prog X.w) A (compareOp .In u (.ref a)) Q E s:=by
 rcases g with ⟨kvs,k,e,ey,l⟩ | ⟨kvs,k,b,e,ey,eb,l⟩
 ·subst ey
  obtain ⟨z,hd,vs,rel,dd⟩:=zjD I.hok e
  refine wpAny_in_of (zml ry) hd dd.mapOf ?_
  rw [<-(rel.val k).isSome_eq,<-l]
  exact h _ (I.tok _)
 ·subst ey
  cases (show u=Value.ref b from ry)
  obtain ⟨z,hd,xs,rel,dd⟩:=zlp I.hok e
  refine wpAny_in_heap (tupleKind_room_in1 hu) (ziz I.hok eb) hd dd ?_
  have q:=(rel.val k).isSome_eq
  rw [Option.isSome_map] at q
  rw [<-q,<-l]
  exact h _ (I.tok _)
theorem zmn {h':Heap} {t':Nat} {ob:HO} (I:Inv X ai σ H s) (mu:Mut (H a)) (hs:Heap.SameBut a s.heap h') (he:∃q,h'.get? a=some q) (new:zaU X.prog X.w (upd H a ob) h' a ob):
  Inv X ai σ (upd H a ob) { s with heap:=h',toks:=t' }:=
 I.write (x:=a) (e:=a) mu (.inl rfl) (fun b q hb z=>(hs.2 b hb).trans z) he new
theorem zpr {P:Program} {w:World} {H':Hp} {h':Heap} {kvs:List (Key × V)} {vs:List (Key × Value)} (z:kvs.length<=sizeLine) (hd:(a==sysModules)=false) (rel:KV kvs vs) (dd:h'.DictOf (zaP P w) a vs):
 zaU P w H' h' a (.dK kvs):=⟨z,hd,vs,rel,dd⟩
theorem zmo {H':Hp} {Q:Unit->Shared->Prop} (hu:A.units+1<cLine) (I:Inv X ai σ H s) (g:DPut H a y v H') (ry:RelV y u) (rv:RelV v r) (h:∀s',Inv X ai σ H' s'->Q () s'):
  wpAny (model X.prog X.w) A (setItem (.ref a) u r) Q E s:=by
 rcases g with ⟨kvs,k,e,ey,l,eH⟩ | ⟨kvs,k,b,e,ey,eb,l,eH⟩
 ·subst ey eH
  obtain ⟨z,hd,vs,rel,dd⟩:=zsQ I.hok e
  have hz:vs.length<=sizeLine:=by rw [<-rel.length];exact z
  have hl:(putK kvs k v).length<=sizeLine:=by have:=zgg kvs k v;omega
  refine wpAny_setItem_pairs (hsz:=hz) (zml ry) dd fun h' dd' hs=>h _ ?_
  have he:∃q,h'.get? a=some q:=let ⟨q,_,_,hq,_⟩:=dd';⟨q,hq⟩
  exact zmn I (by rw [e];exact True.intro) hs he (zpr hl hd (rel.put k rv) dd')
 ·subst ey eH
  cases (show u=Value.ref b from ry)
  obtain ⟨z,hd,xs,rel,dd⟩:=zsR I.hok e
  have hz:xs.length<=sizeLine:=by rw [<-Paired.length rel];exact z
  have hl:(putK kvs k v).length<=sizeLine:=by have:=zgg kvs k v;omega
  refine wpAny_setItem_heap (hsz:=hz) (tupleKind_room_in1 hu) (ziz I.hok eb) dd fun h' dd' hs=>h _ ?_
  obtain ⟨q,es,ep,hq,h2,h3,h4,_,h5⟩:=dd'
  refine zmn I (by rw [e];exact True.intro) hs ⟨q,hq⟩ ⟨hl,hd,_,(rel.put k eb rv).keeps fun c ys ec=>?_,q,es,ep,hq,h2,h3,h4,h5⟩
  rw [zah (zlg ec e (fun z=>nomatch z))]
  exact ec
end
section
variable {X:Cx} {ai:List (Addr × Obj)} {σ:St} {H:Hp} {s:Shared} {a:Addr} {kvs:List (Key × V)} {k:Key} {u:Value} {A:Around} {E:Value->Shared->Prop}
end
def NoSl (i:Expr):Prop:=∀ov iv,subscripted i false ov iv=operate [ov,iv] (getItem ov iv)
theorem zqg {prog:Program} {w:World} {A:Around} {E:Value->Shared->Prop} {s:Shared} {env:Env} {value slice:Expr} {pos:Pos} {T id:String} {Q:Value->Shared->Prop}
  (hl:typeLookup (.type T) "__getitem__" = pure (some (.builtin id))) (hs:NoSl slice)
  (h:wpAny (model prog w) A (eval value env) (fun o s₁=>wpAny (model prog w) A (eval slice env) (fun i s₂=>s₂.TypeIs o T/\wpAny (model prog w) A (getItem o i) Q E s₂) E s₁) E s):
  wpAny (model prog w) A (eval (.Subscript value slice pos) env) Q E s:=by
 refine Subscript_ (wpAny_mono h (fun o s₁ h₁=>wpAny_mono h₁ (fun i s₂ h₂=>?_) fun _ _ x=>x) fun _ _ x=>x)
 obtain ⟨hT,h₂⟩:=h₂
 unfold subscriptTail
 refine wpAny_bind ?_
 rw [getitemInPython_of_ne hT.not_modules]
 refine wpAny_bind (wpAny_specialOf hT hl ?_)
 have fin:wpAny (model prog w) A (subscripted slice false o i) (fun r s₃=>wpAny (model prog w) A (letTemporaryGo value o r >>= fun _=>pure r) Q E s₃) E s₂:=by
  rw [hs o i]
  exact wpAny_operating (wpAny_mono h₂ (fun r s₃ h₃=>wpAny_bind (wpAny_letTemporaryGo (wpAny_pure h₃))) fun _ _ x=>x)
 first
  | exact wpAny_pure (wpAny_bind fin)
  | exact wpAny_bind (wpAny_pure (wpAny_bind fin))
  | exact wpAny_bind fin
theorem zjE {X:Cx} {ai:List (Addr × Obj)} {σ:St} {H:Hp} {s:Shared} {a:Addr} {y:V} {o:Option V} (I:Inv X ai σ H s) (g:DGet H a y o):s.TypeIs (.ref a) "dict" := by
 rcases g with ⟨kvs,k,e,_,_⟩ | ⟨kvs,k,b,e,_,_,_⟩
 ·obtain ⟨_,_,vs,_,dd⟩:=zjD I.hok e
  exact dd.typeIs
 ·obtain ⟨_,_,xs,_,dd⟩:=zlp I.hok e
  exact dd.typeIs
def zsS (td ty:TE):TE:=fun σ H Q=>td σ H fun x H1=>ty σ H1 fun y H2=>∃a v,x=.ref a/\DGet H2 a y (some v)/\Q v H2
def zsT (td ty tv:TE):TS:=fun D σ H=>tv σ H fun v H1=>td σ H1 fun x H2=>ty σ H2 fun y H3=>∃a H4,x=.ref a/\DPut H3 a y v H4/\D.nx σ H4
section
variable {X:Cx} {o i e value:Expr} {pos pos' tpos:Pos} {td ty tv:TE}
theorem zeG (hu:X.A.units+1<cLine) (ho:PE X o td) (hi:PE X i ty) (hs:NoSl i):PE X (.Subscript o i pos) (zsS td ty):=by
 with_unfolding_all
  intro ai s σ H Q I h
  refine zqg PySem.F.slot_dict_getitem.lookup hs (thn (ho ai s σ H _ I h) fun u s1 ⟨x,H1,I1,rx,q1⟩=>thn (hi ai s1 σ H1 _ I1 q1) fun iv s2 ⟨y,H2,I2,ry,a,v,ex,g,q2⟩=>?_)
  subst ex
  obtain rfl:u=Value.ref a:=rx
  exact ⟨zjE I2 g,zmm hu I2 g ry fun w' s3 I3 rw'=>⟨v,H2,I3,rw',q2⟩⟩
theorem zmp (hu:X.A.units+1<cLine) (ho:PE X o td) (hi:PE X i ty) (hv:PE X value tv) (hs:swapsWith value (some (.Subscript o i pos')) pos.line X.env=pure false):
  PS X (.Assign [.Subscript o i pos'] value pos) (zsT td ty tv):=by
 with_unfolding_all
  intro ai s σ H D I h
  refine wpAny_Assign_Subscript (thn (hv ai s σ H _ I h) fun r s1 ⟨v,H1,I1,rv,q1⟩=>thn (ho ai s1 σ H1 _ I1 q1) fun u s2 ⟨x,H2,I2,rx,q2⟩=>thn (hi ai s2 σ H2 _ I2 q2) fun iv s3 ⟨y,H3,I3,ry,a,H4,ex,g,q3⟩=>?_) hs
  subst ex
  obtain rfl:u=Value.ref a:=rx
  exact zmo hu I3 g ry rv fun s4 I4=>⟨σ,H4,I4,q3⟩
end
theorem zop {P:Program} {w:World} {H:Hp} (h:Heap) (hb:sysModules<h.objs.size):zaU P w H (h.push { cls:=.type "dict",data:=.dict #[] }) h.objs.size (.dK []):=
 ⟨Nat.zero_le _,beq_eq_false_iff_ne.mpr (Ne.symm (Nat.ne_of_lt hb)),[],.nil,Heap.DictOf.new h⟩
def zrt:TE:=fun _ H Q=>∀p,H p=none->Q (.ref p) (upd H p (.dK []))
section
variable {X:Cx} {pos:Pos}
theorem zoq:PE X (.Dict [] [] pos) zrt:=by
 with_unfolding_all
  exact fun ai s σ H Q I h=>
   wpAny_Dict_empty ⟨.ref s.heap.objs.size,_,I.laid (a:=s.heap.objs.size) (o:=.dK []) (t':=s.toks) (fun _ _ q=>Heap.get?_push_of_some _ q) (Nat.le_refl _) (zop s.heap I.big),rfl,h _ (I.hok.fresh (Nat.le_refl _))⟩
end
structure M1 (X:Cx) (o:Expr) (m:Str) (apos:Pos) (e:Expr) (cpos:Pos):Prop where
 bf:attributeBase o m X.env (eval o X.env)=eval o X.env
 few:((backTo cpos (starEach [e] X.env)).all (fun x => !x.1)&&(backToKw cpos (keywordEach [] X.env)).all (fun x=>x.1.isSome)
  && decide (([e]:List Expr).length+([]:List Keyword).length+(if ([]:List Keyword).isEmpty then 0 else 1)<30))=true
 line:(apos.endLine==cpos.line)=true
 trees:backTo cpos (starEach [e] X.env)=[(false,eval e X.env)]
structure M2 (X:Cx) (o:Expr) (m:Str) (apos:Pos) (e f:Expr) (cpos:Pos):Prop where
 bf:attributeBase o m X.env (eval o X.env)=eval o X.env
 few:((backTo cpos (starEach [e,f] X.env)).all (fun x => !x.1)&&(backToKw cpos (keywordEach [] X.env)).all (fun x=>x.1.isSome)
  && decide (([e,f]:List Expr).length+([]:List Keyword).length+(if ([]:List Keyword).isEmpty then 0 else 1)<30))=true
 line:(apos.endLine==cpos.line)=true
 trees:backTo cpos (starEach [e,f] X.env)=[(false,eval e X.env),(false,eval f X.env)]
def IsD (H:Hp) (a:Addr):Prop:=(∃kvs,Rd H a (.dK kvs))\/∃kvs,Rd H a (.dT kvs)
theorem zru {X:Cx} {ai:List (Addr × Obj)} {σ:St} {H:Hp} {s:Shared} {a:Addr} (I:Inv X ai σ H s) (d:IsD H a):
  s.TypeIs (.ref a) "dict" /\ (∀b,Value.ref a=.ref b->∃ob,s.heap.get? b=some ob/\ob.dict=none)/\(a==sysModules)=false:=by
 rcases d with ⟨kvs,e⟩ | ⟨kvs,e⟩
 ·obtain ⟨_,hd,vs,_,dd⟩:=zjD I.hok e
  refine ⟨dd.typeIs,fun b q=>?_,hd⟩
  cases q
  obtain ⟨ob,_,_,h1,h2,_⟩:=dd
  exact ⟨ob,h1,h2.2.1⟩
 ·obtain ⟨_,hd,xs,_,dd⟩:=zlp I.hok e
  refine ⟨dd.typeIs,fun b q=>?_,hd⟩
  cases q
  obtain ⟨ob,_,_,h1,h2,_⟩:=dd
  exact ⟨ob,h1,h2.2.1⟩
section
variable {X:Cx} {ai:List (Addr × Obj)} {σ:St} {H:Hp} {s:Shared} {a:Addr} {y d:V} {u r:Value} {o:Option V} {A:Around} {E:Value->Shared->Prop}
theorem zrv {Q:Value->Shared->Prop} (hu:A.units+1<cLine) (I:Inv X ai σ H s) (g:DGet H a y o) (ry:RelV y u) (rd:RelV d r) (h:∀w' s',Inv X ai σ H s'->RelV (o.getD d) w'->Q w' s'):
  wpAny (model X.prog X.w) A (call (.builtin "dict.get") [.ref a,u,r]) Q E s:=by
 rcases g with ⟨kvs,k,e,ey,l⟩ | ⟨kvs,k,b,e,ey,eb,l⟩
 ·subst ey
  obtain ⟨z,hd,vs,rel,dd⟩:=zjD I.hok e
  refine call_meetsIn PySem.F.slot_dict_get dd.typeIs PySem.F.entry_dict_get (PySem.F.args_dict_get_3 _ _ _) (meets_dict_get_default (zaP X.prog X.w) a (zml ry) hd r) ⟨_,dd.mapOf,h _ _ (I.tok _) ?_⟩
  rw [l]
  exact (rel.val k).getD rd
 ·subst ey
  cases (show u=Value.ref b from ry)
  obtain ⟨z,hd,xs,rel,dd⟩:=zlp I.hok e
  refine call_meetsIn PySem.F.slot_dict_get dd.typeIs PySem.F.entry_dict_get (PySem.F.args_dict_get_3 _ _ _) (meetsH_dict_get_default (tupleKind (zaP X.prog X.w)) a b hd r) ⟨tupleKind_room_in1 hu,k,xs,ziz I.hok eb,dd,h _ _ (I.tok _) ?_⟩
  rw [l]
  exact (rel.val k).getD rd
end
def zrw (td ty tx:TE):TE:=fun σ H Q=>td σ H fun x H1=>∃a,x=.ref a/\IsD H1 a/\ty σ H1 fun y H2=>tx σ H2 fun z H3=>∃o,DGet H3 a y o/\Q (o.getD z) H3
section
variable {X:Cx} {o e f:Expr} {apos cpos:Pos} {td ty tx:TE}
theorem zor (hu:X.A.units+1<cLine) (ho:PE X o td) (he:PE X e ty) (hf:PE X f tx) (m:M2 X o "get" apos e f cpos):PE X (.Call (.Attribute o "get" apos) [e,f] [] cpos) (zrw td ty tx):=by
 with_unfolding_all
  intro ai s σ H Q I h
  refine wpAny_Call_method m.bf m.few m.line PySem.F.plainAttrs_dict PySem.F.slot_dict_get PySem.F.type_dict_get (thn (ho ai s σ H _ I h) fun u s1 ⟨x,H1,I1,rx,a,ex,d,q1⟩=>?_)
  subst ex
  obtain rfl:u=Value.ref a:=rx
  obtain ⟨t1,t2,_⟩:=zru I1 d
  refine ⟨t1,t2,?_⟩
  rw [m.trees]
  refine Calls.callWith_builtin rfl (Calls.evalArgs_plain (Calls.spliced_cons (thn (he ai s1 σ H1 _ I1 q1) fun iv s2 ⟨y,H2,I2,ry,q2⟩=>
   Calls.spliced_cons (thn (hf ai s2 σ H2 _ I2 q2) fun fv s3 ⟨z,H3,I3,rz,ov,g,q3⟩=>Calls.spliced_nil ?_))))
  exact zrv hu I3 g ry rz fun w' s4 I4 rw'=>⟨_,H3,I4,rw',q3⟩
end
section
variable {X:Cx} {ai:List (Addr × Obj)} {σ:St} {H:Hp} {s:Shared} {a:Addr} {kvs:List (Key × V)} {A:Around} {E:Value->Shared->Prop}
end
section
variable {X:Cx} {ai:List (Addr × Obj)} {σ:St} {H:Hp} {s:Shared} {a:Addr} {y:V} {u:Value} {A:Around} {E:Value->Shared->Prop}
end
end
end L2
namespace HT
open PySem PyProof.Rows
def lexLt:List Int->List Int->Bool
 | [],[]=>false
 | [],_::_=>true
 | _::_,[]=>false
 | x::xs,y::ys=>if x=y then lexLt xs ys else decide (x<y)
theorem lexLt_cons (x y:Int) (xs ys:List Int):lexLt (x::xs) (y::ys)=if x=y then lexLt xs ys else decide (x<y):=rfl
theorem lexLt_nil_nil:lexLt [] []=false:=rfl
section
open PySem.SeqAt
open PySem.AutoSeq1 (wpAny_loadPart')
open PySem.MeetsSeq PySem.MeetsSeq2 PySem.MeetsSeq3
end
section
variable {prog:Program} {w:World} {A:Around} {E:Value->Shared->Prop} {s:Shared}
def sIx (n d:Nat):Option Int->Nat
 | none=>d
 | some v=>if v<0 then (v+(n:Int)).toNat else min v.toNat n
theorem sIx_none (n d:Nat):sIx n d none=d:=rfl
theorem sIx_nat (n d k:Nat):sIx n d (some (k:Int))=min k n:=by
 show (if (k:Int)<0 then ((k:Int)+(n:Int)).toNat else min (k:Int).toNat n)=min k n
 rw [if_neg (by omega),Int.toNat_natCast]
theorem zrx (n d:Nat) (hd:d<=n) (o:Option Int):sIx n d o<=n:=by
 cases o with
 | none=>exact hd
 | some v=>
   show (if v<0 then (v+(n:Int)).toNat else min v.toNat n)<=n
   by_cases hv:v<0
   ·rw [if_pos hv];omega
   ·rw [if_neg hv];exact Nat.min_le_right _ _
theorem zmq (v:Int) (n d:Nat):(if v<0 then max (v+(n:Int)) 0 else min v (n:Int))=((sIx n d (some v):Nat):Int):=by
 show (if v<0 then max (v+(n:Int)) 0 else min v (n:Int))=(((if v<0 then (v+(n:Int)).toNat else min v.toNat n):Nat):Int)
 by_cases hv:v<0
 ·simp only [if_pos hv];omega
 ·simp only [if_neg hv];omega
theorem zlq (lo hi:Option Int) (n:Nat):Builtin.Slice.sliceAdjust lo hi 1 (n:Int)=(((sIx n 0 lo:Nat):Int),((sIx n n hi:Nat):Int)):=by
 have h1:¬((1:Int)<0):=by omega
 unfold Builtin.Slice.sliceAdjust
 simp only [h1,if_false]
 refine Prod.ext ?_ ?_
 ·cases lo with
  | none=>rfl
  | some v=>exact zmq v n 0
 ·cases hi with
  | none=>rfl
  | some v=>exact zmq v n n
theorem zlr (i j:Nat):Builtin.Slice.slicePlaces (i:Int) (j:Int) 1=j-i:=by
 unfold Builtin.Slice.slicePlaces
 have h1:(1:Int) > 0:=by omega
 simp only [h1,if_true,Int.ediv_one]
 split<;>omega
theorem zhm {v:Value} {o:Option Int} {Q:Option Int->Shared->Prop} (p:IsPart v o) (h:Q o s):wpAny (model prog w) A (Builtin.Slice.slicePartIndex v) Q E s:=by
 cases p with
 | none=>exact slicePart_none h
 | int i t=>exact slicePart_int h
theorem zfA {sl:Addr} {vl vu:Value} {lo hi:Option Int} {n:Nat} {Q:Int × Int × Nat->Shared->Prop} (hs:s.heap.IsSliceOf sl vl vu .none) (pl:IsPart vl lo) (pu:IsPart vu hi)
  (h:Q (((sIx n 0 lo:Nat):Int),1,sIx n n hi-sIx n 0 lo) s):wpAny (model prog w) A (Builtin.Slice.sliceApplied (.ref sl) (pure (n:Int))) Q E s:=by
 obtain ⟨os,hos,hcs,hds⟩:=id hs
 unfold Builtin.Slice.sliceApplied Builtin.Slice.sliceFields
 refine wpAny_bind (wpAny_bind (wpAny_field hos hds (x:=vl) rfl (wpAny_bind (wpAny_field hos hds (x:=vu) rfl (wpAny_bind (wpAny_field hos hds (x:=.none) rfl (wpAny_pure ?_)))))))
 refine wpAny_bind (slicePart_none ?_)
 show wpAny _ _ (if ((1:Int)==0)=true then _ else _) _ _ s
 rw [if_neg (by decide)]
 refine wpAny_bind (zhm pl (wpAny_bind (zhm pu (wpAny_bind (wpAny_pure ?_)))))
 show wpAny _ _ (match Builtin.Slice.sliceAdjust lo hi 1 (n:Int) with | (lo,hi)=>pure (lo,(1:Int),Builtin.Slice.slicePlaces lo hi 1)) _ _ s
 rw [zlq lo hi n]
 show wpAny _ _ (pure (((sIx n 0 lo:Nat):Int),(1:Int),Builtin.Slice.slicePlaces ((sIx n 0 lo:Nat):Int) ((sIx n n hi:Nat):Int) 1)) _ _ s
 rw [zlr]
 exact wpAny_pure h
theorem zos (xs:Array Value) (i k:Nat):((List.range k).filterMap fun (m:Nat)=>xs[((i:Int)+(m:Int)*1).toNat]?).toArray=((xs.toList.drop i).take k).toArray:=by
 have e:(fun (m:Nat)=>xs[((i:Int)+(m:Int)*1).toNat]?)=fun m=>xs[i+m]?:=by
  funext m
  have:((i:Int)+(m:Int)*1).toNat=i+m:=by omega
  rw [this]
 rw [e]
 have:=pick_run xs i k
 rw [List.filterMap_map] at this
 have e2:((fun x=>xs[x]?) ∘ fun x=>i+x)=fun m=>xs[i+m]?:=rfl
 rw [e2] at this
 rw [this]
theorem getItem_tuple_cut {t sl:Addr} {items:Array Value} {vl vu:Value} {lo hi:Option Int} {Q:Value->Shared->Prop} (ht:IsTup s.heap t items) (hs:s.heap.IsSliceOf sl vl vu .none) (pl:IsPart vl lo) (pu:IsPart vu hi)
  (hw:¬(sIx items.size 0 lo=0/\sIx items.size items.size hi=items.size))
  (h:Q (.ref s.heap.objs.size) { s with heap:=s.heap.push { cls:=.type "tuple",data:=.seq ((items.toList.drop (sIx items.size 0 lo)).take (sIx items.size items.size hi-sIx items.size 0 lo)).toArray } })
  (hsz:items.size<=sizeLine):wpAny (model prog w) A (getItem (.ref t) (.ref sl)) Q E s:=by
 have htake:sizeOk (.seq ((items.toList.drop (sIx items.size 0 lo)).take (sIx items.size items.size hi-sIx items.size 0 lo)).toArray):=by
  show ((items.toList.drop (sIx items.size 0 lo)).take (sIx items.size items.size hi-sIx items.size 0 lo)).toArray.size<=sizeLine
  rw [size_toArray,length_take,List.length_drop,Array.length_toList]
  omega
 have hj:sIx items.size items.size hi<=items.size:=zrx _ _ (Nat.le_refl _) hi
 obtain ⟨os,hos,hcs,hds⟩:=id hs
 have hTs:s.TypeIs (.ref sl) "slice" := ⟨os,hos,hcs⟩
 unfold getItem
 try with_reducible refine wpAny_holding ?_
 first | refine wpAny_bind (wpAny_pure ?_) | skip
 refine wpAny_bind (wpAny_sequenceKey ht.typeIs (by decide) ?_)
 refine wpAny_bind (wpAny_callSpecial?_slot (name:=Str.ofString "__getitem__") ht.typeIs PyProof.Rows.slot_tuple_getitem
  (wpAny_call_entry PyProof.Rows.slot_tuple_getitem ht.typeIs entry_tuple_getitem ?_ (args_tuple_getitem _ _)))
 show wpAny _ _ (Builtin.Tuple.tupleItemsOf (.ref t) >>= _) _ _ s
 refine wpAny_bind (tupleItemsOf_ ht ?_)
 refine wpAny_bind (wpAny_typeOf hTs ?_)
 rw [if_pos (by decide)]
 refine wpAny_bind (zfA hs pl pu ?_)
 have hno:¬((((sIx items.size 0 lo:Nat):Int)==0&&(1:Int)==1&&(sIx items.size items.size hi-sIx items.size 0 lo)==items.size)=true):=by
  intro q
  rw [Bool.and_eq_true,Bool.and_eq_true] at q
  have q1:((sIx items.size 0 lo:Nat):Int)=0:=eq_of_beq q.1.1
  have q2:sIx items.size items.size hi-sIx items.size 0 lo=items.size:=eq_of_beq q.2
  exact hw ⟨by omega,by omega⟩
 show wpAny _ _ (if (((sIx items.size 0 lo:Nat):Int)==0&&(1:Int)==1&&(sIx items.size items.size hi-sIx items.size 0 lo)==items.size)=true then _ else _) _ _ s
 rw [if_neg hno,zos]
 first
  | exact wpAny_bind (m:=Builtin.Tuple.tupleExact _) (wpAny_newObj_type (wpAny_pure ⟨_,rfl,wpAny_pure h⟩) htake)
  | exact wpAny_bind (m:=Builtin.Tuple.tupleExact _) (wpAny_newObj_type (wpAny_bind (wpAny_pure (wpAny_pure ⟨_,rfl,wpAny_pure h⟩))) htake)
  | exact wpAny_bind (wpAny_bind (m:=Builtin.Tuple.tupleExact _) (wpAny_newObj_type (wpAny_pure (wpAny_pure ⟨_,rfl,wpAny_pure h⟩)) htake))
  | exact wpAny_bind (wpAny_bind (m:=Builtin.Tuple.tupleExact _) (wpAny_newObj_type (wpAny_pure ⟨_,rfl,wpAny_pure h⟩) htake))
end
end HT
namespace L2
open PySem PySem.Spec PyProof.Rows
section
abbrev TO:=St->Hp->(Option Int->Hp->Prop)->Prop
def PO (X:Cx) (e:Option Expr) (t:TO):Prop:=
 ∀(ai:List (Addr × Obj)) (s:Shared) (σ:St) (H:Hp) (Q:Option Int->Hp->Prop),Inv X ai σ H s->t σ H Q->
  wpAny (model X.prog X.w) X.A (evalPart e X.env) (fun u s'=>∃o H',Inv X ai σ H' s'/\IsPart u o/\Q o H') X.xe s
def zqh:TO:=fun _ H Q=>Q none H
def zsU (t:TE):TO:=fun σ H Q=>t σ H fun x H1=>∃i,x=.int i/\Q (some i) H1
theorem zls {ns:List Int}:∀ {us:List Value},Vals (ns.map V.int) us->IntsAre us ns:=by
 induction ns with
 | nil=>intro us r;rw [List.map_nil] at r;cases r;exact .nil
 | cons n ns ih=>
   intro us r
   rw [map_cons] at r
   cases r with
   | cons r1 r2=>
     obtain ⟨t,e⟩:=r1
     subst e
     exact .cons n t (ih r2)
section
variable {X:Cx} {e:Expr} {te:TE} {lo hi:Option Expr} {tl th:TO} {pos p2:Pos}
theorem zjF:PO X none zqh:=by
 intro ai s σ H Q I h
 rw [evalPart_none]
 exact wpAny_pure ⟨none,H,I,.none,h⟩
theorem zjG (h:PE X e te):PO X (some e) (zsU te):=by
 with_unfolding_all
  intro ai s σ H Q I hw
  rw [evalPart_some]
  refine thn (h ai s σ H _ I hw) fun u s1 ⟨x,H1,I1,r1,q1⟩=>?_
  obtain ⟨i,rfl,q⟩:=q1
  obtain ⟨t,rfl⟩:=r1
  exact ⟨some i,H1,I1,.int i t,q⟩
def SlR (X:Cx) (r:V->Option Int->Option Int->Hp->VK->Prop):Prop:=
 ∀(ai:List (Addr × Obj)) (s:Shared) (σ:St) (H:Hp) (x:V) (v vl vu:Value) (lo hi:Option Int) (sl:Addr) (Q:VK),Inv X ai σ H s->RelV x v->s.heap.IsSliceOf sl vl vu .none->IsPart vl lo->IsPart vu hi->r x lo hi H Q->
  ∃T id,typeLookup (.type T) "__getitem__" = pure (some (.builtin id))/\s.TypeIs v T/\wpAny (model X.prog X.w) X.A (getItem v (.ref sl)) (EP X ai σ Q) X.xe s
def tSl (r:V->Option Int->Option Int->Hp->VK->Prop) (te:TE) (tl th:TO):TE:=fun σ H Q=>te σ H fun x H1=>tl σ H1 fun l H2=>th σ H2 fun u H3=>r x l u H3 Q
theorem zhF {r:V->Option Int->Option Int->Hp->VK->Prop} (hr:SlR X r) (he:PE X e te) (hl:PO X lo tl) (hu:PO X hi th):PE X (.Subscript e (.Slice lo hi none p2) pos) (tSl r te tl th):=by
 with_unfolding_all
  intro ai s σ H Q I h
  refine Subscript_ (thn (he ai s σ H _ I h) fun v s1 ⟨x,H1,I1,r1,q1⟩=>?_)
  refine wpAny_Slice (thn (hl ai s1 σ H1 _ I1 q1) fun vl s2 ⟨l,H2,I2,pl,q2⟩=>thn (hu ai s2 σ H2 _ I2 q2) fun vu s3 ⟨u,H3,I3,pu,q3⟩=>?_)
  rw [evalPart_none]
  refine wpAny_pure ?_
  have I4:Inv X ai σ H3 { s3 with heap:=s3.heap.push { cls:=.type "slice",data:=.fields #[vl,vu,.none] } }:=I3.kept (t':=s3.toks) fun b ob q=>Heap.get?_push_of_some _ q
  obtain ⟨T,id,hT,ht,hg⟩:=hr ai { s3 with heap:=s3.heap.push { cls:=.type "slice",data:=.fields #[vl,vu,.none] } } σ H3 x v vl vu l u s3.heap.objs.size Q I4 r1 (Heap.IsSliceOf.new ..) pl pu q3
  show wpAny (model X.prog X.w) X.A (subscriptTail e (.Slice lo hi none p2) v (.ref s3.heap.objs.size)) (EP X ai σ Q) X.xe { s3 with heap:=s3.heap.push { cls:=.type "slice",data:=.fields #[vl,vu,.none] } }
  exact tail_any (ops:=[.ref s3.heap.objs.size,v]) ht hT hg (by with_unfolding_all rfl)
def cutV (xs:List V) (lo hi:Option Int):List V:=(xs.drop (HT.sIx xs.length 0 lo)).take (HT.sIx xs.length xs.length hi-HT.sIx xs.length 0 lo)
theorem zgh (xs:List V) (lo hi:Option Int):(cutV xs lo hi).length<=xs.length:=by
 unfold cutV
 rw [length_take,List.length_drop]
 omega
def rSlT (K:W.Frag):V->Option Int->Option Int->Hp->VK->Prop:=fun x lo hi H Q=>∃a xs,x=.ref a/\SqT K H a xs/\
 ¬(HT.sIx xs.length 0 lo=0/\HT.sIx xs.length xs.length hi=xs.length)/\∀p,H p=none->Q (.ref p) (upd H p (.tup (cutV xs lo hi)))
theorem zry:SlR X (rSlT X.K):=by
 intro ai s σ H x v vl vu lo hi sl Q I rx hs pl pu h
 obtain ⟨a,xs,rfl,hx,hw,q⟩:=h
 cases rx
 obtain ⟨its,r,ht,hz⟩:=I.tuple hx
 have hlen:its.toArray.size=xs.length:=by rw [size_toArray];exact r.length.symm
 refine ⟨"tuple",_,PyProof.Rows.slot_tuple_getitem.lookup,ht.typeIs,?_⟩
 refine HT.getItem_tuple_cut ht hs pl pu (by rw [hlen];exact hw) ?_ (by rw [hlen];exact hz)
 rw [hlen]
 refine ⟨.ref s.heap.objs.size,_,I.laid (t':=s.toks) (o:=.tup (cutV xs lo hi)) (fun b ob q=>Heap.get?_push_of_some _ q) (Nat.le_refl _) ?_,rfl,q _ (I.hok.fresh (Nat.le_refl _))⟩
 exact ⟨Nat.le_trans (zgh xs lo hi) hz,_,(r.drop (HT.sIx xs.length 0 lo)).take (HT.sIx xs.length xs.length hi-HT.sIx xs.length 0 lo),IsTup.new _ _⟩
end
end
section
def ixN (n:Nat) (i:Int):Option Nat:=if 0<=i then (if i<n then some i.toNat else none) else if -(n:Int)<=i then some (i+n).toNat else none
def atI {α:Type} (xs:List α) (i:Int):Option α:=(ixN xs.length i).bind fun j=>xs[j]?
theorem zmr {n:Nat} {i:Int} {j:Nat} (h:ixN n i=some j):seqIndex? i n=some j/\j<n /\ -(n:Int)<=i/\i<n:=by
 unfold ixN at h
 by_cases h0:0<=i
 ·rw [if_pos h0] at h
  by_cases h1:i<n
  ·rw [if_pos h1] at h
   have e:i.toNat=j:=Option.some.inj h
   exact ⟨by rw [seqIndex_of h0 h1,e],by omega,by omega,h1⟩
  ·rw [if_neg h1] at h;cases h
 ·rw [if_neg h0] at h
  by_cases h1 : -(n:Int)<=i
  ·rw [if_pos h1] at h
   have e:(i+n).toNat=j:=Option.some.inj h
   exact ⟨by rw [seqIndex_neg (by omega) h1,e],by omega,h1,by omega⟩
  ·rw [if_neg h1] at h;cases h
theorem zms {α:Type} {xs:List α} {i:Int} {v : α} (h:atI xs i=some v):∃j,seqIndex? i xs.length=some j/\xs[j]?=some v/\j<xs.length /\ -(xs.length:Int)<=i/\i<xs.length:=by
 unfold atI at h
 cases e:ixN xs.length i with
 | none=>rw [e] at h;cases h
 | some j=>
   rw [e] at h
   obtain ⟨h1,h2,h3,h4⟩:=zmr e
   exact ⟨j,h1,h,h2,h3,h4⟩
theorem zjH {α:Type} {xs:List α} {j:Nat} {v : α} (h:xs[j]?=some v):atI xs (j:Int)=some v:=by
 have hj:j<xs.length:=(List.getElem?_eq_some_iff.mp h).1
 have e:ixN xs.length (j:Int)=some j:=by
  unfold ixN
  rw [if_pos (by omega),if_pos (by omega)];simp
 unfold atI;rw [e];exact h
def zqi (b:Expr):Prop:=∀o i,subscripted b false o i=operate [o,i] (getItem o i)
def IxR (X:Cx) (r:R2):Prop:=
 ∀(value slice:Expr) (ai:List (Addr × Obj)) (s:Shared) (σ:St) (H:Hp) (x y:V) (v u:Value) (Q:VK),Inv X ai σ H s->RelV x v->RelV y u->r x y H Q->
  subscripted slice false v u=operate [v,u] (getItem v u)->wpAny (model X.prog X.w) X.A (subscriptTail value slice v u) (EP X ai σ Q) X.xe s
def MtR (X:Cx) (id:String) (r:V->List V->Hp->VK->Prop):Prop:=
 ∀(ai:List (Addr × Obj)) (s:Shared) (σ:St) (H:Hp) (x:V) (xs:List V) (v:Value) (us:List Value) (Q:VK),Inv X ai σ H s->RelV x v->Vals xs us->r x xs H Q->
  wpAny (model X.prog X.w) X.A (call (.builtin id) (v::us)) (EP X ai σ Q) X.xe s
section
variable {X:Cx} {a b:Expr} {ta tb:TE} {pos:Pos}
theorem zaH {r:R2} (hr:IxR X r) (ha:PE X a ta) (hb:PE X b tb) (hs:zqi b):PE X (.Subscript a b pos) (tOp r ta tb):=by
 with_unfolding_all
  intro ai s σ H Q I h
  exact Subscript_ (binT ha hb I h fun v u s2 x y H2 I2 rx ry q=>hr a b ai s2 σ H2 x y v u Q I2 rx ry q (hs _ _))
def rIxL (K:W.Frag):R2:=fun x y H Q=>∃p xs i v,x=.ref p/\y=.int i/\SqL K H p xs/\atI xs i=some v/\Q v H
def rIxT (K:W.Frag):R2:=fun x y H Q=>∃p xs i v,x=.ref p/\y=.int i/\SqT K H p xs/\atI xs i=some v/\Q v H
theorem zeH:IxR X (rIxL X.K):=by
 intro value slice ai s σ H x y v u Q I rx ry h hs
 obtain ⟨p,xs,i,z,rfl,rfl,hq,he,q⟩:=h
 cases rx
 obtain ⟨t,rfl⟩:=ry
 obtain ⟨its,r,pl,hz⟩:=I.list hq
 obtain ⟨j,h1,h2,h3,h4,h5⟩:=zms he
 obtain ⟨w,ew,rw'⟩:=r.get h2
 have hl:=r.length
 have hn:=ziq
 have fin:EP X ai σ Q w s:=⟨z,H,I,rw',q⟩
 by_cases h0:0<=i
 ·have hj:i.toNat=j:=by
   rw [seqIndex_of h0 h5] at h1
   exact Option.some.inj h1
  exact item_listR pl.isList h0 (by omega) (by rw [hj];simpa using ew) fin hs
 ·have hj:(i+(its.toArray.size:Int)).toNat=j:=by
   rw [seqIndex_neg (by omega) h4] at h1
   rw [size_toArray,<-hl]
   exact Option.some.inj h1
  exact subscriptTail_builtinR (x:=w) pl.isList.typeIs slot_list_getitem.lookup
   (wpAny_getItem_list_neg (Q:=fun r s'=>r=w/\EP X ai σ Q r s') pl.isList (by omega) (by rw [size_toArray]<;>omega) (by omega) (by rw [hj];simpa using ew) ⟨rfl,fin⟩) hs
theorem zaw:IxR X (rIxT X.K):=by
 intro value slice ai s σ H x y v u Q I rx ry h hs
 obtain ⟨p,xs,i,z,rfl,rfl,hq,he,q⟩:=h
 cases rx
 obtain ⟨t,rfl⟩:=ry
 obtain ⟨its,r,pl,hz⟩:=I.tuple hq
 obtain ⟨j,h1,h2,h3,h4,h5⟩:=zms he
 obtain ⟨w,ew,rw'⟩:=r.get h2
 have hl:=r.length
 have hn:=ziq
 have fin:EP X ai σ Q w s:=⟨z,H,I,rw',q⟩
 exact subscriptTail_builtinR (x:=w) pl.typeIs slot_tuple_getitem.lookup
  (getItem_tuple (j:=j) (Q:=fun r s'=>r=w/\EP X ai σ Q r s') pl (by omega) (by omega) (by rw [size_toArray,<-hl];exact h1) (by simpa using ew) ⟨rfl,fin⟩) hs
theorem zlt (its:List Value) (n j:Nat) (u:Value):Obj.mapSeq (·.setIfInBounds j u) { cls:=.type "list",data:=.seq its.toArray n } = { cls:=.type "list",data:=.seq (its.set j u).toArray n }:=by
 simp [Obj.mapSeq]
theorem Inv.lst {ai:List (Addr × Obj)} {σ:St} {H:Hp} {s:Shared} {p:Addr} {xs:List V} (I:Inv X ai σ H s) (h:H p=some (.lst xs)):
  ∃(its:List Value) (n:Nat),Vals xs its/\s.heap.get? p=some { cls:=.type "list",data:=.seq its.toArray n }/\xs.length<=sizeLine:=by
 obtain ⟨z,its,n,r,e⟩:=I.hok p _ h
 exact ⟨its,n,r,e,z⟩
theorem Inv.lstUpd {ai:List (Addr × Obj)} {σ:St} {H:Hp} {s:Shared} {p:Addr} {xs ys:List V} {its its':List Value} {n n':Nat} {f:Obj->Obj} (I:Inv X ai σ H s) (h:H p=some (.lst xs))
  (ho:s.heap.get? p=some { cls:=.type "list",data:=.seq its.toArray n }) (hf:f { cls:=.type "list",data:=.seq its.toArray n } = { cls:=.type "list",data:=.seq its'.toArray n' }) (r:Vals ys its') (hz:ys.length<=sizeLine) (t:Nat):
  Inv X ai σ (upd H p (.lst ys)) { s with heap:=s.heap.update p f,toks:=t }:=by
 have e:(s.heap.update p f).get? p=some { cls:=.type "list",data:=.seq its'.toArray n' }:=by
  rw [Heap.get?_update_self f ho (by rw [hf]<;>rfl),hf]
 refine I.write (x:=p) (e:=p) (by rw [h];trivial) (.inl rfl) (fun b u hb q=>(Heap.get?_update_other _ _ (Ne.symm hb)).trans q) ⟨_,e⟩ ?_
 exact ⟨hz,its',n',r,e⟩
def zsV:V->V->V->Hp->(Hp->Prop)->Prop:=fun o i v H Q=>∃p xs k j,o=.ref p/\i=.int k/\H p=some (.lst xs)/\ixN xs.length k=some j/\Q (upd H p (.lst (xs.set j v)))
theorem zot:PSet X zsV:=by
 intro ai s σ H o i v ov iv u Q I ro ri rv h
 obtain ⟨p,xs,k,j,rfl,rfl,hp,hj,q⟩:=h
 cases ro
 obtain ⟨t,rfl⟩:=ri
 obtain ⟨its,n,r,ho,hz⟩:=I.lst hp
 obtain ⟨h1,h2,h3,h4⟩:=zmr hj
 have hl:=r.length
 have hn:=ziq
 have I':Inv X ai σ (upd H p (.lst (xs.set j v))) { s with heap:=s.heap.update p (Obj.mapSeq (·.setIfInBounds j u)) }:=
  I.lstUpd hp ho (zlt its n j u) (r.set rv j) (by rw [List.length_set];exact hz) s.toks
 by_cases h0:0<=k
 ·have hk:k.toNat=j:=by
   rw [seqIndex_of h0 h4] at h1
   exact Option.some.inj h1
  exact W.ki_setAt ho h0 (by omega) (by rw [size_toArray,<-hl];exact h4) (by rw [hk];exact ⟨_,I',q⟩)
 ·have hk:(k+(its.toArray.size:Int)).toNat=j:=by
   rw [seqIndex_neg (by omega) h3] at h1
   rw [size_toArray,<-hl]
   exact Option.some.inj h1
  exact W.ki_setBack ho (by omega) (by rw [size_toArray,<-hl];exact h3) (by omega) (by rw [hk];exact ⟨_,I',q⟩)
theorem ziA (lo hi:Option Int) (n:Nat):(sliceBounds lo hi none n).1=((HT.sIx n 0 lo:Nat):Int)/\(sliceBounds lo hi none n).2.1=((HT.sIx n n hi:Nat):Int)/\(sliceBounds lo hi none n).2.2=1:=by
 refine ⟨?_,?_,rfl⟩
 ·cases lo with
  | none=>simp [sliceBounds,HT.sIx]
  | some i=>
    simp only [sliceBounds,HT.sIx,Option.getD_none,show (1:Int) > 0 by decide,if_true]
    by_cases h:i<0
    ·simp only [h,if_true]<;>omega
    ·simp only [h,if_false]<;>omega
 ·cases hi with
  | none=>simp [sliceBounds,HT.sIx]
  | some i=>
    simp only [sliceBounds,HT.sIx,Option.getD_none,show (1:Int) > 0 by decide,if_true]
    by_cases h:i<0
    ·simp only [h,if_true]<;>omega
    ·simp only [h,if_false]<;>omega
theorem zhG (its:List Value) (lo hi:Option Int):slicePick its.toArray lo hi none=((its.drop (HT.sIx its.length 0 lo)).take (HT.sIx its.length its.length hi-HT.sIx its.length 0 lo)).toArray:=by
 obtain ⟨h1,h2,h3⟩:=ziA lo hi its.toArray.size
 unfold slicePick
 rw [h1,h2,h3]
 simp only [sliceRange_one,pick_run,size_toArray]<;>rfl
def rSlL (K:W.Frag):V->Option Int->Option Int->Hp->VK->Prop:=fun x lo hi H Q=>∃a xs,x=.ref a/\SqL K H a xs/\∀p,H p=none->Q (.ref p) (upd H p (.lst (cutV xs lo hi)))
theorem zqj:SlR X (rSlL X.K):=by
 intro ai s σ H x v vl vu lo hi sl Q I rx hs pl pu h
 obtain ⟨a,xs,rfl,hx,q⟩:=h
 cases rx
 obtain ⟨its,r,ht,hz⟩:=I.list hx
 have hlen:=r.length
 refine ⟨"list",_,slot_list_getitem.lookup,ht.isList.typeIs,?_⟩
 refine wpAny_getItem_list_slice ht.isList hs pl pu .none (by simp) ?_ (by rw [size_toArray]<;>omega)
 rw [zhG,<-hlen]
 refine ⟨.ref s.heap.objs.size,_,I.laid (t':=s.toks) (o:=.lst (cutV xs lo hi)) (fun b ob q=>Heap.get?_push_of_some _ q) (Nat.le_refl _) ?_,rfl,q _ (I.hok.fresh (Nat.le_refl _))⟩
 exact ⟨Nat.le_trans (zgh xs lo hi) hz,_,0,(r.drop (HT.sIx xs.length 0 lo)).take (HT.sIx xs.length xs.length hi-HT.sIx xs.length 0 lo),Heap.get?_push_size _ rfl⟩
def zbO:V->Bool
 | .non=>true
 | .bl _=>true
 | .int _=>true
 | .str _=>true
 | _=>false
def eqV:V->V->Bool
 | .non,.non=>true
 | .bl a,.bl b=>a==b
 | .bl a,.int b=>(if a then 1 else 0)==b
 | .int a,.bl b=>a==(if b then 1 else 0)
 | .int a,.int b=>a==b
 | .str a,.str b=>a==b
 | _,_=>false
theorem zmt {A:Around} {s:Shared} {y x:V} {u v:Value} (ry:RelV y u) (rx:RelV x v) (fy:zbO y=true) (fx:zbO x=true):SeqAt.EqAt A s u v (eqV y x):=by
 cases y with
 | non=>
   cases ry
   cases x with
   | non=>cases rx;exact SeqAt.EqAt.same _
   | bl b=>cases rx;exact SeqAt.EqAt.none_bool b
   | int b=>obtain ⟨t,rfl⟩:=rx;exact SeqAt.EqAt.none_int b t
   | str b=>obtain ⟨t,rfl⟩:=rx;exact SeqAt.EqAt.none_str b t
   | _=>exact absurd (show false=true from fx) Bool.false_ne_true
 | bl a=>
   cases ry
   cases x with
   | non=>cases rx;exact SeqAt.EqAt.bool_none a
   | bl b=>cases rx;exact SeqAt.EqAt.bool_bool a b
   | int b=>obtain ⟨t,rfl⟩:=rx;exact SeqAt.EqAt.bool_int a b t
   | str b=>obtain ⟨t,rfl⟩:=rx;exact SeqAt.EqAt.bool_str a b t
   | _=>exact absurd (show false=true from fx) Bool.false_ne_true
 | int a=>
   obtain ⟨t',rfl⟩:=ry
   cases x with
   | non=>cases rx;exact SeqAt.EqAt.int_none a t'
   | bl b=>cases rx;exact SeqAt.EqAt.int_bool a t' b
   | int b=>obtain ⟨t,rfl⟩:=rx;exact SeqAt.EqAt.int_int a t' b t
   | str b=>obtain ⟨t,rfl⟩:=rx;exact SeqAt.EqAt.int_str a t' b t
   | _=>exact absurd (show false=true from fx) Bool.false_ne_true
 | str a=>
   obtain ⟨t',rfl⟩:=ry
   cases x with
   | non=>cases rx;exact SeqAt.EqAt.str_none a t'
   | bl b=>cases rx;exact SeqAt.EqAt.str_bool a t' b
   | int b=>obtain ⟨t,rfl⟩:=rx;exact SeqAt.EqAt.str_int a t' b t
   | str b=>obtain ⟨t,rfl⟩:=rx;exact SeqAt.EqAt.str_str a t' b t
   | _=>exact absurd (show false=true from fx) Bool.false_ne_true
 | _=>exact absurd (show false=true from fy) Bool.false_ne_true
def eqU (x:V) (u:Value):Bool:=match u with
 | .none=>eqV .non x
 | .bool b=>eqV (.bl b) x
 | .int i _=>eqV (.int i) x
 | .str z _=>eqV (.str z) x
 | _=>false
theorem zps {x y:V} {u:Value} (r:RelV y u) (f:zbO y=true):eqU x u=eqV y x:=by
 cases y with
 | non=>cases r;rfl
 | bl b=>cases r;rfl
 | int i=>obtain ⟨t,rfl⟩:=r;rfl
 | str z=>obtain ⟨t,rfl⟩:=r;rfl
 | _=>exact absurd (show false=true from f) Bool.false_ne_true
theorem zjI {x:V}:∀ {xs:List V} {us:List Value},Vals xs us->xs.all zbO=true->us.any (eqU x)=xs.any fun y=>eqV y x
 | _,_,.nil,_=>rfl
 | y::xs,u::us,.cons r t,f=>by
   rw [all_cons,Bool.and_eq_true] at f
   rw [any_cons,any_cons,zps r f.1,zjI t f.2]
theorem zhH {A:Around} {s:Shared} {x:V} {v:Value} (rx:RelV x v) (fx:zbO x=true):∀ {xs:List V} {us:List Value},Vals xs us->xs.all zbO=true->∀u∈us,SeqAt.EqAt A s u v (eqU x u)
 | _,_,.nil,_=>fun u hu=>by cases hu
 | y::xs,u::us,.cons r t,f=>fun u' hu=>by
   rw [all_cons,Bool.and_eq_true] at f
   rcases mem_cons.mp hu with rfl | hu
   ·rw [zps r f.1];exact zmt r rx f.1 fx
   ·exact zhH rx fx t f.2 u' hu
def inV (x:V) (xs:List V):Bool:=xs.any fun y=>eqV y x
def rIn (K:W.Frag) (neg:Bool):R2:=fun x y H Q=>∃p xs,y=.ref p/\(SqL K H p xs\/SqT K H p xs)/\zbO x=true/\xs.all zbO=true/\Q (.bl (if neg then !inV x xs else inV x xs)) H
theorem zmu:OpR X (compareOp .In) (rIn X.K false):=by
 intro ai s σ H x y v u Q I rx ry h
 obtain ⟨p,xs,rfl,hq,fx,fs,q⟩:=h
 cases ry
 rcases hq with hq | hq
 ·obtain ⟨its,r,pl,hz⟩:=I.list hq
  refine SeqAt.in_listAt (eqU x) pl.isList (fun w hw=>zhH rx fx r fs w (by simpa using hw)) ⟨.bl _,H,I,rfl,?_⟩
  rw [show its.toArray.any (eqU x)=its.any (eqU x) by simp,zjI r fs]
  exact q
 ·obtain ⟨its,r,pl,hz⟩:=I.tuple hq
  refine SeqAt.in_tupleAt (eqU x) pl (fun w hw=>zhH rx fx r fs w (by simpa using hw)) ⟨.bl _,H,I,rfl,?_⟩
  rw [show its.toArray.any (eqU x)=its.any (eqU x) by simp,zjI r fs]
  exact q
theorem zaF:zcE X (.builtin "len") (fun xs H Q=>∃p ys,xs=[.ref p]/\(SqL X.K H p ys\/SqT X.K H p ys)/\Q (.int ys.length) H):=by
 intro ai s σ H xs us Q I r h
 obtain ⟨p,ys,rfl,hq,q⟩:=h
 obtain ⟨u,rfl,rx⟩:=zeE r
 cases rx
 have hn:=ziq
 rcases hq with hq | hq
 ·obtain ⟨its,r',pl,hz⟩:=I.list hq
  have hlen:=r'.length
  exact Calls.call_len_list pl.isList (by simp only [size_toArray]<;>omega) ⟨.int ys.length,H,I.tok _,⟨s.toks+1,by rw [size_toArray,hlen]⟩,q⟩
 ·obtain ⟨its,r',pl,hz⟩:=I.tuple hq
  have hlen:=r'.length
  exact len_tuple pl (by simp only [size_toArray]<;>omega) ⟨.int ys.length,H,I.tok _,⟨s.toks+1,by rw [size_toArray,hlen]⟩,q⟩
theorem ziB:zcE X (.builtin "len") (fun xs H Q=>∃z,xs=[.str z]/\z.length<=sizeLine/\Q (.int z.length) H):=by
 intro ai s σ H xs us Q I r h
 obtain ⟨z,rfl,hz,q⟩:=h
 obtain ⟨u,rfl,t,rfl⟩:=zeE r
 have hn:=ziq
 exact len_str (by omega) ⟨.int z.length,H,I.tok _,⟨_,rfl⟩,q⟩
theorem ziC:zcE X (.type "list") (fun xs H Q=>∃p ys,xs=[.ref p]/\(SqL X.K H p ys\/SqT X.K H p ys)/\∀l,H l=none->Q (.ref l) (upd H l (.lst ys))):=by
 intro ai s σ H xs us Q I r h
 obtain ⟨p,ys,rfl,hq,q⟩:=h
 obtain ⟨u,rfl,rx⟩:=zeE r
 cases rx
 have fin:∀(its:List Value),Vals ys its->ys.length<=sizeLine->∀(h':Heap) (c':Nat),(∀b o',s.heap.get? b=some o'->h'.get? b=some o')->
   h'.get? s.heap.objs.size=some { cls:=.type "list",dict:=none,data:=.seq its.toArray c',slots := #[] }->EP X ai σ Q (.ref s.heap.objs.size) { s with heap:=h' }:=fun its r' hz h' c' kp e=>
  ⟨.ref s.heap.objs.size,_,I.laid (t':=s.toks) kp (Nat.le_refl _) (show zaU X.prog X.w _ h' _ (.lst ys) from ⟨hz,its,c',r',e⟩),rfl,q _ (I.hok.fresh (Nat.le_refl _))⟩
 rcases hq with hq | hq
 ·obtain ⟨its,r',pl,hz⟩:=I.list hq
  have hlen:=r'.length
  obtain ⟨o,ho,hc,n,hd⟩:=pl.isList
  exact call_list_seq p (.inl rfl) ho hc hd (fun h' c' kp e=>fin its r' hz h' c' kp e) (by simp only [size_toArray]<;>omega)
 ·obtain ⟨its,r',pl,hz⟩:=I.tuple hq
  have hlen:=r'.length
  obtain ⟨o,ho,hc,n,hd⟩:=pl
  exact call_list_seq p (.inr rfl) ho hc hd (fun h' c' kp e=>fin its r' hz h' c' kp e) (by simp only [size_toArray]<;>omega)
def tyV (K:W.Frag) (T:String) (x:V) (H:Hp):Prop:=match x with
 | .str _=>T = "str"
 | .int _=>T = "int"
 | .ref p=>(T = "list" /\ ∃xs,SqL K H p xs)\/(T = "tuple" /\ ∃o,K.lookup p=some o/\o.cls=.type "tuple" /\ o.dict=none) \/
    (T = "dict" /\ ((∃kvs,H p=some (.dK kvs))\/∃kvs,H p=some (.dT kvs)))\/(T = "set" /\ ∃S n,H p=some (.set S n))
 | _=>False
theorem zrz {ai:List (Addr × Obj)} {σ:St} {H:Hp} {s:Shared} {T:String} {x:V} {v:Value} (I:Inv X ai σ H s) (r:RelV x v) (ty:tyV X.K T x H):
  s.TypeIs v T/\∀a,v=.ref a->∃ob,s.heap.get? a=some ob/\ob.dict=none:=by
 cases x with
 | str z=>
   obtain ⟨t,rfl⟩:=r
   cases (show T = "str" from ty)
   exact ⟨typeIs_str s z t,fun _ e=>nomatch e⟩
 | int i=>
   obtain ⟨t,rfl⟩:=r
   cases (show T = "int" from ty)
   exact ⟨typeIs_int s i t,fun _ e=>nomatch e⟩
 | ref p=>
   cases r
   rcases ty with ⟨rfl,xs,hq⟩ | ⟨rfl,o,hk,hc,hd⟩ | ⟨rfl,hk⟩ | ⟨rfl,S,n,hk⟩
   ·obtain ⟨its,_,pl,_⟩:=I.list hq
    refine ⟨pl.isList.typeIs,fun a e=>?_⟩
    cases e
    obtain ⟨o,n,e,c,hd,_⟩:=pl
    exact ⟨o,e,hd⟩
   ·refine ⟨⟨o,I.kIn p o hk,hc⟩,fun a e=>?_⟩
    cases e
    exact ⟨o,I.kIn _ o hk,hd⟩
   ·have z:∃o,s.heap.get? p=some o/\o.ExactDict:=by
     rcases hk with ⟨kvs,hk⟩ | ⟨kvs,hk⟩
     ·obtain ⟨_,_,_,_,o,_,_,e,ex,_⟩:=I.hok p _ hk
      exact ⟨o,e,ex⟩
     ·obtain ⟨_,_,_,_,o,_,_,e,ex,_⟩:=I.hok p _ hk
      exact ⟨o,e,ex⟩
    obtain ⟨o,e,ex⟩:=z
    refine ⟨⟨o,e,ex.1⟩,fun a e2=>?_⟩
    cases e2
    exact ⟨o,e,ex.2.1⟩
   ·obtain ⟨o,_,_,_,e,ex,_⟩:=I.hok p _ hk
    refine ⟨⟨o,e,ex.1⟩,fun a e2=>?_⟩
    cases e2
    exact ⟨o,e,ex.2.1⟩
 | _=>exact False.elim ty
def tBM (K:W.Frag) (T:String) (r:V->List V->Hp->VK->Prop) (to:TE) (t:TA):TE:=fun σ H Q=>to σ H fun x H1=>tyV K T x H1/\t σ H1 fun xs H2=>r x xs H2 Q
variable {o e:Expr} {es:List Expr} {to:TE} {t:TA} {name:Str} {apos cpos:Pos} {T id:String} {r:V->List V->Hp->VK->Prop}
theorem zsW (pa:PlainAttrs T) (slot:Slot T name id) (hty:typeOf (.builtin id)=pure (.type "method_descriptor")) (hm:MtR X id r) (ho:PE X o to) (ha:PA X (e::es) t)
  (hbase:attributeBase o name X.env (eval o X.env)=eval o X.env:=by rfl)
  (hfew:((backTo cpos (starEach (e::es) X.env)).all (fun x => !x.1)&&(backToKw cpos (keywordEach [] X.env)).all (fun x=>x.1.isSome)
    && decide ((e::es).length+([]:List Keyword).length+(if ([]:List Keyword).isEmpty then 0 else 1)<30))=true:=by rfl)
  (hline:(apos.endLine==cpos.line)=true:=by rfl) (hs:starEach (e::es) X.env=(false,eval e X.env)::starEach es X.env:=by rfl) (hplain:(backTo cpos (starEach es X.env)).any (·.1)=false:=by rfl):
  PE X (.Call (.Attribute o name apos) (e::es) [] cpos) (tBM X.K T r to t):=by
 with_unfolding_all
  intro ai s σ H Q I h
  refine wpAny_Call_method_late hbase hfew hline rfl (thn (ho ai s σ H _ I h) fun v s1 ⟨x,H1,I1,r1,ty,q1⟩=>?_)
  obtain ⟨h1,h2⟩:=zrz I1 r1 ty
  refine ⟨T,id,pa,slot,hty,h1,h2,?_⟩
  have hA:=ha cpos ai s1 σ H1 _ I1 q1
  rw [hs] at hA ⊢
  refine Calls.callWith_builtin (by show (false||(backTo cpos (starEach es X.env)).any (·.1))=false;rw [hplain]<;>rfl) (Calls.evalArgs_plain ?_)
  exact thn hA fun us s2 ⟨vs,H2,I2,r2,q2⟩=>hm ai s2 σ H2 x vs v us Q I2 r1 r2 q2
/- xs.append(e),list.index on a module's tuple .. are MtR facts of 06m -/
end
end
section
def MtM (X:Cx) (id:String) (r:V->List V->Hp->VK->Prop):Prop:=
 ∀(ai:List (Addr × Obj)) (s:Shared) (σ:St) (H:Hp) (x:V) (xs:List V) (v:Value) (us:List Value) (Q:VK),Inv X ai σ H s->RelV x v->Vals xs us->r x xs H Q->
  wpAny (model X.prog X.w) X.A (call (.builtin id) (v::us)) (EP X ai σ Q) X.xe s
theorem Vals.one:∀ {x:V} {us:List Value},Vals [x] us->∃u,us=[u]/\RelV x u
 | _,_,.cons r .nil=>⟨_,rfl,r⟩
section
variable {X:Cx} {ai:List (Addr × Obj)} {σ:St} {H:Hp} {s:Shared} {l b:Addr} {xs ys zs:List V}
theorem Inv.lset {its its':List Value} {n:Nat} {f:Array Value->Array Value} {t':Nat} (I:Inv X ai σ H s) (hH:H l=some (.lst xs))
  (e:s.heap.get? l=some { cls:=.type "list",data:=.seq its.toArray n }) (hf:f its.toArray=its'.toArray) (hv:Vals ys its') (hz:ys.length<=sizeLine):
  Inv X ai σ (upd H l (.lst ys)) { s with heap:=s.heap.update l (Obj.mapSeq f),toks:=t' }:=by
 have q:=PySem.IsL.update e f
 rw [hf] at q
 refine I.write (x:=l) (e:=l) (by rw [hH];exact trivial) (.inl rfl) (fun b' u hb hu=>(Heap.get?_update_other s.heap (Obj.mapSeq f) (Ne.symm hb)).trans hu) ⟨_,q⟩ ?_
 exact ⟨hz,its',_,hv,q⟩
theorem Inv.lnew {its:List Value} {t':Nat} (I:Inv X ai σ H s) (hv:Vals ys its) (hz:ys.length<=sizeLine):
  Inv X ai σ (upd H s.heap.objs.size (.lst ys)) { s with heap:=s.heap.push { cls:=.type "list",data:=.seq its.toArray },toks:=t' }:=
 I.laid (fun _ _ q=>Heap.get?_push_of_some _ q) (Nat.le_refl _) ⟨hz,its,0,hv,Heap.get?_push_size _ rfl⟩
theorem Inv.fresh (I:Inv X ai σ H s):H s.heap.objs.size=none:=I.hok.fresh (Nat.le_refl _)
theorem Inv.lstM (I:Inv X ai σ H s) (hH:H l=some (.lst xs)):xs.length<=sizeLine/\∃(its:List Value) (n:Nat),Vals xs its/\xs.length=its.length/\s.heap.get? l=some { cls:=.type "list",data:=.seq its.toArray n }:=by
 obtain ⟨z,its,n,r,e⟩:=I.hok l _ hH
 exact ⟨z,its,n,r,r.length,e⟩
end
section
variable {X:Cx}
def zqk:V->List V->Hp->VK->Prop:=fun x vs H Q=>∃l xs y,x=.ref l/\vs=[y]/\H l=some (.lst xs)/\xs.length<sizeLine/\Q .non (upd H l (.lst (xs++[y])))
theorem ziD:MtM X "list.append" zqk:=by
 intro ai s σ H x vs v us Q I rx rv h
 obtain ⟨l,xs,y,rfl,rfl,hH,hz,q⟩:=h
 cases rx
 obtain ⟨u,rfl,ru⟩:=rv.one
 obtain ⟨z,its,n,r,hl,e⟩:=I.lstM hH
 refine call_meets F.slot_list_append ⟨_,e,rfl⟩ F.entry_list_append (F.args_list_append_2 _ _) (PySem.list_append l its.toArray n u (by rw [size_toArray];omega)) ⟨e,?_⟩
 refine ⟨.non,_,I.lset (its':=its++[u]) hH e (by simp) (r.append (.cons ru .nil)) ?_,rfl,q⟩
 rw [length_append,List.length_singleton]
 omega
end
section
variable {prog:Program} {w:World} {A:Around} {E:Value->Shared->Prop} {s:Shared}
set_option maxRecDepth 100000 in
end
section
variable {X:Cx}
end
end
end L2
namespace Att
open PySem PySem.W PySem.Calls PyProof.Rows
theorem zgi {P:Params} {h:Heap}:∀(ns:List Int) (vs:List Value),WellAll P h vs (ns.map WData.int)->IntsAre vs ns:=by
 intro ns
 induction ns with
 | nil=>
   intro vs w
   rw [List.map_nil] at w
   cases w
   exact .nil
 | cons n ns ih=>
   intro vs w
   rw [map_cons] at w
   cases w with
   | cons a b=>
     cases a
     exact .cons _ _ (ih _ b)
theorem zmv {l:OpenLaw} {n:Nat} (hn:l.most=some n) {P:Params} {h:Heap} {args:List WData} {vals:List Value}
  (hpre:l.row.toRowW.claim.pre args=true) (hwl:WellAll P h vals args):
  ∃a vs ns,vals=[Value.ref a]/\args=[WData.list (ns.map WData.int)]/\h.get? a=some { cls:=.type "list",data:=.seq vs.toArray }/\IntsAre vs ns/\ns.length<=n:=by
 have hsh:WShape.hasAll [] args [.list .int]=true:=(pre_splitW hpre).1
 have hc:l.pre.holds [] { args:=args }=true:=(pre_splitW hpre).2
 obtain ⟨d,r,rfl,h1,h2⟩:=hasAllW_cons hsh
 obtain rfl:=hasAllW_nil h2
 obtain ⟨xs,rfl,h3⟩:=hasW_list h1
 obtain ⟨ns,rfl⟩:=items_int h3
 have hlen:ns.length<=n:=by
  unfold OpenLaw.pre at hc
  have h4:(WTm.not (.lt (.lit (.int (n:Int))) (.len (.arg 0)))).holds [] { args:=[.list (ns.map .int)] }=true:=by
   have h4:=(holds_andW hc).1
   rw [hn] at h4
   exact h4
  have h5:=condW_of h4 (w_not (w_lt w_lit (w_len_list (w_arg rfl))))
  rw [length_map] at h5
  refine Nat.le_of_not_lt fun q=>?_
  have q':(n:Int)<((ns.length:Nat):Int):=by omega
  first
   | (rw [decide_eq_true q'] at h5;exact absurd h5 (by decide))
   | (simp at h5;omega)
 cases hwl with
 | cons w1 w2=>
   cases w2
   cases w1 with
   | list ho hall=>exact ⟨_,_,ns,rfl,rfl,ho,zgi ns _ hall,hlen⟩
theorem zmw (l:OpenLaw) (args:List WData):l.row.toRowW.claim.post args (.bool true) args=true:=
 postW_of (r:=l.row.toRowW) (X:=(true==true))
  (show WShape.has [] (.bool true) .bool=true by first | rfl | decide | simp [WShape.has,WShape.arms,WShape.armsAll])
  (show (WTm.eq .res (.lit (.bool true))).value [] { args:=args,res:=some (.bool true),after:=args }=some (.bool (true==true)) from w_eq_bool (w_res rfl) w_lit) rfl
theorem attach_call {l:OpenLaw} {n:Nat} {q:Program} {loose:List Str} {XP:(Str->Option Value)->Heap->Prop} {YP:World->Heap->Prop} {d:DefRec}
  (hn:l.most=some n) (hdf:d.params.defaults=[])
  (call:∀(w:World) (s₀ s₁:Shared) (mg mb:Str->Option Value) (fa:Addr) (o:Obj) (pm cd doc:Value) (a:Addr) (vs:List Value) (ns:List Int),
    Ground q loose [] XP w s₀ mg mb s₁.heap->YP w s₁.heap->
    s₁.heap.get? fa=some o->o.data=.func (docDef d.name d.params d.body d.scope pm cd doc)->s₁.heap.CodeRec cd d.name->mg d.name=some (.ref fa)->
    s₁.heap.get? a=some { cls:=.type "list",data:=.seq vs.toArray }->IntsAre vs ns->ns.length<=n->s₁.gens = #[]->
    codeAny (model l.prog w) callerA (.call (.ref fa) ⟨[.ref a],[]⟩) (fun r s'=>r=.ok (.ret (.bool true))/\OldK s₁.heap s'.heap/\s'.os=s₁.os/\AllBare s'.gens) s₁):
  WalkO q loose XP YP l.row.toRowW d [] (fun f vs=>PySem.call f vs):=by
 intro w s₀ s₁ mg mb G Y fa o pm cd doc dV kV ho hd hcd hD hmg hg args vals as hpre hlay hrd hwl hlo
 obtain rfl:dV=.none:=Dflts.none hD hdf
 obtain rfl:kV=.none:=Dflts.noKw hD
 obtain ⟨a,vs,ns,rfl,rfl,hobj,hints,hlen⟩:=zmv hn hpre hwl
 refine enter_call (codeAny_mono (call w s₀ s₁ mg mb fa o pm cd doc a vs ns G Y ho (fd_plain hd) hcd hmg hobj hints hlen hg) fun r s' hq=>?_)
 obtain ⟨rfl,h2,h3,h4⟩:=hq
 exact ⟨.inl ⟨.bool true,.bool true,[],rfl,fun _=>rfl,.bool true,zmw l _,fun _=>⟨List.Pairwise.nil,fun _ hm=>(nomatch hm)⟩⟩,h2,h3,h4⟩
section
variable {prog:Program} {w:World} {A:Around} {E:Value->Shared->Prop} {s:Shared} {K:Frag}
def ztt (h:Heap) (L d:Addr):List (Addr × Obj):=(List.range h.objs.size).filterMap fun a=>if a=L\/a=d then none else (h.get? a).map fun o=>(a,o)
end
end Att
namespace L2
open PySem PySem.Spec PyProof.Rows
section
theorem ziE:∀ {vs:List Value} {ns:List Int},IntsAre vs ns->Vals (ns.map V.int) vs
 | _,_,.nil=>.nil
 | _,_,.cons n t h=>.cons ⟨t,rfl⟩ (ziE h)
end
section
abbrev KOf {K:W.Frag} {h:Heap} (_:K.In h):W.Frag:=K
end
end L2
/- THE LAST THEOREM (shape;LID,My.* are yours):
   My.Adr: a structure of the addresses that your layer names (classes,functions);My.Txt K t: a structure (Prop) of the equations over K;
   My.txt_mk : {K} {implicit addresses ..} (e1:nsIn K mainGlobals "law" = some (some (.ref f))) (e2:K.lookup f=some ⟨oc,od,.func (fnOf "law" "law" params body scope dV kV doc pm an cdv ct),sl⟩) (e3:codeIn K cdv "law" = true) .. : ∃t,My.Txt K t
set_option maxRecDepth 100000 in
set_option maxHeartbeats 0 in
theorem PySem.Challenge.cw_LID_holds : PySem.Challenge.rw_LID.Holds := by
 w_on;o_law;k_head;(case hw=>w_witness2)
 k_fill
 refine L2.walk_of (l:=PySem.Challenge.rw_LID) (n:=63) (k:=40) (x := "script") (CX:=fun w => ..) (sp:=fun _=>My.sp_law) rfl (by decide) rfl ⟨rfl,by decide,by decide⟩ (fun w h Y=>PySem.W.kIn_of Y) ?F ?S ?C
 case F=>
  intro w mg fa h KX G hmg
  have T:∃t,My.Txt (L2.KOf KX) t:=by
   dsimp only [L2.KOf]
   refine' My.txt_mk ?e1 ?e2 ?e3 ..
   (case e1=>PySem.W.k_is)
   (case e2=>PySem.W.k_is)
   ..
  obtain ⟨t,T⟩:=T
  have e0:=hmg.symm.trans (PySem.W.mg_of KX G T.law)
  cases e0
  exact ⟨_,fun s u=>.of_eq rfl,fun bf kb nb=>My.law_fn T kb nb⟩
 case S=>exact fun w H a ns hl hO hS => ..
 case C=>exact ..
(the tactic k_is has no namespace: write k_is) -/
namespace L2
open PySem PySem.Spec PyProof.Rows
section
def zas (s:Stmt) (j:Nat):Stmt:=match s with
 | .ClassDef _ _ _ body _ _ _ _ _ _ _=>body.getD j (.Pass ⟨0,0,0,0⟩)
 | _ => .Pass ⟨0,0,0,0⟩
def zaq (s:Stmt):Arguments:=match s with
 | .FunctionDef _ a _ _ _ _ _ _ _ _=>a
 | _ => { posonlyargs:=[],args:=[],vararg:=none,kwonlyargs:=[],kw_defaults:=[],kwarg:=none,defaults:=[] }
def zan (s:Stmt):List Stmt:=match s with
 | .FunctionDef _ _ b _ _ _ _ _ _ _=>b
 | _=>[]
def zac (s:Stmt):Scope:=match s with
 | .FunctionDef _ _ _ _ _ _ sc _ _ _=>sc
 | _ => { kind:=.function,names:=[],isGenerator:=false,isCoroutine:=false }
abbrev CX0:CXT:=fun _ _ _ _ _ _=>False
abbrev E0:XK:=fun _ _ _=>False
theorem zaT {X:Cx}:zcx CX0 X E0:=fun _ _ _ _ _ _ _ h=>h.elim
structure Fun (K:W.Frag) (x qual:Str) (st:Stmt) (f:Addr) (fd:FuncData):Prop where
 ex:∃(oc:Value) (od:Option Addr) (kV doc pm:Value) (an:Option Addr) (cdv ct:Value) (osl:Array (Option Value)),
  fd=W.fnOf x qual (zaq st) (zan st) (zac st) .none kV doc pm an cdv ct/\K.lookup f=some ⟨oc,od,.func fd,osl⟩/\W.codeIn K cdv qual=true
 kp:W.keepIn K (.ref f)=true
section
variable {P:Program} {w:World} {K:W.Frag} {mg:Str->Option Value} {bf:Heap}
theorem Fun.ok {x qual:Str} {st:Stmt} {f:Addr} {fd:FuncData} {N ps:List Str} {k:Nat} {sp:Sp} (F:Fun K x qual st f fd) (S:FnScope N ps (zac st)) (len:∀vs H Q E,sp vs H Q E->vs.length=ps.length)
  (hbody:∀(cdv:Value) (A:Around) (outer:List Env) (s:Shared) (H:Hp) (vs:List V) (Q:VK) (E:XK),Room k (A.deeper (envOfC qual (zac st) s.heap.objs.size f cdv))->sp vs H Q E->
    ∃t,PSs (cxOf CX0 P w K mg bf N qual (zac st) f cdv A outer s H E).nox (zan st) t/\t { nx:=fun _ H'=>Q .non H',rt:=Q } (zfz N vs) H):FnOk P w K mg bf CX0 (k+1) f fd ps sp:=by
 obtain ⟨oc,od,kV,doc,pm,an,cdv,ct,osl,rfl,lk,hcd⟩:=F.ex
 refine zmk lk hcd S len fun A outer s H vs Q E hr hsp=>?_
 obtain ⟨t,h,q⟩:=hbody cdv A outer s H vs Q E hr hsp
 exact ⟨t,h.nox,q⟩
theorem Fun.binds {x qual:Str} {st:Stmt} {f:Addr} {fd:FuncData} {ps:List Str} (F:Fun K x qual st f fd)
  (h:∀(kV doc pm:Value) (an:Option Addr) (cdv ct:Value) (us:List Value),us.length=ps.length->bindArgs (W.fnOf x qual (zaq st) (zan st) (zac st) .none kV doc pm an cdv ct) ⟨us,[]⟩=pure (ps.zip us)):za2 K fd ps []:=by
 obtain ⟨oc,od,kV,doc,pm,an,cdv,ct,osl,rfl,lk,hcd⟩:=F.ex
 exact .all (h kV doc pm an cdv ct)
theorem za5 {x qual:Str} {st:Stmt} {f:Addr} {oc:Value} {od an:Option Addr} {osl:Array (Option Value)} {kV doc pm cdv ct:Value} (l:K.lookup f=some ⟨oc,od,.func (W.fnOf x qual (zaq st) (zan st) (zac st) .none kV doc pm an cdv ct),osl⟩)
 (c:W.codeIn K cdv qual=true) (k:W.keepIn K (.ref f)=true):Fun K x qual st f (W.fnOf x qual (zaq st) (zan st) (zac st) .none kV doc pm an cdv ct):=⟨⟨oc,od,kV,doc,pm,an,cdv,ct,osl,rfl,l,c⟩,k⟩
end
theorem zaI {n:Nat} (h:n<=1000):n<sizeLine:=Nat.lt_of_le_of_lt h (by decide)
section
variable {X:Cx}
theorem pv (i:Nat) {x:Str} {pos:Pos} (hN:X.N[i]?=some x:=by rfl) (hv:Vis X.env.scope x:=by first | exact Or.inl rfl | exact Or.inr (Or.inl rfl) | exact Or.inr (Or.inr rfl)) (hd:(x==("__debug__" : Str))=false:=by decide)
 (hcd:(x==("__classdict__" : Str))=false:=by decide):PE X (.Name x pos) (tVar i):=zl5 hN hv hd hcd
end
theorem iteF {A B:Prop} (h:B):if false=true then A else B:=by
 rw [if_neg Bool.false_ne_true]
 exact h
theorem iteT {A B:Prop} (h:A):if true=true then A else B:=by
 rw [if_pos rfl]
 exact h
theorem ite2 {c A B:Prop} [Decidable c] (h1:c->A) (h2:¬c->B):if c then A else B:=by
 by_cases h:c
 ·rw [if_pos h]
  exact h1 h
 ·rw [if_neg h]
  exact h2 h
def Same (H H':Hp):Prop:=∀b o,H b=some o->H' b=some o
theorem Same.refl (H:Hp):Same H H:=fun _ _ h=>h
theorem Same.trans {H H1 H2:Hp} (a:Same H H1) (b:Same H1 H2):Same H H2:=fun c o h=>b c o (a c o h)
theorem Same.free {H H':Hp} (e:Same H H') {l:Addr} (h:H' l=Option.none):H l=Option.none:=by
 cases q:H l with
 | none=>rfl
 | some o=>
   rw [e l o q] at h
   cases h
theorem Same.seq {K:W.Frag} {H H':Hp} {a:Addr} {xs:List V} (e:Same H H') (h:SqL K H a xs):SqL K H' a xs:=by
 rcases h with (h | ⟨o,h⟩) | h
 ·exact .inl (.inl (e _ _ h))
 ·exact .inl (.inr ⟨o,e _ _ h⟩)
 ·exact .inr h
section
variable {κ:Type} [DecidableEq κ]
end
end
end L2
namespace L2
open PySem PySem.Spec PyProof.Rows
section
theorem zrA:bootBuiltins "abs" = some (.builtin "abs"):=by decide +kernel
theorem zck:bootBuiltins "len" = some (.builtin "len"):=by decide +kernel
theorem zrB:bootBuiltins "min" = some (.builtin "min"):=by decide +kernel
theorem zav:bootBuiltins "isinstance" = some (.builtin "isinstance"):=by decide +kernel
theorem zrC:bootBuiltins "int" = some (.type "int"):=by decide +kernel
theorem zrD:bootBuiltins "str" = some (.type "str"):=by decide +kernel
theorem zql:bootBuiltins "bool" = some (.type "bool"):=by decide +kernel
theorem zkz:bootBuiltins "tuple" = some (.type "tuple"):=by decide +kernel
theorem zjJ:bootBuiltins "list" = some (.type "list"):=by decide +kernel
theorem zqm:bootBuiltins "dict" = some (.type "dict"):=by decide +kernel
theorem zpt:bootBuiltins "all" = some (.builtin "all"):=by decide +kernel
structure Cal (P:Program) (w:World) (K:W.Frag) (mg:Str->Option Value) (bf:Heap) (x:Str) (k:Nat) (ps:List Str) (sp:Sp):Prop where
 ex:∃f fd,FnOk P w K mg bf CX0 k f fd ps sp/\za2 K fd ps []/\mg x=some (.ref f)/\W.keepIn K (.ref f)=true
structure Dfn (K:W.Frag) (mg:Str->Option Value) (x:Str) (st:Stmt) (ps:List Str) (f:Addr) (fd:FuncData):Prop where
 F:Fun K x x st f fd
 b:za2 K fd ps []
 m:mg x=some (.ref f)
theorem Dfn.cal {P:Program} {w:World} {K:W.Frag} {mg:Str->Option Value} {bf:Heap} {x:Str} {st:Stmt} {ps:List Str} {f:Addr} {fd:FuncData} {k:Nat} {sp:Sp}
 (D:Dfn K mg x st ps f fd) (G:FnOk P w K mg bf CX0 k f fd ps sp):Cal P w K mg bf x k ps sp:=⟨⟨f,fd,G,D.b,D.m,D.F.kp⟩⟩
section
variable {X:Cx} {k:Nat} {ps:List Str} {sp:Sp} {x:Str} {p pos:Pos} {e:Expr} {es:List Expr} {t:TA}
theorem zao (C:Cal X.prog X.w X.K X.mg X.bf x k ps sp) (hr:Room k X.A) (hg:Gl X x) (ha:PA X (e::es) t) (hdb:(x==("__debug__" : Str))=false:=by decide)
  (he:starEach (e::es) X.env=(false,eval e X.env)::starEach es X.env:=by rfl) (hpl:(backTo pos (starEach es X.env)).any (·.1)=false:=by rfl):
  PE X (.Call (.Name x p) (e::es) [] pos) (zmh sp [] E0 t):=by
 obtain ⟨f,fd,G,b,m,kp⟩:=C.ex
 exact zmi G hr hg m kp b .nil zaT ha hdb he hpl
end
section
variable {X:Cx}
def zsX (_ j:Int):Prop:=0<j/\j<1000000000000000000000000000000000000000000000000000000000000
theorem zef:OpR X (binaryOp .FloorDiv) (rI zsX fun i j=>.int (i / j)):=opI fun i j _ _ _ _ _ hc q=>by
 have h1:(0:Int)<j:=hc.1
 have h2:j<1000000000000000000000000000000000000000000000000000000000000:=hc.2
 have h3:j.natAbs<2 ^ 200:=by
  have z:(1000000000000000000000000000000000000000000000000000000000000:Nat)<=2 ^ 200:=by decide
  exact Nat.lt_of_lt_of_le (by omega) z
 have h4:j.natAbs.log2<200:=(Nat.log2_lt (by omega)).mpr h3
 exact floordiv_int (by omega) (by rw [Int.fdiv_eq_ediv_of_nonneg i (by omega)];exact q) (.inl (PyProof.noPylong_of_log2 (by omega)))
def eqVs:List V->List V->Bool
 | [],[]=>true
 | x::xs,y::ys=>eqV x y&&eqVs xs ys
 | _,_=>false
def eqJ (xs ys:List V) (j:Nat):Bool:=match xs[j]?,ys[j]? with
 | some x,some y=>eqV x y
 | _,_=>false
theorem zeg:∀xs ys:List V,((List.range (min xs.length ys.length)).all (eqJ xs ys)&&(xs.length==ys.length))=eqVs xs ys
 | [],[]=>rfl
 | [],y::ys=>by simp [eqVs]
 | x::xs,[]=>by simp [eqVs]
 | x::xs,y::ys=>by
   have ih:=zeg xs ys
   have hm:min (x::xs).length (y::ys).length=min xs.length ys.length+1:=by simp [length_cons]
   have h0:eqJ (x::xs) (y::ys) 0=eqV x y:=rfl
   have h1:(eqJ (x::xs) (y::ys)) ∘ Nat.succ=eqJ xs ys:=by
    funext j
    simp [eqJ,Function.comp]
   have hl:((x::xs).length==(y::ys).length)=(xs.length==ys.length):=by
    rw [Bool.eq_iff_iff]
    simp
   rw [hm,range_succ_eq_map,all_cons,List.all_map,h0,h1,hl,Bool.and_assoc,ih]
   rfl
theorem zmx {A:Around} {s:Shared} {xs ys:List V} {us vs:List Value} (r:Vals xs us) (q:Vals ys vs) (fx:xs.all zbO=true) (fy:ys.all zbO=true) (j:Nat) (h1:j<us.toArray.size) (h2:j<vs.toArray.size):
  SeqAt.EqAt A s us.toArray[j] vs.toArray[j] (eqJ xs ys j):=by
 have l1:j<xs.length:=by rw [r.length];simpa using h1
 have l2:j<ys.length:=by rw [q.length];simpa using h2
 obtain ⟨u,eu,ru⟩:=r.get (getElem?_eq_getElem l1)
 obtain ⟨v,ev,rv⟩:=q.get (getElem?_eq_getElem l2)
 have e1:us.toArray[j]=u:=by
  have:=(List.getElem?_eq_some_iff.mp eu).2
  simpa using this
 have e2:vs.toArray[j]=v:=by
  have:=(List.getElem?_eq_some_iff.mp ev).2
  simpa using this
 have e3:eqJ xs ys j=eqV xs[j] ys[j]:=by
  unfold eqJ
  rw [getElem?_eq_getElem l1,getElem?_eq_getElem l2]
 rw [e1,e2,e3]
 exact zmt ru rv (all_eq_true.mp fx _ (getElem_mem l1)) (all_eq_true.mp fy _ (getElem_mem l2))
def rEqT (K:W.Frag):R2:=fun x y H Q=>∃a b xs ys,x=.ref a/\y=.ref b/\SqT K H a xs/\SqT K H b ys/\xs.all zbO=true/\ys.all zbO=true/\Q (.bl (eqVs xs ys)) H
theorem ziF (hu:X.A.units<cLine):OpR X (compareOp .Eq) (rEqT X.K):=by
 intro ai s σ H x y v u Q I rx ry h
 obtain ⟨a,b,xs,ys,rfl,rfl,hx,hy,fx,fy,q⟩:=h
 cases rx
 cases ry
 obtain ⟨its,r,pl,hz⟩:=I.tuple hx
 obtain ⟨its2,r2,pl2,hz2⟩:=I.tuple hy
 refine SeqAt.eq_tupleAt (e:=eqJ xs ys) pl pl2 hu (fun j h1 h2=>zmx r r2 fx fy j h1 h2) ⟨.bl _,H,I,rfl,?_⟩
 have e1:its.toArray.size=xs.length:=by simp [r.length]
 have e2:its2.toArray.size=ys.length:=by simp [r2.length]
 rw [e1,e2,zeg]
 exact q
theorem zkA:∀ {xs ys:List V},xs.length≠ys.length->eqVs xs ys=false
 | [],[],h=>absurd rfl h
 | [],_::_,_=>rfl
 | _::_,[],_=>rfl
 | x::xs,y::ys,h=>by
   show (eqV x y&&eqVs xs ys)=false
   rw [zkA (fun e=>h (by simp [e])),Bool.and_false]
def rEqL (K:W.Frag):R2:=fun x y H Q=>∃a b xs ys,x=.ref a/\y=.ref b/\SqL K H a xs/\SqL K H b ys/\xs.all zbO=true/\ys.all zbO=true/\Q (.bl (eqVs xs ys)) H
theorem zmy (hu:X.A.units<cLine):OpR X (compareOp .Eq) (rEqL X.K):=by
 intro ai s σ H x y v u Q I rx ry h
 obtain ⟨a,b,xs,ys,rfl,rfl,hx,hy,fx,fy,q⟩:=h
 cases rx
 cases ry
 obtain ⟨its,r,pl,hz⟩:=I.list hx
 obtain ⟨its2,r2,pl2,hz2⟩:=I.list hy
 have e1:its.toArray.size=xs.length:=by simp [r.length]
 have e2:its2.toArray.size=ys.length:=by simp [r2.length]
 by_cases hl:xs.length=ys.length
 ·refine SeqAt.eq_listAt (e:=eqJ xs ys) pl.isList pl2.isList (by omega) hu (fun j h1 h2=>zmx r r2 fx fy j h1 h2) ⟨.bl _,H,I,rfl,?_⟩
  have z:=zeg xs ys
  rw [<-hl,Nat.min_self] at z
  rw [e1]
  have z':(List.range xs.length).all (eqJ xs ys)=eqVs xs ys:=by
   rw [<-z]
   simp
  rw [z']
  exact q
 ·refine SeqAt.eq_list_lengthsAt pl.isList pl2.isList ?_ hu ⟨.bl _,H,I,rfl,?_⟩
  ·rw [e1,e2]
   simpa using hl
  ·rw [zkA hl] at q
   exact q
end
theorem zbn {H:Hp} {p:Addr} (h:H p=none) (o:HO):Same H (upd H p o):=fun b u q=>by rw [zah (zaj q h)];exact q
section
variable {X:Cx} {es:List Expr} {t:TA} {pos:Pos}
def zsY (t:TA):TE:=fun σ H Q=>t σ H fun xs H1=>xs.length<=sizeLine/\∀p H2,Same H1 H2->H1 p=none->H2 p=some (.tup xs)->Q (.ref p) H2
def zsZ (t:TA):TE:=fun σ H Q=>t σ H fun xs H1=>xs.length<=sizeLine/\∀p H2,Same H1 H2->H1 p=none->H2 p=some (.lst xs)->Q (.ref p) H2
theorem zai {x1} (h:PA X es t):PE X (.Tuple es x1 pos) (zsY t):=by
 with_unfolding_all
  intro ai s σ H Q I hq
  refine wpAny_Tuple_spliced (thn (h pos ai s σ H _ I hq) fun us s1 ⟨xs,H1,I1,r,z,q⟩=>⟨by rw [<-r.length];exact z,?_⟩)
  have hf:H1 s1.heap.objs.size=none:=I1.hok.fresh (Nat.le_refl _)
  refine ⟨.ref s1.heap.objs.size,upd H1 s1.heap.objs.size (.tup xs),I1.laid (t':=s1.toks) (fun b u e=>Heap.get?_push_of_some _ e) (Nat.le_refl _) ?_,rfl,q _ _ (zbn hf _) hf zam⟩
  exact ⟨z,us,r,⟨_,Heap.get?_push_size _ rfl,rfl,_,rfl⟩⟩
theorem zat (h:PA X es t):PE X (.List es pos) (zsZ t):=by
 with_unfolding_all
  intro ai s σ H Q I hq
  refine wpAny_List_spliced (thn (h pos ai s σ H _ I hq) fun us s1 ⟨xs,H1,I1,r,z,q⟩=>⟨by rw [<-r.length];exact z,?_⟩)
  have hf:H1 s1.heap.objs.size=none:=I1.hok.fresh (Nat.le_refl _)
  refine ⟨.ref s1.heap.objs.size,upd H1 s1.heap.objs.size (.lst xs),I1.laid (t':=s1.toks) (fun b u e=>Heap.get?_push_of_some _ e) (Nat.le_refl _) ?_,rfl,q _ _ (zbn hf _) hf zam⟩
  exact ⟨z,us,0,r,Heap.get?_push_size _ rfl⟩
end
section
variable {X:Cx} {st:Stmt} {rest:List Stmt} {t u:TS}
def tMid (t u:TS):TS:=fun D σ H=>∃M:St->Hp->Prop,t { D with nx:=M } σ H/\∀ σ' H',M σ' H'->u D σ' H'
theorem zdF (h1:PS X st t) (h2:PSs X rest u):PSs X (st::rest) (tMid t u):=by
 with_unfolding_all
  intro ai s σ H D I h
  obtain ⟨M,h,hm⟩:=h
  refine wpAny_execs_cons (thn (h1 ai s σ H { D with nx:=M } I h) fun f s1 q=>?_)
  cases f with
  | next=>
    obtain ⟨σ',H',I',q⟩:=q
    exact h2 ai s1 σ' H' D I' (hm σ' H' q)
  | ret v=>exact q
  | brk=>exact q
  | cont=>exact q
end
theorem sz (n:Nat) (h:n<=1000):n<=sizeLine:=Nat.le_of_lt (zaI h)
theorem dint (a b:Int):decide (V.int a=V.int b)=decide (a=b):=by
 rw [Bool.eq_iff_iff]
 simp
theorem zqn {a b:Int} (h:(!decide (V.int a=V.int b))=true):a≠b:=by
 rw [dint] at h
 simpa using h
theorem zrE {a b:Int} (h:¬(!decide (V.int a=V.int b))=true):a=b:=by
 rw [dint] at h
 simpa using h
def zmz (K:W.Frag):Sp:=fun vs H Q _=>∃(a:Addr) (ns:List Int),vs=[.ref a]/\SqL K H a (ns.map V.int)/\ns.length<=63/\∀H',Q (.bl true) H'
section
variable {X:Cx}
end
theorem TyOf.same {K:W.Frag} {H H':Hp} {x:V} {t:Value} (s:Same H H') (h:TyOf K H x t):TyOf K H' x t:=by
 cases h with
 | non=>exact .non
 | bl b=>exact .bl b
 | int i=>exact .int i
 | str z=>exact .str z
 | flt z=>exact .flt z
 | lst e=>exact .lst (s _ _ e)
 | frz e=>exact .frz (s _ _ e)
 | tup e=>exact .tup (s _ _ e)
 | dK e=>exact .dK (s _ _ e)
 | dT e=>exact .dT (s _ _ e)
 | ins e cl ha hn htk hm=>exact .ins (s _ _ e) cl ha hn htk hm
theorem iteD {c A B:Prop} [Decidable c] (hc:c) (h:A):if decide c=true then A else B:=by
 rw [decide_eq_true hc]
 exact iteT h
theorem zgj {c A B:Prop} [Decidable c] (hc:¬c) (h:B):if decide c=true then A else B:=by
 rw [decide_eq_false hc]
 exact iteF h
end
end L2
set_option maxHeartbeats 4000000
namespace PySem
def zeI (env:Env) (x:Str × NameKind) (cs:List (Str × Addr)):Sem (ForInStep (List (Str × Addr))):=
 if (x.2==NameKind.free)=true then do let c <-cellOf env x.1;pure (ForInStep.yield ((x.1,c)::cs)) else pure (ForInStep.yield cs)
theorem zpu (scope:Scope) (env:Env):closureFor scope env=(forIn scope.names ([]:List (Str × Addr)) (zeI env) >>= fun cs=>pure cs):=by
 unfold closureFor
 rfl
theorem zkB {env:Env}:∀(l:List (Str × NameKind)) (acc:List (Str × Addr)),(∀y∈l,y.2=.free->∃c,env.cells.lookup y.1=some c)->(∀x c,acc.lookup x=some c->env.cells.lookup x=some c)->
  ∃cl,(forIn l acc (zeI env):Sem _)=pure cl/\(∀x c,cl.lookup x=some c->env.cells.lookup x=some c)/\(∀x,(x,NameKind.free)∈l->∃c,cl.lookup x=some c)/\(∀x c,acc.lookup x=some c->∃c,cl.lookup x=some c)/\(∀x c,cl.lookup x=some c->(x,NameKind.free)∈l\/∃c',acc.lookup x=some c')
 | [],acc,_,ha=>⟨acc,rfl,ha,fun x h=>(by cases h),fun x c h=>⟨c,h⟩,fun x c h=>.inr ⟨c,h⟩⟩
 | (n,k)::l,acc,h,ha=>by
   by_cases hk:k=.free
   ·subst hk
    obtain ⟨c,hc⟩:=h (n,.free) mem_cons_self rfl
    have ha':∀x c',((n,c)::acc).lookup x=some c'->env.cells.lookup x=some c':=fun x c' e=>by
     rw [lookup_cons] at e
     by_cases q:x=n
     ·subst q
      simp at e
      rw [hc,e]
     ·have:(x==n)=false:=by simpa using q
      rw [this] at e
      exact ha x c' e
    obtain ⟨cl,e1,e2,e3,e4,e5⟩:=zkB l ((n,c)::acc) (fun y hy=>h y (mem_cons_of_mem _ hy)) ha'
    refine ⟨cl,?_,e2,fun x hx=>?_,fun x c' hx=>?_,fun x c' hx=>?_⟩
    ·rw [List.forIn_cons]
     have:zeI env (n,.free) acc=pure (ForInStep.yield ((n,c)::acc)):=by
      simp only [zeI,cellOf,hc]
      rfl
     rw [this,pure_bind]
     exact e1
    ·rcases mem_cons.mp hx with q | q
     ·cases q
      exact e4 n c (by simp)
     ·exact e3 x q
    ·by_cases q:x=n
     ·subst q
      exact e4 x c (by simp)
     ·have:(x==n)=false:=by simpa using q
      exact e4 x c' (by rw [lookup_cons,this];exact hx)
    ·rcases e5 x c' hx with z | ⟨d,z⟩
     ·exact .inl (mem_cons_of_mem _ z)
     ·by_cases q:x=n
      ·subst q
       exact .inl mem_cons_self
      ·have:(x==n)=false:=by simpa using q
       rw [lookup_cons,this] at z
       exact .inr ⟨d,z⟩
   ·obtain ⟨cl,e1,e2,e3,e4,e5⟩:=zkB l acc (fun y hy=>h y (mem_cons_of_mem _ hy)) ha
    refine ⟨cl,?_,e2,fun x hx=>?_,e4,fun x c' hx=>(e5 x c' hx).imp (mem_cons_of_mem _) id⟩
    ·rw [List.forIn_cons]
     have:zeI env (n,k) acc=pure (ForInStep.yield acc):=by
      have z:(k==NameKind.free)=false:=by simpa using hk
      simp only [zeI,z]
      rfl
     rw [this,pure_bind]
     exact e1
    ·rcases mem_cons.mp hx with q | q
     ·cases q
      exact absurd rfl hk
     ·exact e3 x q
theorem zlu {scope:Scope} {env:Env} (h:∀y∈scope.names,y.2=.free->∃c,env.cells.lookup y.1=some c):
  ∃cl,closureFor scope env=pure cl/\(∀x c,cl.lookup x=some c->env.cells.lookup x=some c)/\(∀x,(x,NameKind.free)∈scope.names->∃c,cl.lookup x=some c):=by
 obtain ⟨cl,e1,e2,e3,_⟩:=zkB scope.names [] h (fun x c e=>by simp at e)
 exact ⟨cl,by rw [zpu,e1];rfl,e2,e3⟩
theorem zjK {scope:Scope} {env:Env} (h:∀y∈scope.names,y.2=.free->∃c,env.cells.lookup y.1=some c):
  ∃cl,closureFor scope env=pure cl/\(∀x c,cl.lookup x=some c->env.cells.lookup x=some c)/\(∀x,(x,NameKind.free)∈scope.names->∃c,cl.lookup x=some c)/\(∀x c,cl.lookup x=some c->(x,NameKind.free)∈scope.names):=by
 obtain ⟨cl,e1,e2,e3,_,e5⟩:=zkB scope.names [] h (fun x c e=>by simp at e)
 exact ⟨cl,by rw [zpu,e1];rfl,e2,e3,fun x c e=>(e5 x c e).elim id fun ⟨_,z⟩=>by simp at z⟩
end PySem
namespace L2
open PySem PySem.Spec PyProof.Rows
section
abbrev zbJ (X:Cx) (N:List Str) (scope:Scope) (cl:List (Str × Addr)) (C:Addr) (s₀:Shared) (H₀:Hp) (ex:List Addr):Cx where
 prog:=X.prog
 w:=X.w
 K:=X.K
 mg:=X.mg
 bf:=X.bf
 A:=X.A
 N:=N
 s₀:=s₀
 H₀:=H₀
 env:=compEnvC scope cl C X.env
 outer:=X.stack
 stack:=X.stack
 ex:=ex
 fn:=fun _=>false
 calm:=X.calm
 pn:=[]
 xe:=fun _ _=>False
def ziG (Y:Cx) (ifs:List Expr) (t:TT):Prop:=
 ∀(ai:List (Addr × Obj)) (s:Shared) (σ:St) (H:Hp) (Q:Bool->Hp->Prop),Inv Y ai σ H s->t σ H Q->
  wpAny (model Y.prog Y.w) Y.A (forIn ifs true fun c r=>if r=true then do let ok <-isTrue c Y.env (eval c Y.env);pure (ForInStep.yield ok) else pure (ForInStep.yield r)) (TP Y ai σ Q) Y.xe s
def tYes:TT:=fun _ H Q=>Q true H
theorem zcy {Y:Cx}:ziG Y [] tYes:=fun _ _ _ H _ I h=>wpAny_tests_nil ⟨H,I,h⟩
theorem zgk {Y:Cx} {c:Expr} {t:TT} (h:PT Y c t):ziG Y [c] t:=by
 with_unfolding_all
  exact fun ai s σ H Q I q=>wpAny_tests_one (h ai s σ H Q I q)
def caps (σ:St) (js:List Nat):St:=js.map fun j=>(σ[j]?).join
def zfs (J:It) (js:List Nat) (tc:TT) (te:TE) (σ:St) (H1:Hp) (Q:VK):Prop:=
 ∀D H2,Same H1 H2->H1 D=none->H2 D=some (.lst [])->∃W:Nat->Nat->List V->Hp->Prop,(∃m,W 0 m [] H2)/\∀i m acc H3,W i m acc H3->
  H3 D=some (.lst acc)/\acc.length<sizeLine/\((J.stop i H3/\Q (.ref D) H3)\/(J.go i H3/\∀x H4,J.yld i H3 x H4->
   tc (some x::caps σ js) H4 fun b H5=>if b=true then te (some x::caps σ js) H5 fun v H6=>H6 D=some (.lst acc)/\
       ∀H7,(∀b o,b≠D->H6 b=some o->H7 b=some o)->H7 D=some (.lst (acc++[v]))->∃m',m'<m/\W (i+1) m' (acc++[v]) H7
    else ∃m',m'<m/\W (i+1) m' acc H5))
def zqo (wi:TI) (js:List Nat) (tc:TT) (te:TE):TE:=fun σ H Q=>wi σ H fun J H1=>zfs J js tc te σ H1 Q
structure CompScope (X:Cx) (scope:Scope) (x:Str) (N:List Str) (js:List Nat):Prop where
 kind:scope.kind=.function
 nocell:∀y∈scope.names,y.2≠.cell
 loc:∀y∈scope.names,y.2=.local->scope.names.lookup y.1=some .local
 own:scope.names.lookup x=some .local
 free:∀y∈scope.names,y.2=.free->X.env.kindOf y.1=some .cell
 nd:N.Nodup
 head:N[0]?=some x
 len:N.length=js.length+1
 apart:∀y,scope.names.lookup y=some .local->(y,NameKind.free)∉scope.names
 cap:∀(k j:Nat) (y:Str),N[k+1]?=some y->js[k]?=some j->X.N[j]?=some y/\Vis X.env.scope y/\X.env.kindOf y=some .cell/\(y,NameKind.free)∈scope.names
theorem CompScope.of {X:Cx} {scope:Scope} {x:Str} {N:List Str} {js:List Nat} (c1:scope.kind=.function) (c2:(scope.names.all fun y=>y.2 != .cell)=true)
  (c3:(scope.names.all fun y=>y.2 != .local||scope.names.lookup y.1==some .local)=true) (c4:scope.names.lookup x=some .local) (c5:(scope.names.all fun y=>y.2 != .free||X.env.kindOf y.1==some .cell)=true)
  (nd:N.Nodup) (hd:N[0]?=some x) (len:N.length=js.length+1) (c6:(scope.names.all fun y=>y.2 != .free||scope.names.lookup y.1 != some .local)=true)
  (c7:(((N.drop 1).zip js).all fun p=>X.N[p.2]?==some p.1&&X.env.scope.names.lookup p.1==some .cell&&scope.names.contains (p.1,NameKind.free))=true):CompScope X scope x N js where
 kind:=c1
 nocell:=fun y hy e=>by
  have:=all_eq_true.mp c2 y hy
  rw [e] at this
  exact absurd this (by decide)
 loc:=fun y hy e=>by
  have:=all_eq_true.mp c3 y hy
  rw [e] at this
  simpa using this
 own:=c4
 free:=fun y hy e=>by
  have:=all_eq_true.mp c5 y hy
  rw [e] at this
  simpa using this
 nd:=nd
 head:=hd
 len:=len
 apart:=fun y hl hm=>by
  have:=all_eq_true.mp c6 _ hm
  rw [hl] at this
  simp at this
 cap:=fun k j y h1 h2=>by
  have hz:((N.drop 1).zip js)[k]?=some (y,j):=by
   rw [List.getElem?_zip_eq_some]
   exact ⟨by rw [List.getElem?_drop,Nat.add_comm];exact h1,h2⟩
  have:=all_eq_true.mp c7 _ (mem_of_getElem? hz)
  simp only [Bool.and_eq_true,beq_iff_eq] at this
  obtain ⟨⟨a,b⟩,c⟩:=this
  exact ⟨a,.inr (.inl b),b,by simpa using c⟩
theorem zft {scope:Scope} {env:Env} {y:Str} {k:NameKind} (h:(relabel scope env).names.lookup y=some k) (hk:k=.cell\/k=.free) (nocell:∀z∈scope.names,z.2≠.cell):(y,NameKind.free)∈scope.names:=by
 have hm:=PySem.mem_of_lookup h
 obtain ⟨⟨n,k'⟩,hn,e⟩:=mem_map.mp hm
 dsimp only at e
 by_cases c:(k'==NameKind.free&&env.scope.kind==.function&&env.kindOf n==some .cell)=true
 ·rw [if_pos c] at e
  have ek:k'=.free:=by
   simp only [Bool.and_eq_true,beq_iff_eq] at c
   exact c.1.1
  cases e
  rw [<-ek]
  exact hn
 ·rw [if_neg c] at e
  cases e
  rcases hk with rfl | rfl
  ·exact absurd rfl (nocell _ hn)
  ·exact hn
theorem ziH {X:Cx} {ai:List (Addr × Obj)} {s:Shared} {σ:St} {H:Hp} {Q:VK} {use:Option (Value->Sem Unit)} {QQ:Value->Shared->Prop} {iter elt:Expr} {x:Str} {px:Pos} {ifs:List Expr} {scope:Scope} {pos pos':Pos} {wi:TI} {N:List Str} {js:List Nat} {tc:TT} {te:TE}
  (hc:X.calm=true) (S:CompScope X scope x N js) (hi:PI X (.Name x px) iter wi)
  (ht:∀cl C s₀ H₀ ex,ziG (zbJ X N scope cl C s₀ H₀ ex) ifs tc) (he:∀cl C s₀ H₀ ex,PE (zbJ X N scope cl C s₀ H₀ ex) elt te)
  (hs:∀x,foldedSetIterable iter X.env x=pure x) (I:Inv X ai σ H s) (h:zqo wi js tc te σ H Q)
  (fin:∀ {cl:List (Str × Addr)} {C D:Addr} {s2 s5:Shared} {H2 H4:Hp} {fp:List Addr} {o:Option V},C=s2.heap.objs.size+1->D=s2.heap.objs.size->(∀b,b<s2.heap.objs.size->b≠C/\b≠D)->Inv X ai σ H2 s2->(∀b∈fp,FpOk X ai H2 b)->Inv (zbJ X N scope cl C s2 H2 fp) [] (o::caps σ js) H4 s5->Q (.ref D) H4->∀a,compPost (model X.prog X.w) X.A X.xe use QQ (.ref D) C (.ok a) s5):
  wpAny (model X.prog X.w) X.A (comprehension (.ListComp elt [⟨.Name x px,iter,ifs,0⟩] scope pos) scope X.env pos' (newList []) false (eval iter X.env) use) QQ X.xe s:=by
 with_unfolding_all
  have hcells:∀y∈scope.names,y.2=.free->∃c,X.env.cells.lookup y.1=some c:=fun y hy hf=>I.ok.has y.1 (.inl (S.free y hy hf))
  obtain ⟨cl,ecl,cl1,cl2⟩:=zlu hcells
  refine wpAny_comprehension_free (use:=use) rfl hs ecl S.kind S.loc (thn (hi ai s σ H _ I h) fun v s1 h1=>thn h1 fun itv s2 h2=>?_)
  obtain ⟨it,fp,tn,J,H2,e,I2,T,st2,f2,q2⟩:=h2
  subst e
  refine wpAny_newObj_type (wpAny_newFunctionEnv S.nocell (by intro y hy;simp at hy) (fun h₁ hns₁ hsb₁=>?_) S.kind)
  dsimp only at hns₁ hsb₁ ⊢
  generalize hP2:s2.heap.push { cls:=.type "list",dict:=none,data:=.seq ([]:List Value).toArray }=P2 at hns₁ hsb₁ ⊢
  have hC:P2.objs.size=s2.heap.objs.size+1:=by rw [<-hP2,Heap.size_push]
  have below:∀b,b<s2.heap.objs.size->b≠P2.objs.size/\b≠s2.heap.objs.size:=fun b hb=>⟨by rw [hC];exact Nat.ne_of_lt (Nat.lt_succ_of_lt hb),Nat.ne_of_lt hb⟩
  have hDC:s2.heap.objs.size≠P2.objs.size:=by rw [hC];exact Nat.ne_of_lt (Nat.lt_succ_self _)
  have old:∀b o,s2.heap.get? b=some o->h₁.get? b=some o:=fun b o e=>hsb₁.extBut b o (below b (Heap.lt_size e)).1 (Heap.get?_push_of_some _ (hP2▸Heap.get?_push_of_some _ e))
  have hD:h₁.get? s2.heap.objs.size=some { cls:=.type "list",dict:=none,data:=.seq ([]:List Value).toArray }:=hsb₁.extBut _ _ hDC (Heap.get?_push_of_some _ (hP2▸Heap.get?_push_size _ rfl))
  have hDn:H2 s2.heap.objs.size=none:=I2.hok.fresh (Nat.le_refl _)
  have hCn:H2 P2.objs.size=none:=I2.hok.fresh (by rw [hC];exact Nat.le_succ _)
  obtain ⟨W,⟨m0,w0⟩,turn⟩:=q2 s2.heap.objs.size _ (zbn hDn (.lst [])) hDn zam
  have fpl:∀b∈fp,b<s2.heap.objs.size:=fun b hb=>by
   obtain ⟨o,e,_⟩:=T.obj 0 _ st2 b hb
   exact Heap.lt_size e
  have yok:(zbJ X N scope cl P2.objs.size s2 H2 fp).Ok:=
   { mod:=I2.ok.mod
     kind:=S.kind
     glob:=I2.ok.glob
     blt:=I2.ok.blt
     above:=by show s2.heap.objs.size<=P2.objs.size;rw [hC];exact Nat.le_succ _
     inj:=fun y z c h1 h2=>I2.ok.inj y z c (cl1 y c h1) (cl1 z c h2)
     has:=fun y hy=>by
      have hy':(y,NameKind.free)∈scope.names:=by
       rcases hy with hy | hy
       ·exact zft (env:=X.env) hy (.inl rfl) S.nocell
       ·exact zft (env:=X.env) hy (.inr rfl) S.nocell
      exact cl2 y hy'
     cab:=fun y c hf _=>by cases hf
     hd:=fun hc'=>I2.ok.hd hc'
     frames:=I2.ok.frames
     stk:=.inl rfl
     exf:=fun b hb=>⟨(below b (fpl b hb)).1,fun y c e=>(f2 b hb).2.2.2.2.1 y c (cl1 y c e)⟩
     bs:=I2.bs
     bsz:=Nat.le_trans I2.ok.bsz I2.sz
     noex:=fun b o e hb=>by
      rcases (f2 b hb).2.2.2.1 with z | z
      ·exact I2.ok.noex b o e z
      ·exact absurd (Nat.lt_of_lt_of_le (Nat.lt_of_lt_of_le (Heap.lt_size e) I2.ok.bsz) z) (Nat.lt_irrefl _)
     exfs:=fun b hb hf=>by
      rcases mem_cons.mp (I2.stkSub b hf) with z | z
      ·exact (f2 b hb).2.1 z
      ·exact (f2 b hb).2.2.1 z
     funs:=I2.stack
     frf:=I2.stkFree }
  have hokD:HOk X.prog X.w (upd H2 s2.heap.objs.size (.lst [])) h₁:=I2.hok.laid old (Nat.le_refl _) ⟨Nat.zero_le _,[],0,.nil,hD⟩
  have I3:Inv (zbJ X N scope cl P2.objs.size s2 H2 fp) [] (none::caps σ js) (upd H2 s2.heap.objs.size (.lst [])) { s2 with heap:=h₁,toks:=s2.toks+([]:List (Str × Value)).length }:=
   { ok:=yok
     os:=rfl
     bare:=I2.bare
     bf:=Un.laid old (Nat.le_refl _) hDn
     loc:=by
      refine ⟨_,hns₁,fun i y v e1 e2 e3=>?_⟩
      cases i with
      | zero=>simp at e2
      | succ k=>
        have e2':(caps σ js)[k]?=some (some v):=by simpa using e2
        unfold caps at e2'
        rw [getElem?_map] at e2'
        cases ej:js[k]? with
        | none=>rw [ej] at e2';cases e2'
        | some j=>
          rw [ej] at e2'
          have e4:(σ[j]?).join=some v:=Option.some.inj e2'
          have e5 : σ[j]?=some (some v):=by
           cases eσ : σ[j]? with
           | none=>rw [eσ] at e4;cases e4
           | some o=>rw [eσ] at e4;exact congrArg some e4
          obtain ⟨n1,n2,n3,n4⟩:=S.cap k j y e1 ej
          obtain ⟨mX,_,lX⟩:=I2.loc
          obtain ⟨u,ru,lk⟩:=lX j y v n1 e5 n2
          refine ⟨u,ru,?_⟩
          rcases lk with ⟨lk,_⟩ | ⟨_,c,ec,cell⟩
          ·rw [n3] at lk;cases lk
          ·obtain ⟨c',ec'⟩:=cl2 y n4
           have:c'=c:=Option.some.inj ((cl1 y c' ec').symm.trans ec)
           subst this
           obtain ⟨o,ho,hd⟩:=cell
           refine .inr ⟨?_,c',ec',⟨o,old _ _ ho,hd⟩⟩
           have e3':(relabel scope X.env).names.lookup y=some .local\/(relabel scope X.env).names.lookup y=some .cell\/(relabel scope X.env).names.lookup y=some .free:=e3
           rcases e3' with z | z | z
           ·exfalso
            have hm:=PySem.mem_of_lookup z
            obtain ⟨⟨n,k'⟩,hn,e⟩:=mem_map.mp hm
            dsimp only at e
            by_cases cc:(k'==NameKind.free&&X.env.scope.kind==.function&&X.env.kindOf n==some .cell)=true
            ·rw [if_pos cc] at e
             cases e
            ·rw [if_neg cc] at e
             cases e
             have l1:=S.loc _ hn rfl
             have l2:=lookup_relabel_local (env:=X.env) l1
             have f1:=S.free _ n4 rfl
             exact S.apart y l1 n4
           ·exact .inl z
           ·exact .inr z
     cell:=fun y c e=>by
      obtain ⟨v,o,ho,hd⟩:=I2.cell y c (cl1 y c e)
      exact ⟨v,o,old _ _ ho,hd⟩
     free:=by show upd H2 s2.heap.objs.size (.lst []) P2.objs.size=none;rw [zah (Ne.symm hDC)];exact hCn
     freeC:=fun y c e=>by
      obtain ⟨v,o,ho,hd⟩:=I2.cell y c (cl1 y c e)
      rw [zah (below c (Heap.lt_size ho)).2]
      exact I2.freeC y c (cl1 y c e)
     pin:=fun p hp=>by simp at hp
     hok:=hokD
     len:=by show (none::caps σ js).length=N.length;rw [S.len];simp [caps] }
  have st3:tn 0 h₁:=T.keep 0 _ _ st2 fun b _ o e=>old b o e
  have fr3:∀b∈fp,(upd H2 s2.heap.objs.size (.lst [])) b=none:=fun b hb=>by
   rw [zah (below b (fpl b hb)).2]
   exact (f2 b hb).1
  have stat:∀ {H':Hp},(∀b∈fp,H' b=none)->∀b∈fp,FpOk (zbJ X N scope cl P2.objs.size s2 H2 fp) [] H' b:=fun hn b hb=>
   ⟨hn b hb,(below b (fpl b hb)).1,yok.exfs b hb,.inl hb,fun y c e=>(f2 b hb).2.2.2.2.1 y c (cl1 y c e),fun p hp=>by simp at hp⟩
  have pgn:PG (zbJ X N scope cl P2.objs.size s2 H2 fp) (.Name x px) (zoh 0):=zbN S.nd S.head (.inl (lookup_relabel_local S.own)) (.inr (lookup_relabel_local S.own))
  have loop:∀s₃:Shared,s₃ = { s2 with heap:=h₁,toks:=s2.toks+([]:List (Str × Value)).length }->
    codeAny (model X.prog X.w) X.A (.compLoop (.ListComp elt [⟨.Name x px,iter,ifs,0⟩] scope pos) 0 (.ref it) (.ref s2.heap.objs.size) (compEnvC scope cl P2.objs.size X.env))
     (compPost (model X.prog X.w) X.A X.xe use QQ (.ref s2.heap.objs.size) P2.objs.size) s₃:=by
   rintro s₃ rfl
   refine codeAny_loop rfl (fun n s'=>∃i o acc H',Inv (zbJ X N scope cl P2.objs.size s2 H2 fp) [] (o::caps σ js) H' s'/\tn i s'.heap/\(∀b∈fp,H' b=none)/\W i n acc H') ?_ m0 ⟨0,none,[],_,I3,st3,fr3,w0⟩
   rintro n s4 ⟨i,o,acc,H4,I4,st4,fr4,w4⟩
   show wpAny _ X.A ((compTurn (.ListComp elt [⟨.Name x px,iter,ifs,0⟩] scope pos) 0 (.ref it) (.ref s2.heap.objs.size) (compEnvC scope cl P2.objs.size X.env)).onRaise (fun x=>do noteFrame x (compEnvC scope cl P2.objs.size X.env);theTreesLotGoes x)) _ _ s4
   refine wpAny_noted ?_
   rw [compTurn_list]
   refine wpAny_bind (wpAny_standAt (wpAny_bind ?_))
   obtain ⟨hD4,hz4,alt⟩:=turn i n acc H4 w4
   rcases alt with ⟨stop,qn⟩ | ⟨go,step⟩
   ·refine thn (T.done (zbJ X N scope cl P2.objs.size s2 H2 fp) rfl rfl rfl hc i [] s4 _ H4 _ I4 (stat fr4) st4 stop) fun r s5 ⟨hr,I5⟩=>?_
    subst hr
    refine wpAny_pure ?_
    exact fin hC rfl below I2 f2 I5 qn _
   ·refine thn (T.item (zbJ X N scope cl P2.objs.size s2 H2 fp) rfl rfl rfl hc i [] s4 _ H4 _ I4 (stat fr4) st4 go) fun r s5 ⟨u,hr,h5⟩=>?_
    subst hr
    refine wpAny_bind (thn h5 fun _ s6 ⟨y,H6,I6,r6,y6,st6,fr6⟩=>?_)
    have I6':=I6.pinned (stat fr6) (T.obj _ _ st6)
    refine wpAny_bind (wpAny_mono (pgn _ s6 (o::caps σ js) H6 y u (fun σ' H' => σ'=some y::caps σ js/\H'=H6) I6' r6 ⟨rfl,rfl⟩) (fun _ s7 ⟨σ7,H7,I7,e7,e8⟩=>?_) fun _ _ z=>z.elim)
    subst e7 e8
    have back:∀ {s9:Shared} {H9:Hp} {acc9:List V} {m9:Nat},Inv (zbJ X N scope cl P2.objs.size s2 H2 fp) ([]++zil fp s6.heap) (some y::caps σ js) H9 s9->m9<n->W (i+1) m9 acc9 H9->
      ∃m,m<n/\∃i o acc H',Inv (zbJ X N scope cl P2.objs.size s2 H2 fp) [] (o::caps σ js) H' s9/\tn i s9.heap/\(∀b∈fp,H' b=none)/\W i m acc H':=fun {s9 H9 acc9 m9} I9 hm w9=>by
     refine ⟨m9,hm,i+1,some y,acc9,H9,I9.unpinned,T.keep _ _ _ st6 fun b hb o e=>(I9.pin (b,o) (mem_append_right _ (mem_append_right _ (zdo hb e)))).1,fun b hb=>?_,w9⟩
     obtain ⟨o,e,d⟩:=T.obj _ _ st6 b hb
     exact (I9.pin (b,o) (mem_append_right _ (mem_append_right _ (zdo hb e)))).2.1
    refine wpAny_bind (wpAny_mono (ht cl _ s2 H2 fp _ s7 _ _ _ I7 (step y _ y6)) (fun ok s8 ⟨H8,I8,q8⟩=>?_) fun _ _ z=>z.elim)
    cases ok with
    | false=>
      obtain ⟨m9,hm,w9⟩:=q8
      exact wpAny_pure ⟨rfl,back I8 hm w9⟩
    | true=>
      refine wpAny_bind (wpAny_bind (wpAny_mono (he cl _ s2 H2 fp _ s8 _ _ _ I8 q8) (fun xv s9 ⟨v9,H9,I9,r9,hD9,q9⟩=>?_) fun _ _ z=>z.elim))
      refine wpAny_bind (wpAny_mono (ziD (X:=zbJ X N scope cl P2.objs.size s2 H2 fp) _ s9 _ H9 (.ref s2.heap.objs.size) [v9] (.ref s2.heap.objs.size) [xv] (fun _ H'=>H'=upd H9 s2.heap.objs.size (.lst (acc++[v9]))) I9 rfl (.cons r9 .nil) ⟨_,acc,v9,rfl,rfl,hD9,hz4,rfl⟩) (fun _ s10 ⟨v10,H10,I10,_,e10⟩=>?_) fun _ _ z=>z.elim)
      subst e10
      obtain ⟨m9,hm,w9⟩:=q9 _ (fun b o hb e=>by rw [zah hb];exact e) zam
      exact wpAny_pure (wpAny_pure ⟨rfl,back I10 hm w9⟩)
  exact codeAny_compStart_list (loop _ rfl) (T.self _ 0 _ _ _ st3 (loop _ rfl))
theorem zbd {X:Cx} {iter elt:Expr} {x:Str} {px:Pos} {ifs:List Expr} {scope:Scope} {pos:Pos} {wi:TI} {N:List Str} {js:List Nat} {tc:TT} {te:TE}
  (hc:X.calm=true) (S:CompScope X scope x N js) (hi:PI X (.Name x px) iter wi)
  (ht:∀cl C s₀ H₀ ex,ziG (zbJ X N scope cl C s₀ H₀ ex) ifs tc) (he:∀cl C s₀ H₀ ex,PE (zbJ X N scope cl C s₀ H₀ ex) elt te)
  (hs:∀x,foldedSetIterable iter X.env x=pure x:=by intro _;rfl):
  PE X (.ListComp elt [⟨.Name x px,iter,ifs,0⟩] scope pos) (zqo wi js tc te):=by
 with_unfolding_all
  intro ai s σ H Q I h
  rw [eval_ListComp]
  refine ziH hc S hi ht he hs I h fun {cl C D s2 s5 H2 H4 fp o} hC hD below I2 f2 I5 qn a=>?_
  obtain ⟨m5,n5,_⟩:=I5.loc
  refine ⟨m5,n5,fun h' sb=>⟨.ref D,H4,?_,rfl,qn⟩⟩
  have k5:∀b o,b≠C->s5.heap.get? b=some o->h'.get? b=some o:=fun b o hb e=>sb.extBut b o hb e
  have u5:=I5.bf
  have nC:∀b o,s2.heap.get? b=some o->b≠C:=fun b o e=>(below b (Heap.lt_size e)).1
  refine I2.call' (s' := { s5 with heap:=h' }) (ch:=fp) I5.os ?_ ?_ I5.bare fun b hb=>⟨(f2 b hb).2.2.2.1,(f2 b hb).2.1,(f2 b hb).2.2.2.2.1,(f2 b hb).2.2.2.2.2⟩
  ·refine ⟨fun b o e n1 n2 n3=>k5 b o (nC b o e) (u5.keep b o e n1 n2 n3),fun b o e n1 n2 n3=>?_,u5.free,fun b o e n3=>?_,u5.tups,u5.frzs,u5.tbls⟩
   ·obtain ⟨sl,z⟩:=u5.slot b o e n1 n2 n3
    exact ⟨sl,k5 b _ (nC b o e) z⟩
   ·obtain ⟨o',z⟩:=u5.there b o e n3
    exact ⟨o',k5 b o' (nC b o e) z⟩
  ·intro b u e
   refine (I5.hok b u e).stay (fun c v hc q=>k5 c v ?_ q) (fun _ q=>q) (fun _ _ q=>q) fun _ _ _ q=>q
   rintro rfl
   rcases hc with z | z
   ·rw [<-z,show H4 c=none from I5.free] at e;cases e
   ·have:=I5.free
    rw [show H4 c=none from I5.free] at z
    cases z
end
end L2
namespace M1
def gd (x y:Int):Int:=((Int.gcd x y:Nat):Int)
theorem gd_zero {x:Int} (h:0<=x):gd x 0=x:=by
 unfold gd
 rw [Int.gcd_zero_right]
 omega
theorem gd_step {x y:Int}:gd y (x % y)=gd x y:=by
 unfold gd
 have e:x % y=x+y*(-(x / y)):=by
  rw [Int.mul_neg,Int.emod_def]
  omega
 rw [Int.gcd_comm y,e,Int.gcd_add_mul_left_left]
theorem gd_abs (x y:Int):gd (if x<0 then -x else x) y=gd x y:=by
 unfold gd
 split
 ·rw [Int.neg_gcd]
 ·rfl
theorem gd_pos {x y:Int} (h:0<y):0<gd x y:=by
 have:0<Int.gcd x y:=Int.gcd_pos_of_ne_zero_right x (by omega)
 unfold gd
 omega
theorem zfu (x y:Int):gd x y∣y:=Int.gcd_dvd_right x y
theorem gd_le {x y:Int} (h:0<y):gd x y<=y:=Int.le_of_dvd h (zfu x y)
theorem low_bot {t b:Int} (h:0<b):1<=b / gd t b:=by
 have g:=gd_pos (x:=t) h
 have d:=Int.ediv_mul_cancel (zfu t b)
 by_cases q:b / gd t b<1
 ·have:=Int.mul_le_mul_of_nonneg_right (a:=b / gd t b) (b:=0) (c:=gd t b) (by omega) (by omega)
  omega
 ·omega
theorem low_bot_le {t b:Int} (h:0<b):b / gd t b<=b:=Int.ediv_le_self (gd t b) (by omega)
end M1
namespace M2
open PySem PySem.NumText
end M2
namespace L2
open PySem PySem.Spec PyProof.Rows
section
def Its (x:Str):It:=⟨fun i _=>i<x.cps.size,fun i H v H'=>H'=H/\∃c,x.cps[i]?=some c/\v=.str ⟨#[c]⟩,fun i _=>x.cps.size<=i⟩
theorem zmA {P:Program} {w:World} {K:W.Frag} {tg:Expr} (x:Str) (t:Tok) (it:Addr):Turn P w K tg (Its x) [it] it (fun i h=>h.IsStrIter it "str_ascii_iterator" x t i) where
 mem:=by simp
 obj:=fun i h st b hb=>by
  have e:b=it:=by simpa using hb
  subst e
  obtain ⟨o,e,c,d⟩:=st
  exact ⟨o,e,fun v z=>by rw [d] at z;cases z⟩
 keep:=fun i h h' st k=>let ⟨o,ho,r⟩:=st;⟨o,k it (by simp) o ho,r⟩
 item:=by
  intro X hP hw hK hc i ai s σ H E I hf st hg
  subst hP hw hK
  have hg:i<x.cps.size:=hg
  obtain ⟨f0,f1,f2,f3,f4,f5⟩:=hf it (by simp)
  refine wpAny_pyNext_ascii_item st (c:=x.cps[i]) (by simp [hg]) fun h' st' sb=>?_
  have I1:Inv X ai σ H { s with heap:=h',toks:=s.toks+1 }:=I.turned (fun b o hb e=>(sb.2 b hb).trans e) f0 f1 f3 f4 f5
  obtain ⟨o,e,c,d⟩:=id st'
  exact ⟨_,rfl,zlh (s := { s with heap:=h',toks:=s.toks+1 }) e c d (by decide) ⟨.str ⟨#[x.cps[i]]⟩,H,I1,⟨_,rfl⟩,⟨rfl,_,by simp [hg],rfl⟩,st',fun b hb=>(hf b hb).1⟩⟩
 done:=by
  intro X hP hw hK hc i ai s σ H E I hf st hg
  subst hP hw hK
  have hg:x.cps.size<=i:=hg
  obtain ⟨f0,f1,f2,f3,f4,f5⟩:=hf it (by simp)
  exact wpAny_pyNext_ascii_end (I.ok.hd hc) st (by simp;omega) fun h' eb=>⟨rfl,I.turned (t':=s.toks) (fun b o hb e=>eb b o hb e) f0 f1 f3 f4 f5⟩
 self:=fun _ _ _ _ _ st h=>wpAny_pyIter_striter_ascii st h
theorem zmB {P:Program} {w:World} {K:W.Frag} {tg:Expr} (x:Str) (t:Tok) (it:Addr):Turn P w K tg (Its x) [it] it (fun i h=>h.IsStrIter it "str_iterator" x t i) where
 mem:=by simp
 obj:=fun i h st b hb=>by
  have e:b=it:=by simpa using hb
  subst e
  obtain ⟨o,e,c,d⟩:=st
  exact ⟨o,e,fun v z=>by rw [d] at z;cases z⟩
 keep:=fun i h h' st k=>let ⟨o,ho,r⟩:=st;⟨o,k it (by simp) o ho,r⟩
 item:=by
  intro X hP hw hK hc i ai s σ H E I hf st hg
  subst hP hw hK
  have hg:i<x.cps.size:=hg
  obtain ⟨f0,f1,f2,f3,f4,f5⟩:=hf it (by simp)
  refine wpAny_pyNext_wide_item st (c:=x.cps[i]) (by simp [hg]) fun h' st' sb=>?_
  have I1:Inv X ai σ H { s with heap:=h',toks:=s.toks+1 }:=I.turned (fun b o hb e=>(sb.2 b hb).trans e) f0 f1 f3 f4 f5
  obtain ⟨o,e,c,d⟩:=id st'
  exact ⟨_,rfl,zlh (s := { s with heap:=h',toks:=s.toks+1 }) e c d (by decide) ⟨.str ⟨#[x.cps[i]]⟩,H,I1,⟨_,rfl⟩,⟨rfl,_,by simp [hg],rfl⟩,st',fun b hb=>(hf b hb).1⟩⟩
 done:=by
  intro X hP hw hK hc i ai s σ H E I hf st hg
  subst hP hw hK
  have hg:x.cps.size<=i:=hg
  obtain ⟨f0,f1,f2,f3,f4,f5⟩:=hf it (by simp)
  exact wpAny_pyNext_wide_end (I.ok.hd hc) st (by simp;omega) fun h' eb=>⟨rfl,I.turned (t':=s.toks) (fun b o hb e=>eb b o hb e) f0 f1 f3 f4 f5⟩
 self:=fun _ _ _ _ _ st h=>wpAny_pyIter_striter_wide st h
section
variable {X:Cx} {tg:Expr}
def iStr (tl:TE):TI:=fun σ H R=>tl σ H fun v H1=>∃x,v=.str x/\R (Its x) H1
theorem zrF {l:Expr} {tl:TE} (hl:PE X l tl):PI X tg l (iStr tl):=by
 with_unfolding_all
  intro ai s σ H R I h
  refine thn (hl ai s σ H _ I h) fun v s1 ⟨y,H1,I1,r1,q1⟩=>?_
  obtain ⟨x,e,q⟩:=q1
  subst e
  obtain ⟨t,rfl⟩:=r1
  have fin:∀b,b∈[s1.heap.objs.size]->FpOk X ai H1 b:=fun b hb=>by
   have e:b=s1.heap.objs.size:=by simpa using hb
   subst e
   exact I1.fpOk (Nat.le_refl _) (I1.hok.fresh (Nat.le_refl _))
  cases ha:x.cps.all (· < 128) with
  | true=>exact wpAny_pyIter_ascii ha ⟨s1.heap.objs.size,[s1.heap.objs.size],_,_,H1,rfl,I1.kept (t':=s1.toks) fun b o e=>Heap.get?_push_of_some _ e,zmA x t _,⟨_,Heap.get?_push_size _ rfl,rfl,rfl⟩,fin,q⟩
  | false=>exact wpAny_pyIter_wide ha ⟨s1.heap.objs.size,[s1.heap.objs.size],_,_,H1,rfl,I1.kept (t':=s1.toks) fun b o e=>Heap.get?_push_of_some _ e,zmB x t _,⟨_,Heap.get?_push_size _ rfl,rfl,rfl⟩,fin,q⟩
theorem zou {x:Str} {js:List Nat} {tc:TT} {te:TE} {σ:St} {H1:Hp} {Q:VK} (p:Nat->Bool) (f:Nat->V)
  (ht:∀c Hh (Q':Bool->Hp->Prop),Q' (p c) Hh->tc (some (.str ⟨#[c]⟩)::caps σ js) Hh Q') (he:∀c Hh (Q':VK),Q' (f c) Hh->te (some (.str ⟨#[c]⟩)::caps σ js) Hh Q')
  (hz:x.length<sizeLine) (q:∀D H2,Same H1 H2->H2 D=some (.lst ((x.cps.toList.filter p).map f))->Q (.ref D) H2):
  zfs (Its x) js tc te σ H1 Q:=by
 intro D H2 s2 hD h2
 refine ⟨fun i m acc H3=>m=x.cps.size-i/\i<=x.cps.size/\acc=((x.cps.toList.take i).filter p).map f/\Same H1 H3/\H3 D=some (.lst acc),⟨_,rfl,Nat.zero_le _,by simp,s2,h2⟩,?_⟩
 rintro i m acc H3 ⟨rfl,hi,ea,s3,h3⟩
 have hl:acc.length<=x.length:=by
  rw [ea,length_map]
  refine Nat.le_trans (length_filter_le _ _) ?_
  rw [length_take]
  exact Nat.le_trans (Nat.min_le_right _ _) (Nat.le_of_eq Array.length_toList)
 refine ⟨h3,by omega,?_⟩
 by_cases hlt:i<x.cps.size
 ·refine .inr ⟨hlt,fun y H4 z=>?_⟩
  obtain ⟨e,c,hc,ey⟩:=z
  subst e ey
  have hc':x.cps.toList[i]?=some c:=by rw [Array.getElem?_toList];exact hc
  refine ht c _ _ ?_
  have tk:(x.cps.toList.take (i+1)).filter p=(x.cps.toList.take i).filter p++(if p c=true then [c] else []):=take_succ_filter p _ i c hc'
  cases hp:p c with
  | true=>
    refine iteT (he c _ _ ⟨h3,fun H7 k7 h7=>⟨x.cps.size-(i+1),by omega,rfl,hlt,?_,fun b o e=>?_,h7⟩⟩)
    ·rw [tk,hp,if_pos rfl,map_append,<-ea]
     rfl
    ·by_cases hb:b=D
     ·subst hb
      rw [hD] at e
      cases e
     ·exact k7 b o hb (s3 b o e)
  | false=>
    refine iteF ⟨x.cps.size-(i+1),by omega,rfl,hlt,?_,s3,h3⟩
    rw [tk,hp,if_neg Bool.false_ne_true,append_nil]
    exact ea
 ·have e:i=x.cps.size:=by omega
  subst e
  refine .inl ⟨Nat.le_refl _,?_⟩
  have et:x.cps.toList.take x.cps.size=x.cps.toList:=List.take_of_length_le (Nat.le_of_eq Array.length_toList)
  rw [et] at ea
  rw [ea] at h3
  exact q D _ s3 h3
def rSlS:V->Option Int->Option Int->Hp->VK->Prop:=fun v lo hi H Q=>∃x,v=.str x/\x.length<=sizeLine/\Q (.str (Txt.slice x lo hi)) H
theorem zrG:SlR X rSlS:=by
 intro ai s σ H v u vl vu lo hi sl Q I rx hs pl pu h
 obtain ⟨x,rfl,hz,q⟩:=h
 obtain ⟨t,rfl⟩:=rx
 refine ⟨"str",_,F.slot_str_getitem.lookup,typeIs_str _ _ _,?_⟩
 have fin:∀(t':Tok) (k:Nat),EP X ai σ Q (.str (Txt.slice x lo hi) t') { s with toks:=k }:=fun t' k=>⟨.str _,H,I.tok k,⟨_,rfl⟩,q⟩
 cases pl with
 | none=>
   cases pu with
   | none=>exact wpAny_getItem_str_slice (l:=none) (u:=none) (st:=none) hs rfl (post_val_or_str ⟨Nat.le_trans (Txt.slice_le x _ _) hz,fun t' k=>fin t' k⟩)
   | int j tj=>exact wpAny_getItem_str_slice (l:=none) (u:=some (j,tj)) (st:=none) hs rfl (post_val_or_str ⟨Nat.le_trans (Txt.slice_le x _ _) hz,fun t' k=>fin t' k⟩)
 | int i ti=>
   cases pu with
   | none=>exact wpAny_getItem_str_slice (l:=some (i,ti)) (u:=none) (st:=none) hs rfl (post_val_or_str ⟨Nat.le_trans (Txt.slice_le x _ _) hz,fun t' k=>fin t' k⟩)
   | int j tj=>exact wpAny_getItem_str_slice (l:=some (i,ti)) (u:=some (j,tj)) (st:=none) hs rfl (post_val_or_str ⟨Nat.le_trans (Txt.slice_le x _ _) hz,fun t' k=>fin t' k⟩)
theorem ziI:OpR X (compareOp .LtE) (fun x y H Q=>∃i j,x=.str i/\y=.str j/\Q (.bl (!decide (j.cps.toList<i.cps.toList))) H):=by
 intro ai s σ H x y v u Q I rx ry h
 obtain ⟨i,j,rfl,rfl,q⟩:=h
 obtain ⟨t,rfl⟩:=rx
 obtain ⟨t',rfl⟩:=ry
 exact PySem.P.le_str (zaN I q rfl)
theorem zmC (bs:List Bool):(List.range bs.length).all (fun i=>(bs[i]?).getD true)=bs.all id:=by
 induction bs with
 | nil=>rfl
 | cons b r ih=>
   rw [length_cons,range_succ_eq_map,all_cons,List.all_map,all_cons,<-ih]
   rfl
theorem ziJ (hc:X.calm=true):zcE X (.builtin "all") (fun xs H Q=>∃(p:Addr) (bs:List Bool),xs=[.ref p]/\SqL X.K H p (bs.map V.bl)/\Q (.bl (bs.all id)) H):=by
 intro ai s σ H xs us Q I r h
 obtain ⟨p,bs,rfl,hq,q⟩:=h
 obtain ⟨u,rfl,ru⟩:=zeE r
 cases ru
 obtain ⟨its,rv,pl,hz⟩:=I.list hq
 have lt:p<s.heap.objs.size:=by
  obtain ⟨o,ho,_⟩:=pl.isList
  exact Heap.lt_size ho
 have hl:its.toArray.size=bs.length:=by
  have:=rv.length
  simp at this ⊢
  omega
 refine call_all_walk (wpAny_pyIter_list pl.isList ?_)
 refine ⟨s.heap.objs.size,_,_,_,_,_,fun i=>(bs[i]?).getD true,rfl,Walks.list (prog:=X.prog) (w:=X.w) (A:=X.A.in1) (show X.A.in1.handled=none from I.ok.hd hc) _ p (Nat.ne_of_lt lt) its.toArray,⟨⟨_,Heap.get?_push_size _ rfl,rfl,rfl⟩,pl.isList.at fun o e=>Heap.get?_push_of_some _ e⟩,fun i v s' Q' E' hP hQ'=>?_,fun h' tk kk=>?_⟩
 ·have hP':its[i]?=some v:=by simpa using hP
  cases e:bs[i]? with
  | none=>
    have h1:its.length<=i:=by
     have h2:=List.getElem?_eq_none_iff.mp e
     simp at hl
     omega
    rw [getElem?_eq_none h1] at hP'
    cases hP'
  | some b=>
    dsimp only at hQ'
    rw [e] at hQ'
    obtain ⟨u,hu,ru⟩:=rv.get (i:=i) (x:=.bl b) (by rw [getElem?_map,e];rfl)
    rw [hP'] at hu
    cases hu
    cases (show v=Value.bool b from ru)
    exact wpAny_truthy_bool hQ'
 ·rw [hl,zmC]
  refine ⟨.bl _,H,I.kept (t':=tk) (h':=h') fun b o e=>kk b o ?_ (Heap.get?_push_of_some _ e),rfl,q⟩
  intro z
  have z:b=s.heap.objs.size:=by simpa using z
  exact Nat.ne_of_lt (Heap.lt_size e) z
end
theorem zqp (x:Str):x.cps.toList.length=x.length:=Array.length_toList
theorem lt_1 (c a:Nat):decide ([c]<[a])=decide (c<a):=by
 rw [Bool.eq_iff_iff,decide_eq_true_iff,decide_eq_true_iff,List.cons_lt_cons_iff]
 simp
theorem le_1 {x y:Str} {c a:Nat} (hx:x.cps.toList=[c]) (hy:y.cps.toList=[a]):(!decide (y.cps.toList<x.cps.toList))=decide (c<=a):=by
 rw [hx,hy,lt_1]
 rw [Bool.eq_iff_iff]
 simp
theorem zrH {n:Nat} (h:n<=1000):n<=sizeLine:=sz n h
end
end L2
namespace L2
open PySem PySem.Spec PyProof.Rows
section
abbrev TJ:=Str->St->Hp->VK->Prop
section
variable {X:Cx} {e:Expr} {es:List Expr} {te:TE} {t:TJ} {pos:Pos}
structure Box (P:Prop):Prop where
 un:P
end
end
end L2
namespace PySem
open Sem (wp)
section
variable {prog:Program} {w:World} {A:Around} {E:Value->Shared->Prop} {h:Heap} {g:Array GenState} {d:Drawn} {t:Nat} {os:OsState}
variable {nm q:Str} {C N:Addr} {bs bm bmB:List Value} {hdct:Bool} {sn:List Str} {sub:List Value} {ab:Bool} {col:Option Bool} {dd:Option Addr} {k0 k1 k2 k3 k5:Option Value} {B newId initId:String}
theorem ziK (F:ExcBaseFacts B newId initId bmB) (T:OwnTail h bmB bm) {mN:Str->Option Value} {rest:List Value} {fI:Addr} {oI:Obj} {Q:Fin->Shared->Prop}
  (hC:h.get? C=some (excClassObj nm q C N bs bm hdct sn sub ab col dd k0 k1 k2 k3 k5 newId)) (hn:h.Ns N mN) (hi:mN "__init__" = some (.ref fI))
  (hfI:h.get? fI=some oI) (hfc:oI.cls=.type "function")
  (hq:∀h' e,Heap.MadeExcOf h h' e (.ref C) rest->
    wpAny (model prog w) A (call (.ref fI) (.ref e::rest)) (fun r s'=>r=.none/\Q (.done (.ret (.ref e))) s') E ⟨h',g,d,t,os⟩) (hrest:rest.length<=sizeLine:=by size_fits):
  wpAny (model prog w) A (Builtin.«type.__call__» ⟨.ref C::rest,[]⟩) Q E ⟨h,g,d,t,os⟩:=by
 repeat (first | with_reducible refine wpAny_loadPart_at hC ?_ | with_reducible refine wpAny_madeBy_exc hC ?_ | wp_step)
 refine codeAny_call_builtin_code (Code.quiet_builtin _ F.quiet) (wpAny_check_new_subT F T hC ?_)
 refine codeAny_exc_new_subT F T hC ?_ hrest
 show wpAny _ _ _ _ _ _
 have hC₁:=Heap.get?_push_of_some { cls:=.ref C,data:=.fields #[.ref h.objs.size,.none,.none,.none,.bool false,.none] }
  (Heap.get?_push_of_some { cls:=.type "tuple",data:=.seq rest.toArray } hC)
 have hfI₁:=Heap.get?_push_of_some { cls:=.ref C,data:=.fields #[.ref h.objs.size,.none,.none,.none,.bool false,.none] }
  (Heap.get?_push_of_some { cls:=.type "tuple",data:=.seq rest.toArray } hfI)
 have hn₁:((h.push { cls:=.type "tuple",data:=.seq rest.toArray }).push { cls:=.ref C,data:=.fields #[.ref h.objs.size,.none,.none,.none,.bool false,.none] }).Ns N mN:=
  let ⟨o,es,ep,e,r⟩:=hn;⟨o,es,ep,Heap.get?_push_of_some _ (Heap.get?_push_of_some _ e),r⟩
 have hget:((h.push { cls:=.type "tuple",data:=.seq rest.toArray }).push
  { cls:=.ref C,data:=.fields #[.ref h.objs.size,.none,.none,.none,.bool false,.none] }).get? (h.objs.size+1)=some
  { cls:=.ref C,data:=.fields #[.ref h.objs.size,.none,.none,.none,.bool false,.none] }:=by heap_get
 have hcC:(Value.ref C::bm).contains (.ref C)=true:=by simp
 have T₁:=T.keeps (h':=(h.push { cls:=.type "tuple",data:=.seq rest.toArray }).push { cls:=.ref C,data:=.fields #[.ref h.objs.size,.none,.none,.none,.bool false,.none] })
  fun b o e=>Heap.get?_push_of_some _ (Heap.get?_push_of_some _ e)
 unfold isInstance
 repeat (first | with_reducible refine wpAny_loadPart_at hget ?_ | (with_reducible refine wpAny_isSubtype_exc hC₁ ?_;rw [hcC]) | wp_step)
 show wpAny _ _ (typeLookup (.ref C) _) _ _ _
 refine wpAny_typeLookup_tail hC₁ hn₁ T₁ F.mroIs F.init.lookup ?_
 rw [hi]
 refine wpAny_holding (wpAny_bind ?_)
 unfold bindSpecial
 refine wpAny_bind (wpAny_typeOf (T := "function") ⟨_,hfI₁,hfc⟩ ?_)
 rw [if_pos (by decide)]
 refine wpAny_pure (wpAny_bind (wpAny_mono (hq _ (h.objs.size+1) ⟨fun b o hb=>Heap.get?_push_of_some _ (Heap.get?_push_of_some _ hb),Heap.get?_none_of_le (Nat.le_succ _),h.objs.size,hget,Heap.get?_none_of_le (Nat.le_refl _),?_⟩) (fun r s' hr=>?_) fun _ _ x=>x))
 ·exact Heap.get?_push_of_some _ (Heap.get?_push_at rfl rfl)
 ·obtain ⟨rfl,hQ⟩:=hr
  wp_walk
  exact hQ
theorem zqq (F:ExcBaseFacts B newId initId bmB) (T:OwnTail h bmB bm) {mN:Str->Option Value} {rest:List Value} {fI:Addr} {oI:Obj} {Q:Value->Shared->Prop}
  (hC:h.get? C=some (excClassObj nm q C N bs bm hdct sn sub ab col dd k0 k1 k2 k3 k5 newId)) (hn:h.Ns N mN) (hi:mN "__init__" = some (.ref fI))
  (hfI:h.get? fI=some oI) (hfc:oI.cls=.type "function")
  (hq:∀h' e,Heap.MadeExcOf h h' e (.ref C) rest->
    wpAny (model prog w) (A.under (.builtin "type.__call__" ⟨.ref C::rest,[]⟩)) (call (.ref fI) (.ref e::rest)) (fun r s'=>r=.none/\Q (.ref e) s') E ⟨h',g,d,t,os⟩) (hrest:rest.length<=sizeLine:=by size_fits):
  wpAny (model prog w) A (call (.ref C) rest) Q E ⟨h,g,d,t,os⟩:=by
 have f1:=tc_lookup
 have f2:=tc_bind (.ref C)
 have hT:(⟨h,g,d,t,os⟩:Shared).TypeIs (.ref C) "type" := ⟨_,hC,rfl⟩
 refine wpAny_call (codeAny_of_tree ?_)
 show wpAny _ _ (callAny (.ref C) _) _ _ _
 repeat (any_goals (first | assumption | with_reducible refine wpAny_loadPart_at hC ?_ | wp_step))
 refine ⟨rfl,?_⟩
 refine codeAny_call_builtin_at (Code.quiet_builtin _ (by decide +kernel)) entry_typeCall (wpAny_check_type_call_sub hC (ziK (hrest:=hrest) F T hC hn hi hfI hfc fun h' e hm=>?_))
 exact hq h' e hm
end
end PySem
namespace PySem.W
open PySem PySem.Spec PySem.Calls PyProof.Rows Builtin Builtin.ObjectAttr
def bmVE:List Value:=[.type "ValueError",.type "Exception",.type "BaseException",.type "object"]
def zkC:List Value->Bool
 | .ref _::r=>zkC r
 | l=>l==bmVE
def xcIn (K:Frag) (C:Addr) (ini:Option Addr):Bool:=match K.lookup C with
 | some ⟨.type "type",_,.cls cd,sl⟩=>(match cd.mro,sl.toList with
   | .ref C'::bm,[_,_,_,_,some (.builtin n),_]=>C'==C&&n == "ValueError.__new__" && !cd.hasDel&&cd.hasDict&&tailIn K bmVE bm&&zkC bm&&nsOkIn K cd.ns&&nsIn K cd.ns "__init__" == some (ini.map .ref)
   | _,_=>false)
 | _=>false
structure XcAt (h:Heap) (C:Addr) (ini:Option Addr):Prop where
 ex:∃nm q N bs bm sn sub ab col dd k0 k1 k2 k3 k5 mN,h.get? C=some (excClassObj nm q C N bs bm true sn sub ab col dd k0 k1 k2 k3 k5 "ValueError.__new__")/\h.Ns N mN/\mN "__init__" = ini.map .ref/\OwnTail h bmVE bm/\zkC bm=true
theorem zfB {K:Frag} {h:Heap} {N:Addr} {x:Str} {v:Value} (X:K.In h) (e:nsOkIn K N=true) (q:nsIn K N x=some (some v)):h.nsMap N x=some v:=by
 have G:h.Ns N (h.nsMap N):=.of_isNs (isNs_of_in X e)
 obtain ⟨o,es,ep,ho,hd,_,hf⟩:=G
 unfold nsIn at q
 split at q
 ·rename_i c d es' n' sl q'
  have:=X _ _ q'
  rw [ho] at this
  cases this
  cases hd
  split at q
  ·rename_i en he
   cases q
   rw [<-hf]
   unfold nsFind findBy
   rw [<-Array.find?_toList,he]
   rfl
  ·split at q<;>cases q
 ·cases q
theorem xc_of {K:Frag} {h:Heap} {C:Addr} {ini:Option Addr} (X:K.In h) (q:xcIn K C ini=true):XcAt h C ini:=by
 unfold xcIn at q
 split at q
 ·rename_i dd cd sl ho
  split at q
  ·rename_i C' bm k0 k1 k2 k3 n k5 hm hs
   simp only [Bool.and_eq_true,beq_iff_eq,Bool.not_eq_true'] at q
   obtain ⟨⟨⟨⟨⟨⟨⟨rfl,rfl⟩,hdel⟩,hdc⟩,ht⟩,hr⟩,hok⟩,hni⟩:=q
   obtain ⟨nm,bs,mro,ns,qn,hd,sn,sub,ab,col,del⟩:=cd
   dsimp only at hm hdel hok hni hdc
   subst hm hdel hdc
   have hsl:sl = #[k0,k1,k2,k3,some (.builtin "ValueError.__new__"),k5]:=by
    obtain ⟨l⟩:=sl
    simp only at hs
    rw [hs]
   subst hsl
   refine ⟨nm,qn,ns,bs,bm,sn,sub,ab,col,dd,k0,k1,k2,k3,k5,_,X _ _ ho,.of_isNs (isNs_of_in X hok),?_,tail_of_in X ht,hr⟩
   cases ini with
   | none=>exact nsMap_none_of_in X hok hni
   | some f=>exact zfB X hok hni
  ·cases q
 ·cases q
theorem fn_obj {K:Frag} {h:Heap} {f:Addr} (X:K.In h) (e:isFn K (.ref f)=true):∃o,h.get? f=some o/\o.cls=.type "function" := by
 have e':typeIn K (.ref f)=some (.type "function"):=beq_iff_eq.mp e
 obtain ⟨o,ho,z⟩:=Option.map_eq_some_iff.mp e'
 exact ⟨o,X _ _ ho,z⟩
theorem zgl (self:Value):∀ {l:List Value},zkC l=true->refuseLoop self "__setattr__" l=pure ()
 | [],e=>by cases e
 | .ref c::r,e=>by rw [refuseLoop_ref];exact zgl self (l:=r) e
 | .type n::r,e=>by rw [show (Value.type n::r)=bmVE from beq_iff_eq.mp e];exact PySem.F.store_ValueError.passes self
 | .none::r,e=>by cases (beq_iff_eq.mp e)
 | .bool _::r,e=>by cases (beq_iff_eq.mp e)
 | .int _ _::r,e=>by cases (beq_iff_eq.mp e)
 | .float _ _::r,e=>by cases (beq_iff_eq.mp e)
 | .str _ _::r,e=>by cases (beq_iff_eq.mp e)
 | .bytes _ _::r,e=>by cases (beq_iff_eq.mp e)
 | .builtin _::r,e=>by cases (beq_iff_eq.mp e)
end PySem.W
namespace PySem.W
open PySem PySem.Spec PySem.Calls PyProof.Rows Builtin Builtin.ObjectAttr
section
variable {prog:Program} {w:World} {A:Around} {K:Frag} {C x:Addr} {s:Shared} {R:Result->Shared->Prop}
theorem zov {ox:Obj} {od:Option Obj} {name:Str} {tk:Tok} {v:Value} {ini:Option Addr} (X:K.In s.heap) (I:InstAt s.heap x ox C od) (hx:xcIn K C ini=true) (ht:findIn K (.ref C) name=some none)
  (h:∀b,wpAny (model prog w) A.in1 (storeInOwnDict (.ref x) (.ref C) (.str name tk) name v b)
    (fun fin s'=>match fin with | .done f=>R (.ok f) s' | .again c'=>c'.quiet=true/\codeAny (model prog w) A c' R s') (fun e s'=>R (.error e) s') s):
  codeAny (model prog w) A (.call (.builtin "object.__setattr__") ⟨[.ref x,.str name tk,v],[]⟩) R s:=by
 have SF:=PySem.F.store_object
 obtain ⟨nm,q,N,bs,bm,sn,sub,ab,col,dd,k0,k1,k2,k3,k5,mN,hC,_,_,T,hr⟩:=(xc_of X hx).ex
 have hm:Looks (model prog w) s.heap (mroOf (.ref C)) (.ref C::bm):=fun A' Q' E' s' k z=>by
  obtain ⟨h0,g,d,t,os⟩:=s'
  exact wpAny_mroOf_exc (k _ _ hC) z
 have hob:(Value.ref C::bm).contains (.type "object")=true:=by rw [contains_cons,T.hasType (X := "object") (b:=true) (by decide +kernel),Bool.or_true]
 have sub:Looks (model prog w) s.heap (isInstance (.ref x) (.type "object")) true:=I.type.andThen (fun A' Q' E' s' k z=>by
  obtain ⟨h0,g,d,t,os⟩:=s'
  exact wpAny_isSubtype_exc (k _ _ hC) (by rw [hob];exact z))
 refine codeAny_call_builtin SF.slot.plain SF.entry (@check_slot (model prog w) _ _ s "object.__setattr__" "object" "__setattr__" (.ref x) [.str name tk,v] [] _ SF.kind SF.split sub (SF.args (.ref x) (.str name tk) v) ?_)
 rw [osa_eq,refuse_eq]
 refine wpAny_bind (wpAny_bind (I.type.here (wpAny_bind (hm.here ?_))))
 rw [refuseLoop_ref,zgl _ hr]
 refine wpAny_pure (wpAny_bind (I.type.here (wpAny_bind ((looks_findIn X ht).here (wpAny_bind (wpAny_pure ?_))))))
 exact h _
theorem xset {E:Value->Shared->Prop} {vs:Array Value} {name:Str} {v:Value} {ini:Option Addr} {Q:Unit->Shared->Prop} (X:K.In s.heap) (hx:s.heap.get? x=some { cls:=.ref C,data:=.fields vs }) (hi:xcIn K C ini=true)
  (hs:findIn K (.ref C) "__setattr__" = some (some (.builtin "object.__setattr__"))) (ht:findIn K (.ref C) name=some none)
  (h:∀h',h'.get? x=some { cls:=.ref C,dict:=some s.heap.objs.size,data:=.fields vs }->h'.Ns1 s.heap.objs.size (fun y=>if y=name then some v else none)->s.heap.objs.size<=h'.objs.size->
    (∀b o,b≠x->s.heap.get? b=some o->h'.get? b=some o)->Q () { s with heap:=h',toks:=s.toks+2 }):
  wpAny (model prog w) A (setAttr (.ref x) name v) Q E s:=by
 have I:InstAt s.heap x { cls:=.ref C,data:=.fields vs } C none:=⟨hx,rfl,rfl,True.intro⟩
 obtain ⟨nm,q,N,bs,bm,sn,sub,ab,col,dd,k0,k1,k2,k3,k5,mN,hC,_,_,T,hr⟩:=(xc_of X hi).ex
 refine set_plain X I hs (zov (s := { s with toks:=s.toks+1 }) X I hi ht fun b=>?_)
 have hcd:Looks (model prog w) s.heap (classData C) { name:=nm,bases:=bs,mro:=.ref C::bm,ns:=N,qualname:=q,hasDict:=true,slotNames:=sn,subclasses:=sub,abstract:=ab,collection:=col,hasDel:=false }:=(Looks.ld (part:=none) hC).andThen .now
 refine wpAny_bind (wpAny_pure (wpAny_bind (wpAny_bind (wpAny_loadPart hx (wpAny_bind (Looks.here (s := { s with toks:=s.toks+1 }) hcd ?_))))))
 have hxs:x≠s.heap.objs.size:=Nat.ne_of_lt (Heap.lt_size hx)
 have hx₁:(s.heap.push { cls:=.type "dict",data:=.dict #[] }).get? x=some { cls:=.ref C,data:=.fields vs }:=Heap.get?_push_of_some _ hx
 refine wpAny_bind (wpAny_alloc' ?_)
 refine wpAny_bind (wpAny_update' hx₁ ?_)
 refine wpAny_pure ?_
 have hgd:((s.heap.push { cls:=.type "dict",data:=.dict #[] }).update x fun o => { cls:=o.cls,dict:=some s.heap.objs.size,data:=o.data,slots:=o.slots }).get? s.heap.objs.size
   = some { cls:=.type "dict",data:=.dict #[] }:=
  (Heap.get?_update_ne _ _ _ _ hxs.symm).trans (Heap.get?_push_at rfl rfl)
 have hnd:((s.heap.push { cls:=.type "dict",data:=.dict #[] }).update x fun o => { cls:=o.cls,dict:=some s.heap.objs.size,data:=o.data,slots:=o.slots }).Ns s.heap.objs.size (fun _=>none):=
  ⟨_,#[],_,hgd,rfl,fun e he=>absurd he (by simp),fun _=>rfl⟩
 show wpAny _ _ (storeInDict s.heap.objs.size (.str name _) name v) _ _ _
 unfold storeInDict newKeyGuard
 refine wpAny_bind (wpAny_pure (wpAny_bind (wpAny_nsSet1 (Heap.Ns1.of_empty hnd) fun h' hn' hs'=>?_)))
 obtain ⟨oD,esD,epD,hoD,hdD,hcD⟩:=hn'.count (Within.cons name v Within.nil)
 refine wpAny_bind (wpAny_lookBehind hoD (by rw [hdD];exact pastItsLine_dict (Nat.le_trans hcD (by rw [length_cons,length_nil,sizeLine_eq];omega))) ?_)
 refine wpAny_pure (h h' ?_ hn' ?_ fun b o hb e=>?_)
 ·exact (hs'.2 x hxs).trans (Heap.get?_update_self _ hx₁ rfl)
 ·have:=Heap.lt_size hoD
  exact Nat.le_of_lt this
 ·exact (hs'.2 b (Nat.ne_of_lt (Heap.lt_size e))).trans ((Heap.get?_update_ne _ _ _ _ hb).trans (Heap.get?_push_of_some _ e))
end
end PySem.W
namespace PySem.W
open PySem PySem.Spec PySem.Calls PyProof.Rows Builtin Builtin.ObjectAttr
theorem zow:builtinKind "BaseException.__getattribute__" = some .slot:=by decide +kernel
theorem zmD:splitId "BaseException.__getattribute__" = some ("BaseException","__getattribute__"):=by decide +kernel
theorem zmE:plainId "BaseException.__getattribute__" = true:=PySem.F.excAttr_ValueError.ga.plain
theorem zrI0(self:Value) (name:Str) (tk:Tok):∃ f:Value→_,Builtin.«object.__getattribute__» ⟨[self,.str name tk],[]⟩=(typeOf self >>= fun tp=>find self tp name >>= fun r=>match r with
 | .value v=>ret v
 | .bind g a=>bindTo g a self tp
 | .missing=>f tp):=⟨_,rfl⟩
theorem zrI(self:Value) (name:Str) (tk:Tok):Builtin.«object.__getattribute__» ⟨[self,.str name tk],[]⟩=(typeOf self >>= fun tp=>find self tp name >>= fun r=>match r with
 | .value v=>ret v
 | .bind g a=>bindTo g a self tp
 | .missing=>(zrI0 self name tk).choose tp):=(zrI0 self name tk).choose_spec
section
variable {prog:Program} {w:World} {A:Around} {K:Frag} {C x:Addr} {s:Shared} {ox:Obj} {od:Option Obj} {name:Str} {ini:Option Addr}
theorem zta (X:K.In s.heap) (I:InstAt s.heap x ox C od) (hi:xcIn K C ini=true):Looks (model prog w) s.heap (isInstance (.ref x) (.type "BaseException")) true:=by
 obtain ⟨nm,q,N,bs,bm,sn,sub,ab,col,dd,k0,k1,k2,k3,k5,mN,hC,_,_,T,hr⟩:=(xc_of X hi).ex
 have hob:(Value.ref C::bm).contains (.type "BaseException")=true:=by rw [contains_cons,T.hasType (X := "BaseException") (b:=true) (by decide +kernel),Bool.or_true]
 exact I.type.andThen (fun A' Q' E' s' k z=>by
  obtain ⟨h0,g,d,t,os⟩:=s'
  exact wpAny_isSubtype_exc (k _ _ hC) (by rw [hob];exact z))
theorem zkD {R:Result->Shared->Prop} {tk:Tok} {r:Found} (X:K.In s.heap) (I:InstAt s.heap x ox C od) (hi:xcIn K C ini=true) (hf:findObj K C od name=some r)
  (h:wpAny (model prog w) A.in1 (match r with | .value v=>ret v | .bind g a=>bindTo g a (.ref x) (.ref C) | .missing=>noSuchAttribute (.ref x) name) (fun fin s'=>match fin with | .done f=>R (.ok f) s' | .again c'=>c'.quiet=true/\codeAny (model prog w) A c' R s') (fun e s'=>R (.error e) s') s)
  (hm:r≠.missing):
  codeAny (model prog w) A (.call (.builtin "BaseException.__getattribute__") ⟨[.ref x,.str name tk],[]⟩) R s:=by
 refine codeAny_call_builtin zmE PySem.F.entry_bexc_ga (@check_slot (model prog w) _ _ s "BaseException.__getattribute__" "BaseException" "__getattribute__" (.ref x) [.str name tk] [] _ zow zmD (zta X I hi) (PySem.F.args_bexc_ga (.ref x) (.str name tk)) ?_)
 rw [zrI]
 refine wpAny_bind (I.type.here (wpAny_bind ((looks_find X I hf).here ?_)))
 cases r with
 | value v=>exact h
 | bind g a=>exact h
 | missing=>exact absurd rfl hm
theorem zmF {E:Value->Shared->Prop} {tk:Tok} {fill expr:Bool} {Q:Value->Shared->Prop} (X:K.In s.heap) (I:InstAt s.heap x ox C od)
  (hga:findIn K (.ref C) "__getattribute__" = some (some (.builtin "BaseException.__getattribute__"))) (hgn:findIn K (.ref C) "__getattr__" = some none)
  (h:codeAny (model prog w) A (.call (.builtin "BaseException.__getattribute__") ⟨[.ref x,.str name tk],[]⟩) (fun r s'=>match r with | .ok (.ret v)=>wpAny (model prog w) A (handedOut v) Q E s' | _=>False) s):
  wpAny (model prog w) A (getAttrBy (.ref x) (.str name tk) fill expr) Q E s:=by
 have f3:=PySem.F.excAttr_ValueError.ga.bind (.ref x)
 have hx0:(expr&&onTheHeap (Value.builtin "BaseException.__getattribute__"))=false:=by cases expr<;>rfl
 have hx2:(Value.builtin "BaseException.__getattribute__" == Value.builtin "object.__getattribute__")=false:=by decide +kernel
 have hx1:(onTheHeap (Value.ref C)&&Value.builtin "BaseException.__getattribute__" == Value.builtin "object.__getattribute__")=false:=by rw [hx2];rfl
 unfold getAttrBy
 refine wpAny_holding (wpAny_bind (I.type.here (wpAny_bind ((looks_findIn X hga).here ?_))))
 dsimp only
 rw [hx1,if_neg Bool.false_ne_true]
 unfold getAttrByItsOwn hookBefore
 refine wpAny_bind ?_
 rw [if_pos (show onTheHeap (Value.ref C)=true from rfl)]
 refine (looks_findIn X hgn).here (wpAny_bind (wpAny_attempt (wpAny_holding ?_)))
 unfold callGetattribute
 rw [hx0,if_neg Bool.false_ne_true]
 unfold boundAndCalled
 rw [f3]
 refine wpAny_bind (wpAny_pure (wpAny_call (codeAny_mono h fun r s' z=>?_)))
 rcases r with e | (v | _ | _ | _)<;>first | exact z | exact z.elim
theorem xget {E:Value->Shared->Prop} {expr:Bool} {v:Value} {Q:Value->Shared->Prop} (X:K.In s.heap) (I:InstAt s.heap x ox C od) (hi:xcIn K C ini=true)
  (hga:findIn K (.ref C) "__getattribute__" = some (some (.builtin "BaseException.__getattribute__"))) (hgn:findIn K (.ref C) "__getattr__" = some none)
  (hf:findObj K C od name=some (.value v)) (hh:handedIn v=true) (h:Q v { s with toks:=s.toks+1 }):wpAny (model prog w) A (getAttr (.ref x) name expr) Q E s:=by
 unfold getAttr
 refine wpAny_bind (wpAny_mkText ?_)
 refine zmF (s := { s with toks:=s.toks+1 }) X I hga hgn (zkD (s := { s with toks:=s.toks+1 }) X I hi hf (wpAny_pure ?_) (by intro z;cases z))
 show wpAny _ _ (handedOut v) _ _ _
 rw [handedOut_of hh]
 exact wpAny_pure h
theorem zrJ {E:Value->Shared->Prop} {Q:Option Value->Shared->Prop} (X:K.In s.heap) (I:InstAt s.heap x ox C od) (hi:xcIn K C ini=true)
  (hga:findIn K (.ref C) "__getattribute__" = some (some (.builtin "BaseException.__getattribute__"))) (hgn:findIn K (.ref C) "__getattr__" = some none)
  (hdct:hasDictIn K C=true) (ha:findIn K (.ref C) "__class__" = some (some (.builtin "object.__class__")))
  (hn:specialIn K (.builtin "object.__class__") "__get__" = some (some (.builtin "getset_descriptor.__get__"))) (htk:takesIn K (.builtin "object.__class__")=some true) (hm:mroIn K C (.type "object")=some true)
  (h:Q (some (.ref C)) { s with toks:=s.toks+1 }):wpAny (model prog w) A (getAttr? (.ref x) "__class__") Q E s:=by
 have hf:findObj K C od "__class__" = some (.bind (.builtin "getset_descriptor.__get__") (.builtin "object.__class__")):=by
  obtain ⟨cd,hc,_⟩:=any_some hdct
  unfold findObj
  rw [hc,Option.bind_some,ha,Option.bind_some]
  dsimp only
  rw [hn,Option.bind_some]
  dsimp only
  rw [htk,Option.bind_some]
 unfold getAttr?
 refine wpAny_bind (wpAny_mkText ?_)
 unfold getAttrBy?
 refine wpAny_bind (wpAny_attempt (zmF (s := { s with toks:=s.toks+1 }) X I hga hgn (zkD (s := { s with toks:=s.toks+1 }) X I hi hf ?_ (by intro z;cases z))))
 show wpAny _ _ (holding [_] (call (.builtin "getset_descriptor.__get__") [.builtin "object.__class__",.ref x,.ref C]) >>= ret) _ _ _
 refine wpAny_bind (wpAny_holding (wpAny_call (class_get (s := { s with toks:=s.toks+1 }) X I hm (wpAny_pure ?_))))
 show wpAny _ _ (handedOut (.ref C)) _ _ _
 rw [handedOut_of rfl]
 exact wpAny_pure (wpAny_pure h)
theorem kitx_exc (hi:xcIn K C ini=true)
  (hga:findIn K (.ref C) "__getattribute__" = some (some (.builtin "BaseException.__getattribute__"))) (hgn:findIn K (.ref C) "__getattr__" = some none)
  (hdct:hasDictIn K C=true) (ha:findIn K (.ref C) "__class__" = some (some (.builtin "object.__class__")))
  (hn:specialIn K (.builtin "object.__class__") "__get__" = some (some (.builtin "getset_descriptor.__get__"))) (htk:takesIn K (.builtin "object.__class__")=some true) (hm:mroIn K C (.type "object")=some true):
  KitX K (.ref x) (.ref C) (fun h=>InstAt h x ox C od) where
 ty:=fun _ _ _ I=>I.type
 it:=fun _ _ X _=>by
  obtain ⟨cdD,hcD,_⟩:=any_some hdct
  unfold clsIn at hcD
  split at hcD
  ·rename_i c' d' cd' sl' ho
   intro A' Q' E' s' k q
   unfold isType loadHead
   exact wpAny_bind (wpAny_loadPart (k _ _ (X _ _ ho)) (wpAny_pure q))
  ·cases hcD
 ne:=fun h tp dd its n sl X htp=>by
  obtain ⟨cdD,hcD,_⟩:=any_some hdct
  refine Bool.eq_false_iff.mpr fun q=>?_
  have e:C=tp:=Value.ref.inj (beq_iff_eq.mp q)
  subst e
  unfold clsIn at hcD
  split at hcD
  ·rename_i c' d' cd' sl' ho
   have z:=(X _ _ ho).symm.trans htp
   cases z
  ·cases hcD
 ca:=fun X I k=>zrJ X I hi hga hgn hdct ha hn htk hm k
theorem xmatch {M:Model} {E:Value->Shared->Prop} {D:Addr} {b:Bool} {Q:Bool->Shared->Prop} (X:K.In s.heap) (I:InstAt s.heap x ox C od) (hd:mroIn K D (.type "BaseException")=some true)
  (hty:typeIn K (.ref D)=some (.type "type")) (hm:mroIn K C (.ref D)=some b) (h:Q b s):wpAny M A (excMatches (.ref x) (.ref D)) Q E s:=by
 have f:=tc_notTuple
 have l1:=looks_typeIn (M:=M) X hty
 have l2:=looks_mroIn (M:=M) X hd
 have l3:=looks_mroIn (M:=M) X hm
 have l4:=I.type (M:=M)
 obtain ⟨cd,hcd⟩:∃cd,clsIn K D=some cd:=by
  unfold mroIn at hd
  cases q:clsIn K D with
  | none=>rw [q] at hd;cases hd
  | some cd=>exact ⟨cd,rfl⟩
 have l5:Looks M s.heap (isType (.ref D)) true:=by
  unfold clsIn at hcd
  split at hcd
  ·rename_i c' d' cd' sl' ho
   intro A' Q' E' s' k q
   unfold isType loadHead
   exact wpAny_bind (wpAny_loadPart (k _ _ (X _ _ ho)) (wpAny_pure q))
  ·cases hcd
 unfold excMatches isInstance
 refine wpAny_bind (wpAny_bind (l1.here ?_))
 rw [f]
 refine wpAny_pure (wpAny_bind (wpAny_pure ?_))
 simp only [List.forIn_cons,List.forIn_nil]
 have l6:Looks M s.heap (isExcClass (.ref D)) true:=l5.andThen (by rw [if_pos rfl];exact l2)
 refine wpAny_bind (wpAny_bind (wpAny_bind (l6.here ?_)))
 simp only [Bool.not_true,Bool.false_eq_true,if_false]
 refine wpAny_pure (wpAny_pure (wpAny_bind (l4.here (wpAny_bind (wpAny_bind (wpAny_bind (l3.here ?_)))))))
 cases b with
 | true=>exact wpAny_pure (wpAny_pure (wpAny_pure h))
 | false=>exact wpAny_pure (wpAny_pure (wpAny_pure h))
end
end PySem.W
namespace L2
open PySem PySem.Spec PyProof.Rows
section
abbrev xobj (C:Addr) (dx:Option Addr) (vs:Array Value):Obj := { cls:=.ref C,dict:=dx,data:=.fields vs }
def XcO (a C:Addr) (dx:Option Addr) (vs:Array Value):HO:=.ext fun h=>h.get? a=some (xobj C dx vs)
theorem zmG {P:Program} {w:World} {H:Hp} {h:Heap} {a C:Addr} {dx:Option Addr} {vs:Array Value} (e:h.get? a=some (xobj C dx vs)):zaU P w H h a (XcO a C dx vs):=⟨e,⟨_,e⟩,fun h1 h2 p k=>k _ p⟩
theorem zdG {P:Program} {w:World} {H:Hp} {h:Heap} {a C:Addr} {dx:Option Addr} {vs:Array Value} (hok:HOk P w H h) (e:H a=some (XcO a C dx vs)):h.get? a=some (xobj C dx vs):=(show zaU P w H h a (XcO a C dx vs) from hok a _ e).1
structure XCls (K:W.Frag) (C:Addr):Prop where
 xc:∃ini,W.xcIn K C ini=true
 sa:W.findIn K (.ref C) "__setattr__" = some (some (.builtin "object.__setattr__"))
 ga:W.findIn K (.ref C) "__getattribute__" = some (some (.builtin "BaseException.__getattribute__"))
 gn:W.findIn K (.ref C) "__getattr__" = some none
 hd:W.hasDictIn K C=true
 cl:W.findIn K (.ref C) "__class__" = some (some (.builtin "object.__class__"))
 cg:W.specialIn K (.builtin "object.__class__") "__get__" = some (some (.builtin "getset_descriptor.__get__"))
 ct:W.takesIn K (.builtin "object.__class__")=some true
 mo:W.mroIn K C (.type "object")=some true
section
variable {X:Cx} {ai:List (Addr × Obj)} {σ:St} {H:Hp} {s:Shared}
theorem Inv.inst (I:Inv X ai σ H s) {a C:Addr} {dx:Option Addr} {vs:Array Value} (e:H a=some (XcO a C dx vs)) (hd:∀d,dx=some d->∃fs,H d=some (.xd fs)):∃od,W.InstAt s.heap a (xobj C dx vs) C od:=by
 have g:=zdG I.hok e
 cases dx with
 | none=>exact ⟨none,g,rfl,rfl,True.intro⟩
 | some d=>
   obtain ⟨fs,hf⟩:=hd d rfl
   obtain ⟨mA,⟨o,es,ep,ho,_⟩,_⟩:=(show zaU X.prog X.w H s.heap d (.xd fs) from I.hok d _ hf)
   exact ⟨some o,g,rfl,rfl,ho⟩
structure IsX (K:W.Frag) (H:Hp) (a C:Addr):Prop where
 cls:XCls K C
 at_:∃dx vs,H a=some (XcO a C dx vs)/\∀d,dx=some d->∃fs,H d=some (.xd fs)
def zrK (K:W.Frag) (ta:TE) (f:Str):TE:=fun σ H Q=>ta σ H fun x H1=>∃a C d vs fs v,x=.ref a/\H1 a=some (XcO a C (some d) vs)/\H1 d=some (.xd fs)/\XCls K C/\zal K C f/\fs.lookup f=some v/\Q v H1
theorem zqr {e:Expr} {f:Str} {pos:Pos} {ta:TE} (he:PE X e ta) (hb:attributeBase e f X.env (eval e X.env)=eval e X.env):PE X (.Attribute e f pos) (zrK X.K ta f):=by
 with_unfolding_all
  intro ai s σ H Q I h
  refine zmf hb (thn (he ai s σ H _ I h) fun u s1 ⟨x,H1,I1,rx,a,C,d,vs,fs,v,ex,ea,ed,c,n,l,q⟩=>?_)
  subst ex
  obtain rfl:u=Value.ref a:=rx
  obtain ⟨mA,ns,r⟩:=(show zaU X.prog X.w H1 s1.heap d (.xd fs) from I1.hok d _ ed)
  obtain ⟨od,ho,hl⟩:=zir ns
  have J:W.InstAt s1.heap a (xobj C (some d) vs) C (some od):=⟨zdG I1.hok ea,rfl,rfl,ho⟩
  obtain ⟨u,hu,ru⟩:=RelO.some_of (v:=v) (o:=mA f) (by rw [<-l];exact r f)
  obtain ⟨ini,hi⟩:=c.xc
  exact W.xget I1.kIn J hi c.ga c.gn (W.findObj_own c.hd n rfl (by rw [hl,hu])) (zis ru) ⟨v,H1,I1.tok _,ru,q⟩
def ztb (K:W.Frag) (ta tv:TE) (f:Str):TS:=fun D σ H=>tv σ H fun y H1=>ta σ H1 fun x H2=>∃a C vs,x=.ref a/\H2 a=some (XcO a C none vs)/\XCls K C/\zal K C f/\
 ∀d H3,(∀b o,b≠a->H2 b=some o->H3 b=some o)->H2 d=none->H3 a=some (XcO a C (some d) vs)->H3 d=some (.xd [(f,y)])->D.nx σ H3
theorem zqs {o value:Expr} {f:Str} {pos pos':Pos} {ta tv:TE} (ha:PE X o ta) (hv:PE X value tv) (hs:swapsWith value (some (.Attribute o f pos')) pos.line X.env=pure false):PS X (.Assign [.Attribute o f pos'] value pos) (ztb X.K ta tv f):=by
 with_unfolding_all
  intro ai s σ H D I h
  refine plainObj_wpAny_Assign_Attribute (thn (hv ai s σ H _ I h) fun u s1 ⟨y,H1,I1,ry,q⟩=>thn (ha ai s1 σ H1 _ I1 q) fun ov s2 ⟨x,H2,I2,rx,a,C,vs,ex,ea,c,n,q2⟩=>?_) hs
  subst ex
  obtain rfl:ov=Value.ref a:=rx
  obtain ⟨ini,hi⟩:=c.xc
  have ga:=zdG I2.hok ea
  have hd:H2 s2.heap.objs.size=none:=I2.hok.fresh (Nat.le_refl _)
  have nda:s2.heap.objs.size≠a:=Nat.ne_of_gt (Heap.lt_size ga)
  refine W.xset I2.kIn ga hi c.sa n fun h' g1 g2 g3 g4=>?_
  have hok:HOk X.prog X.w (upd (upd H2 s2.heap.objs.size (.xd [(f,y)])) a (XcO a C (some s2.heap.objs.size) vs)) h':=by
   intro b ob e
   by_cases hba:b=a
   ·subst hba
    rw [zam] at e
    cases e
    exact zmG g1
   ·rw [zah hba] at e
    by_cases hbd:b=s2.heap.objs.size
    ·subst hbd
     rw [zam] at e
     cases e
     refine ⟨_,g2,fun z=>?_⟩
     show RelO (([(f,y)]:List (Str × V)).lookup z) (if z=f then some u else none)
     by_cases hz:z=f
     ·subst hz
      simp only [List.lookup,beq_self_eq_true,if_true]
      exact ry
     ·have:(z==f)=false:=by simpa using hz
      simp only [List.lookup,this,if_neg hz]
      exact True.intro
    ·rw [zah hbd] at e
     refine (I2.hok b ob e).stay (fun c' v hc' r=>g4 c' v ?_ r) (fun c' r=>?_) (fun c' xs r=>?_) fun c' ob xs r=>?_
     ·rintro rfl
      rcases hc' with z | z
      ·exact hba z.symm
      ·rw [ea] at z
       cases z
     ·rw [zah (fun z=>by subst z;rw [ea] at r;cases r),zah (zaj r hd)]
      exact r
     ·rw [zah (fun z=>by subst z;rw [ea] at r;cases r),zah (zaj r hd)]
      exact r
     ·rw [zah (fun z=>by subst z;rw [ea] at r;cases r),zah (zaj r hd)]
      exact r
  have un:Un X.fs [] H2 (upd (upd H2 s2.heap.objs.size (.xd [(f,y)])) a (XcO a C (some s2.heap.objs.size) vs)) s2.heap h':=by
   have na:∀b,H2 b=none->b≠a:=fun b n z=>by subst z;rw [ea] at n;cases n
   refine ⟨fun b o e n _ _=>g4 b o (na b n) e,fun b o e n _ _=>⟨o.slots,g4 b o (na b n) e⟩,fun b o e n _=>?_,fun b o e _=>?_,fun b xs e=>?_,fun b o' u' e=>?_,fun b lp lq e=>?_⟩
   ·rw [zah (na b n),zah (Nat.ne_of_lt (Heap.lt_size e))]
    exact n
   ·by_cases hb:b=a
    ·subst hb;exact ⟨_,g1⟩
    ·exact ⟨o,g4 b o hb e⟩
   ·rw [zah (fun z=>by subst z;rw [ea] at e;cases e),zah (zaj e hd)]
    exact e
   ·rw [zah (fun z=>by subst z;rw [ea] at e;cases e),zah (zaj e hd)]
    exact e
   ·rw [zah (fun z=>by subst z;rw [ea] at e;cases e),zah (zaj e hd)]
    exact e
  refine ⟨σ,_,I2.un un hok,q2 s2.heap.objs.size _ (fun b ob hb e=>?_) hd zam ?_⟩
  ·rw [zah hb,zah (zaj e hd)]
   exact e
  ·rw [zah nda]
   exact zam
end
end
end L2
namespace PySem
open L2 (xobj)
def Heap.XFly (h bf:Heap) (e C:Addr) (dx:Option Addr) (T:Addr) (fl:Value):Prop:=
 ∃vs oT ts,h.get? e=some (xobj C dx vs)/\vs[1]?=some (.ref T)/\bf.get? T=none/\T≠e/\h.get? T=some oT/\oT.data=.fields ts/\ts[3]?=some fl
def Heap.XAt (bf:Heap) (l:List Env) (e C:Addr) (dx:Option Addr) (T:Addr) (fl:Value) (h:Heap):Prop:=
 bf.StaysIn h/\bf.get? e=none/\h.FunFrames bf l/\h.XFly bf e C dx T fl
section
variable {M:Model} {A:Around} {E:Value->Shared->Prop} {s:Shared}
theorem zmH {bf:Heap} {env:Env} {outer:List Env} {L e C:Addr} {dx:Option Addr} {vs:Array Value} {head:Value} {hadNext:Bool} {Q:Unit->Shared->Prop}
  (hfr:A.frames=some (env::outer)) (hl:s.heap.FunFrames bf (env::outer)) (hf:env.frame=some L)
  (he:s.heap.get? e=some (xobj C dx vs)) (hkb:bf.StaysIn s.heap) (hen:bf.get? e=none) (hsz:1<vs.size)
  (h:∀h' T',Heap.XAt bf (env::outer) e C dx T' (rawInt L) h'->s.heap.UpToSlots h'->s.heap.objs.size<=T'->Q () { s with heap:=h' }):
  wpAny M A (do let a <-frameOf env;let pl <-entryPlaceOf L hadNext;let b <-EntryCells.newEntry head a .none (rawInt L) .none pl;setField (.ref e) 1 b) Q E s:=by
 have hd:(xobj C dx vs).data=.fields vs:=rfl
 have hene:e∉(env::outer).filterMap (·.frame):=fun hm=>by
  obtain ⟨_,o,ho,hnf⟩:=hl.mem hm
  rw [he] at ho;injection ho with ho;subst ho;exact hnf vs hd
 refine wpAny_bind (wpAny_frameOf_fun hfr hl hf fun h₁ hs₁=>?_)
 refine wpAny_bind (wpAny_entryPlaceOf fun pl hpl=>?_)
 unfold EntryCells.newEntry newFields
 refine wpAny_bind (wpAny_newObj_type ?_ (hpl.sizeOk5 _ _ _ _ _))
 have he₁:h₁.get? e=some (xobj C dx vs):=(hs₁.2.1 e hene).trans he
 have kb₁:bf.StaysIn h₁:=fun b o hbo=>(hs₁.2.1 b fun hm=>by rw [(hl.mem hm).1] at hbo;cases hbo).trans (hkb b o hbo)
 have he₂:=Heap.get?_push_of_some (h:=h₁) { cls:=.type "traceback",dict:=none,data:=.fields ([head,.ref L,.none,rawInt L,.none]++(if pl.isEmpty then List.replicate 6 Value.none else pl)).toArray } he₁
 have hTe:h₁.objs.size≠e:=Nat.ne_of_gt (Heap.lt_size he₁)
 have hd₃:=Obj.data_mapFields hd (·.setIfInBounds 1 (Value.ref h₁.objs.size))
 have he₃:=Heap.get?_update_self (Obj.mapFields (·.setIfInBounds 1 (Value.ref h₁.objs.size))) he₂ (Obj.isFreed_of_fields hd₃)
 have hT₃:=(Heap.get?_update_other (h₁.push { cls:=.type "traceback",dict:=none,data:=.fields ([head,.ref L,.none,rawInt L,.none]++(if pl.isEmpty then List.replicate 6 Value.none else pl)).toArray })
  (Obj.mapFields (·.setIfInBounds 1 (Value.ref h₁.objs.size))) (Ne.symm hTe)).trans (Heap.get?_push_size h₁ rfl)
 have keep:∀b o,b≠e->h₁.get? b=some o->
   ((h₁.push { cls:=.type "traceback",dict:=none,data:=.fields ([head,.ref L,.none,rawInt L,.none]++(if pl.isEmpty then List.replicate 6 Value.none else pl)).toArray }).update e (Obj.mapFields (·.setIfInBounds 1 (Value.ref h₁.objs.size)))).get? b=some o:=
  fun b o hbe hb=>by
   rw [Heap.get?_update_other _ _ (Ne.symm hbe)]
   exact Heap.get?_push_of_some _ hb
 have noRecord:∀b o,s.heap.get? b=some o->(∀vs,o.data≠.fields vs)->b≠e:=fun b o hb hnf q=>by
  rw [q,he] at hb;injection hb with hb;subst hb;exact hnf vs hd
 refine wpAny_setField he₂ hd hsz (h _ h₁.objs.size ?_ ?_ ?_)
 ·refine ⟨fun b o hbo=>keep b o (fun q=>by rw [q,hen] at hbo;cases hbo) (kb₁ b o hbo),hen,hl.of_keeps fun b o hb hnf=>?_,?_⟩
  ·obtain ⟨sl,hs⟩:=hs₁.2.2 b o hb
   exact ⟨_,keep b _ (noRecord b o hb hnf) hs,rfl⟩
  ·exact ⟨_,_,_,he₃,by simp [hsz],kb₁.fresh,hTe,hT₃,rfl,by first | (simp;done) | (rcases hpl with rfl | ⟨_,_,_,_,_,_,_,rfl⟩<;>simp)⟩
 ·intro b o hb hnf
  obtain ⟨sl,hs⟩:=hs₁.2.2 b o hb
  exact ⟨sl,keep b _ (noRecord b o hb hnf) hs⟩
 ·rw [hs₁.1]
  exact Nat.le_refl _
theorem ziL {bf:Heap} {env:Env} {outer:List Env} {L e C:Addr} {dx:Option Addr} {vs:Array Value} {Q:Unit->Shared->Prop}
  (hfr:A.frames=some (env::outer)) (hl:s.heap.FunFrames bf (env::outer)) (hf:env.frame=some L)
  (he:s.heap.get? e=some (xobj C dx vs)) (hkb:bf.StaysIn s.heap) (hen:bf.get? e=none) (h1:vs[1]?=some .none)
  (h:∀h' T',Heap.XAt bf (env::outer) e C dx T' (rawInt L) h'->s.heap.UpToSlots h'->s.heap.objs.size<=T'->Q () { s with heap:=h' }):wpAny M A (noteFrame (.ref e) env) Q E s:=by
 unfold noteFrame
 simp only [hf]
 refine wpAny_bind (wpAny_field he rfl h1 ?_)
 rw [if_neg (by decide)]
 exact zmH hfr hl hf he hkb hen (Array.getElem?_eq_some_iff.mp h1).1 h
theorem zgm {bf:Heap} {env:Env} {outer:List Env} {L e C T:Addr} {dx:Option Addr} {Q:Unit->Shared->Prop}
  (hfr:A.frames=some (env::outer)) (hf:env.frame=some L) (hx:Heap.XAt bf (env::outer) e C dx T .none s.heap)
  (h:∀h' T',Heap.XAt bf (env::outer) e C dx T' (rawInt L) h'->s.heap.UpToSlots h'->s.heap.objs.size<=T'->Q () { s with heap:=h' }):wpAny M A (noteFrame (.ref e) env) Q E s:=by
 obtain ⟨hkb,hen,hl,vs,oT,ts,he,h1,hnT,hTe,hT,hdT,h3⟩:=hx
 unfold noteFrame
 simp only [hf]
 refine wpAny_bind (wpAny_field he rfl h1 ?_)
 rw [if_pos (show (Value.ref T != Value.none)=true from by simp)]
 refine wpAny_bind (wpAny_field hT hdT h3 ?_)
 rw [if_neg (show ¬((Value.none==rawInt L)=true) from by simp [rawInt])]
 refine wpAny_bind (wpAny_setField hT hdT (Array.getElem?_eq_some_iff.mp h3).1 ?_)
 have other:∀b,b≠T->(s.heap.update T (Obj.mapFields (·.setIfInBounds 3 Value.none))).get? b=s.heap.get? b:=fun b hb=>Heap.get?_update_other _ _ (Ne.symm hb)
 have noRecord:∀b o,s.heap.get? b=some o->(∀vs,o.data≠.fields vs)->b≠T:=fun b o hb hnf q=>by
  rw [q,hT] at hb;injection hb with hb;subst hb;exact hnf ts hdT
 refine zmH hfr (hl.of_keeps fun b o hb hnf=>⟨o,(other b (noRecord b o hb hnf)).trans hb,rfl⟩) hf ((other e (Ne.symm hTe)).trans he)
  (fun b o hbo=>(other b fun q=>by rw [q,hnT] at hbo;cases hbo).trans (hkb b o hbo)) hen (Array.getElem?_eq_some_iff.mp h1).1
  fun h' T' x1 x2 x3=>h h' T' x1 (fun b o hb hnf=>x2 b o ((other b (noRecord b o hb hnf)).trans hb) hnf) (by rw [Heap.size_after_update] at x3;exact x3)
theorem zfS {bf:Heap} {l:List Env} {e C T:Addr} {dx:Option Addr} {fl:Value} {Q:Unit->Shared->Prop} (hx:Heap.XAt bf l e C dx T fl s.heap)
  (h:∀h',Heap.XAt bf l e C dx T .none h'->s.heap.UpToSlots h'->Q () { s with heap:=h' }):wpAny M A (setFlight (.ref e) none) Q E s:=by
 obtain ⟨hkb,hen,hl,vs,oT,ts,he,h1,hnT,hTe,hT,hdT,h3⟩:=hx
 have hsz3:3<ts.size:=(Array.getElem?_eq_some_iff.mp h3).1
 have other:∀b,b≠T->(s.heap.update T (Obj.mapFields (·.setIfInBounds 3 ((none:Option Addr).elim Value.none fun f=>rawInt f)))).get? b=s.heap.get? b:=
  fun b hb=>Heap.get?_update_other _ _ (Ne.symm hb)
 have noRecord:∀b o,s.heap.get? b=some o->(∀vs,o.data≠.fields vs)->b≠T:=fun b o hb hnf q=>by
  rw [q,hT] at hb;injection hb with hb;subst hb;exact hnf ts hdT
 unfold setFlight
 refine wpAny_bind (wpAny_field he rfl h1 ?_)
 rw [if_pos (show (Value.ref T != Value.none)=true from by simp)]
 refine wpAny_setField hT hdT hsz3 (h _ ⟨fun b o hbo=>(other b fun q=>by rw [q,hnT] at hbo;cases hbo).trans (hkb b o hbo),hen,
  hl.of_keeps fun b o hb hnf=>⟨o,(other b (noRecord b o hb hnf)).trans hb,rfl⟩,?_⟩ (fun b o hb hnf=>⟨o.slots,(other b (noRecord b o hb hnf)).trans hb⟩))
 exact ⟨vs,_,_,(other e (Ne.symm hTe)).trans he,h1,hnT,hTe,Heap.get?_update_self _ hT (Obj.isFreed_of_fields (Obj.data_mapFields hdT _)),Obj.data_mapFields hdT _,by simp [hsz3]⟩
theorem ziM {bf:Heap} {env:Env} {outer:List Env} {L e C T:Addr} {dx:Option Addr} {Q:Unit->Shared->Prop}
  (hfr:A.frames=some (env::outer)) (hf:env.frame=some L) (hx:Heap.XAt bf (env::outer) e C dx T .none s.heap)
  (h:∀h' T',Heap.XAt bf (env::outer) e C dx T' .none h'->s.heap.UpToSlots h'->s.heap.objs.size<=T'->Q () { s with heap:=h' }):wpAny M A (leaving env (.ref e)) Q E s:=by
 unfold leaving
 refine wpAny_bind (zgm hfr hf hx fun h1 T' a b c=>?_)
 exact zfS (s := { s with heap:=h1 }) a fun h2 a2 b2=>h h2 T' a2 (b.trans b2) c
theorem zhI {bf:Heap} {env:Env} {outer:List Env} {L e C:Addr} {dx:Option Addr} {vs:Array Value} {Q:Unit->Shared->Prop}
  (hfr:A.frames=some (env::outer)) (hl:s.heap.FunFrames bf (env::outer)) (hf:env.frame=some L)
  (he:s.heap.get? e=some (xobj C dx vs)) (hkb:bf.StaysIn s.heap) (hen:bf.get? e=none) (h1:vs[1]?=some .none)
  (h:∀h' T',Heap.XAt bf (env::outer) e C dx T' .none h'->s.heap.UpToSlots h'->s.heap.objs.size<=T'->Q () { s with heap:=h' }):wpAny M A (leaving env (.ref e)) Q E s:=by
 unfold leaving
 refine wpAny_bind (ziL hfr hl hf he hkb hen h1 fun h1 T' a b c=>?_)
 exact zfS (s := { s with heap:=h1 }) a fun h2 a2 b2=>h h2 T' a2 (b.trans b2) c
end
end PySem
namespace L2
open PySem PySem.Spec PyProof.Rows
section
def apart (X:Cx) (h:Heap) (e:Addr) (T:List Addr):Heap:=W.hideAll h (e::(T++frs X.stack))
section
variable {X:Cx} {ai:List (Addr × Obj)} {σ:St} {H:Hp} {s:Shared} {e C T:Addr} {dx:Option Addr} {vs:Array Value}
theorem zgn {Ts:List Addr} {h:Heap}:(apart X h e Ts).StaysIn h:=fun b o q=>W.of_hideAll _ q
theorem zmI {Ts:List Addr} {h:Heap} {b:Addr} {o:Obj} (q:h.get? b=some o) (h1:b≠e) (h2:b∉Ts) (h3:b∉frs X.stack):(apart X h e Ts).get? b=some o:=
 W.hideAll_get _ q fun hm=>by
  rcases mem_cons.mp hm with z | z
  ·exact h1 z
  ·rcases mem_append.mp z with z | z
   ·exact h2 z
   ·exact h3 z
theorem zdp {Ts:List Addr} {h:Heap} {b:Addr} (hb:b=e\/b∈Ts\/b∈frs X.stack):(apart X h e Ts).get? b=none:=
 W.hideAll_none _ (by
  rcases hb with z | z | z
  ·rw [z];exact mem_cons_self
  ·exact mem_cons_of_mem _ (mem_append_left _ z)
  ·exact mem_cons_of_mem _ (mem_append_right _ z))
theorem zfv {Ts:List Addr} (I:Inv X ai σ H s):s.heap.FunFrames (apart X s.heap e Ts) X.stack:=by
 have key:∀l:List Env,(∀b∈frs l,b∈frs X.stack)->s.heap.FunFrames X.bf l->s.heap.FunFrames (apart X s.heap e Ts) l:=by
  intro l
  induction l with
  | nil=>intro _ _;trivial
  | cons env r ih=>
    intro hs hl
    obtain ⟨hk,⟨L,o,hf,hn,ho,hd⟩,hr⟩:=hl
    have hL:L∈frs X.stack:=hs L (by unfold frs;rw [filterMap_cons,hf];exact mem_cons_self)
    exact ⟨hk,⟨L,o,hf,zdp (.inr (.inr hL)),ho,hd⟩,ih (fun b hb=>hs b (by unfold frs;rw [filterMap_cons,hf];exact mem_cons_of_mem _ hb)) hr⟩
 exact key X.stack (fun _ h=>h) I.stack
theorem Inv.shaken {h':Heap} {vs':Array Value} {Ts:List Addr} (I:Inv X ai σ H s) (he:H e=some (XcO e C dx vs)) (hn:∀b∈Ts,H b=none)
  (hT:∀b∈Ts,X.s₀.heap.objs.size<=b/\b≠X.env.locals/\(∀x c,X.env.cells.lookup x=some c->c≠b)/\∀p∈X.pn++ai,p.1≠b)
  (hs:(apart X s.heap e Ts).StaysIn h') (up:s.heap.UpToSlots h') (he':h'.get? e=some (xobj C dx vs')):
  Inv X ai σ (upd H e (XcO e C dx vs')) { s with heap:=h' }:=by
 have ge:=zdG I.hok he
 have nfr:e∉frs X.stack:=fun z=>by rw [I.stkFree e z] at he;cases he
 have frL:X.env.locals∈frs X.stack\/X.env.locals∉frs X.stack:=Classical.em _
 have dat:∀b∈frs X.stack,∃o,s.heap.get? b=some o/\∀ws,o.data≠.fields ws:=fun b hb=>by
  obtain ⟨_,o,ho,hd⟩:=I.stack.mem hb
  exact ⟨o,ho,hd⟩
 have keepN:∀b o,b≠e->b∉Ts->b∉frs X.stack->s.heap.get? b=some o->h'.get? b=some o:=fun b o h1 h2 h3 q=>hs b o (zmI q h1 h2 h3)
 have ne:∀b,H b=none->b≠e:=fun b n z=>by subst z;rw [he] at n;cases n
 refine I.step (g':=s.gens) (d':=s.drawn) (ch:=Ts) (fun b hb=>⟨.inr (hT b hb).1,(hT b hb).2⟩) (fun b o hL hb hc q n=>keepN b o (ne b n) hc (fun z=>by
  rcases mem_cons.mp (I.stkSub b z) with z | z
  ·exact hL z
  ·exact hb z) q) (fun b o hL hb hc q n=>?_) (fun b o hc q n=>by rw [zah (ne b n)];exact n) (fun b o hc q=>?_) (fun b xs q=>by rw [zah (fun z=>by subst z;rw [he] at q;cases q)];exact q)
  (fun b o u q=>by rw [zah (fun z=>by subst z;rw [he] at q;cases q)];exact q) (fun b lp lq q=>by rw [zah (fun z=>by subst z;rw [he] at q;cases q)];exact q) (fun m hm=>up.ns hm) (fun b u q=>?_) I.bare
 ·by_cases hf:b∈frs X.stack
  ·obtain ⟨o',ho',hd⟩:=dat b hf
   rw [q] at ho'
   cases ho'
   exact up b o q hd
  ·exact ⟨o.slots,keepN b o (ne b n) hc hf q⟩
 ·by_cases hbe:b=e
  ·subst hbe;exact ⟨_,he'⟩
  ·by_cases hf:b∈frs X.stack
   ·obtain ⟨o',ho',hd⟩:=dat b hf
    obtain ⟨sl,z⟩:=up b o' ho' hd
    exact ⟨_,z⟩
   ·exact ⟨o,keepN b o hbe hc hf q⟩
 ·by_cases hbe:b=e
  ·subst hbe
   rw [zam] at q
   cases q
   exact zmG he'
  ·rw [zah hbe] at q
   refine (I.hok b u q).stay (fun c v hc z=>keepN c v ?_ ?_ ?_ z) (fun c z=>by rw [zah (fun y=>by subst y;rw [he] at z;cases z)];exact z) (fun c xs z=>by rw [zah (fun y=>by subst y;rw [he] at z;cases z)];exact z) fun c ob xs z=>by rw [zah (fun y=>by subst y;rw [he] at z;cases z)];exact z
   ·rintro rfl
    rcases hc with z | z
    ·exact hbe z.symm
    ·rw [he] at z;cases z
   ·intro y
    have:=hn c y
    rcases hc with z | z
    ·rw [z,q] at this;cases this
    ·rw [z] at this;cases this
   ·intro y
    have:=I.stkFree c y
    rcases hc with z | z
    ·rw [z,q] at this;cases this
    ·rw [z] at this;cases this
end
structure Flies (h:Heap) (H:Hp) (low:Nat) (a C T:Addr) (dx:Option Addr) (vs:Array Value):Prop where
 at_:H a=some (XcO a C dx vs)
 tr:vs[1]?=some (.ref T)
 new:low<=T
 free:H T=none
 ne:T≠a
 dict:∀y,dx=some y->∃fs,H y=some (.xd fs)
 recd:∃oT ts,h.get? T=some oT/\oT.data=.fields ts/\ts[3]?=some .none
theorem zfT {H:Hp} {a C:Addr} {dx:Option Addr} {vs vs':Array Value} (e:H a=some (XcO a C dx vs)) (d:∀y,dx=some y->∃fs,H y=some (.xd fs)):∀y,dx=some y->∃fs,(upd H a (XcO a C dx vs')) y=some (.xd fs):=fun y q=>by
 obtain ⟨fs,z⟩:=d y q
 refine ⟨fs,?_⟩
 rw [zah (zlg z e (by intro z;cases z))]
 exact z
def CX1 (P:Program) (w:World):CXT:=fun outer H s E e s'=>∃(a T C:Addr) (dx:Option Addr) (vs:Array Value) (H':Hp),e=.ref a/\s'.os=s.os/\AllBare s'.gens/\Un (frs outer) [] H H' s.heap s'.heap/\HOk P w H' s'.heap/\s.heap.objs.size<=s'.heap.objs.size/\
 Flies s'.heap H' s.heap.objs.size a C T dx vs/\∀vs',E (.ref C) (some a) (upd H' a (XcO a C dx vs'))
end
end L2
namespace L2
open PySem PySem.Spec PyProof.Rows
section
section
variable {X:Cx} {ai:List (Addr × Obj)} {σ:St} {H H1:Hp} {s s1:Shared} {a C T:Addr} {dx:Option Addr} {vs:Array Value}
theorem Inv.beyond (I:Inv X ai σ H s) {b:Addr} (hb:s.heap.objs.size<=b):X.s₀.heap.objs.size<=b/\b≠X.env.locals/\(∀x c,X.env.cells.lookup x=some c->c≠b)/\(∀p∈X.pn++ai,p.1≠b)/\b∉frs X.stack:=by
 refine ⟨Nat.le_trans I.sz hb,Nat.ne_of_gt (Nat.lt_of_lt_of_le I.lt hb),fun x c e z=>?_,fun p hp z=>?_,fun z=>?_⟩
 ·obtain ⟨v,o,ho,_⟩:=I.cell x c e
  rw [z] at ho
  exact absurd (Nat.lt_of_lt_of_le (Heap.lt_size ho) hb) (Nat.lt_irrefl _)
 ·obtain ⟨ho,_⟩:=I.pin p hp
  rw [z] at ho
  exact absurd (Nat.lt_of_lt_of_le (Heap.lt_size ho) hb) (Nat.lt_irrefl _)
 ·obtain ⟨_,o,ho,_⟩:=I.stack.mem z
  exact absurd (Nat.lt_of_lt_of_le (Heap.lt_size ho) hb) (Nat.lt_irrefl _)
theorem Flies.xat {n:Nat} (F:Flies s1.heap H1 n a C T dx vs) (J:Inv X ai σ H1 s1):Heap.XAt (apart X s1.heap a [T]) X.stack a C dx T .none s1.heap:=by
 obtain ⟨oT,ts,h1,h2,h3⟩:=F.recd
 exact ⟨zgn,zdp (.inl rfl),zfv J,vs,oT,ts,zdG J.hok F.at_,F.tr,zdp (.inr (.inl (by simp))),F.ne,h1,h2,h3⟩
theorem Flies.on {h':Heap} {T':Addr} (F:Flies s1.heap H1 s.heap.objs.size a C T dx vs) (I:Inv X ai σ H s) (J:Inv X ai σ H1 s1) (x:Heap.XAt (apart X s1.heap a [T]) X.stack a C dx T' .none h') (up:s1.heap.UpToSlots h') (hn:s1.heap.objs.size<=T'\/T'=T)
  (hz:s.heap.objs.size<=s1.heap.objs.size):
  ∃vs',Inv X ai σ (upd H1 a (XcO a C dx vs')) { s1 with heap:=h' }/\Flies h' (upd H1 a (XcO a C dx vs')) s.heap.objs.size a C T' dx vs':=by
 obtain ⟨x1,x2,x3,vs',oT,ts,he,h1,hnT,hTe,hT,hdT,h3⟩:=x
 obtain ⟨b1,b2,b3,b4,b5⟩:=I.beyond F.new
 have w:s.heap.objs.size<=T'/\H1 T'=none:=by
  rcases hn with z | z
  ·exact ⟨Nat.le_trans hz z,J.hok.fresh z⟩
  ·rw [z];exact ⟨F.new,F.free⟩
 refine ⟨vs',J.shaken F.at_ (fun b hb=>?_) (fun b hb=>?_) x1 up he,⟨zam,h1,w.1,?_,hTe,zfT F.at_ F.dict,oT,ts,hT,hdT,h3⟩⟩
 ·have e:b=T:=by simpa using hb
  rw [e];exact F.free
 ·have e:b=T:=by simpa using hb
  rw [e];exact ⟨b1,b2,b3,b4⟩
 ·rw [zah hTe];exact w.2
end
theorem Flies.low {h:Heap} {H:Hp} {m n:Nat} {a C T:Addr} {dx:Option Addr} {vs:Array Value} (F:Flies h H m a C T dx vs) (l:n<=m):Flies h H n a C T dx vs:=⟨F.at_,F.tr,Nat.le_trans l F.new,F.free,F.ne,F.dict,F.recd⟩
section
variable {P:Program} {w:World} {K:W.Frag} {mg:Str->Option Value} {bf:Heap} {N:List Str} {qual:Str} {scope:Scope} {f:Addr} {cd:Value} {A:Around} {outer:List Env} {s₀:Shared} {H₀:Hp} {E:XK}
theorem zeJ:zcx (CX1 P w) (cxOf (CX1 P w) P w K mg bf N qual scope f cd A outer s₀ H₀ E) E:=by
 intro ai σ H1 s1 e s' I h
 obtain ⟨a,T,C,dx,vs,H2,rfl,os,gb,un,hok,hz,F,hE⟩:=h
 have J:=I.call' os un hok gb (fun b hb=>absurd hb (by simp))
 refine ziM (L:=s₀.heap.objs.size) I.ok.frames rfl (F.xat J) fun h' T' x up hn=>?_
 obtain ⟨vs',J',F'⟩:=F.on I J x up (.inl hn) hz
 refine ⟨a,T',C,dx,vs',_,rfl,J'.os,J'.bare,J'.bf,J'.hok,J'.sz,F'.low I.sz,fun vs2=>?_⟩
 rw [zjA]
 exact hE vs2
end
theorem zaU.there {P:Program} {w:World} {H:Hp} {h:Heap} {a:Addr} {o:HO} (x:zaU P w H h a o):∃ob,h.get? a=some ob:=by
 cases o with
 | lst xs=>obtain ⟨_,_,_,_,e⟩:=x;exact ⟨_,e⟩
 | tup xs=>obtain ⟨_,_,_,o,e,_⟩:=x;exact ⟨_,e⟩
 | dK kvs=>obtain ⟨_,_,_,_,o,_,_,e,_⟩:=x;exact ⟨_,e⟩
 | dT kvs=>obtain ⟨_,_,_,_,o,_,_,e,_⟩:=x;exact ⟨_,e⟩
 | set S n=>obtain ⟨o,_,_,_,e,_⟩:=x;exact ⟨_,e⟩
 | ins C dx fs=>obtain ⟨_,_,_,e,_⟩:=x;exact ⟨_,e⟩
 | own y=>exact x
 | xd fs=>obtain ⟨_,⟨_,_,_,e,_⟩,_⟩:=x;exact ⟨_,e⟩
 | rng lo hi=>obtain ⟨_,_,_,e⟩:=x;exact ⟨_,e⟩
 | frz ob u=>obtain ⟨e,_⟩:=x;exact ⟨_,e⟩
 | tbl lp lq=>obtain ⟨_,e,_⟩:=x;exact ⟨_,e⟩
 | met f y=>exact ⟨_,(show h.get? a=some _ from x)⟩
 | ext φ=>exact x.2.1
section
variable {X:Cx} {ai:List (Addr × Obj)} {σ:St} {H:Hp} {s:Shared}
theorem Inv.xmade {h':Heap} {e C:Addr} {us:List Value} (I:Inv X ai σ H s) (hm:Heap.MadeExcOf s.heap h' e (.ref C) us):
  ∃t,H e=none/\Inv X ai σ (upd H e (XcO e C none #[.ref t,.none,.none,.none,.bool false,.none])) { s with heap:=h' }:=by
 obtain ⟨t,g1,g2,g3⟩:=hm.there
 have hn:H e=none:=by
  cases q:H e with
  | none=>rfl
  | some o=>
    obtain ⟨ob,z⟩:=(I.hok e o q).there
    rw [hm.new] at z
    cases z
 refine ⟨t,hn,I.un (t':=s.toks) ⟨fun b o q _ _ _=>hm.keeps b o q,fun b o q _ _ _=>⟨o.slots,hm.keeps b o q⟩,fun b o q n _=>?_,fun b o q _=>⟨o,hm.keeps b o q⟩,fun b xs q=>?_,fun b o u q=>?_,fun b lp lq q=>?_⟩ fun b u q=>?_⟩
 ·rw [zah (fun z=>by subst z;rw [hm.new] at q;cases q)]
  exact n
 ·rw [zah (zaj q hn)]
  exact q
 ·rw [zah (zaj q hn)]
  exact q
 ·rw [zah (zaj q hn)]
  exact q
 ·by_cases hb:b=e
  ·subst hb
   rw [zam] at q
   cases q
   exact zmG g1
  ·rw [zah hb] at q
   exact (I.hok b u q).stay (fun c v _ z=>hm.keeps c v z) (fun c z=>by rw [zah (zaj z hn)];exact z) (fun c xs z=>by rw [zah (zaj z hn)];exact z) fun c ob xs z=>by rw [zah (zaj z hn)];exact z
end
structure XMk (K:W.Frag) (C:Addr) (ini:Option Addr):Prop where
 cls:XCls K C
 xc:W.xcIn K C ini=true
 kp:W.keepIn K (.ref C)=true
 fn:∀f,ini=some f->W.isFn K (.ref f)=true
def zeK (K:W.Frag) (C:Addr) (f:Str):Sp:=fun vs H Q _=>∃a v ws,vs=[.ref a,v]/\XCls K C/\zal K C f/\H a=some (XcO a C none ws)/\
 ∀d H2,(∀b o,b≠a->H b=some o->H2 b=some o)->H d=none->H2 a=some (XcO a C (some d) ws)->H2 d=some (.xd [(f,v)])->Q .non H2
def zpv (C:Addr) (f:Str) (t:TA):TE:=fun σ H Q=>t σ H fun vs H1=>∃v,vs=[v]/\∀a d ws H2,Same H1 H2->H1 a=none->ws[1]?=some Value.none->H2 a=some (XcO a C (some d) ws)->H2 d=some (.xd [(f,v)])->Q (.ref a) H2
def zmJ (C:Addr):TE:=fun σ H Q=>∀a ws H2,Same H H2->H a=none->ws[1]?=some Value.none->H2 a=some (XcO a C none ws)->Q (.ref a) H2
section
variable {X:Cx} {k:Nat} {fI C:Addr} {fd:FuncData} {ps:List Str} {x fn:Str} {p pos:Pos} {e:Expr} {es:List Expr} {t:TA}
theorem zmK {ai:List (Addr × Obj)} {σ:St} {H:Hp} {s:Shared} {Q:VK} {us:List Value} {v:V} (M:XMk X.K C (some fI)) (n:zal X.K C fn) (F:FnOk X.prog X.w X.K X.mg X.bf CX0 k fI fd ps (zeK X.K C fn)) (hr:Room (k+1) X.A) (hb:za2 X.K fd ps [])
  (I:Inv X ai σ H s) (r:Vals [v] us)
  (h:∀a d ws H2,Same H H2->H a=none->ws[1]?=some Value.none->H2 a=some (XcO a C (some d) ws)->H2 d=some (.xd [(fn,v)])->Q (.ref a) H2):
  wpAny (model X.prog X.w) X.A (call (.ref C) us) (EP X ai σ Q) X.xe s:=by
 obtain ⟨nm,q,N,bs,bm,sn,sub,ab,col,dd,k0,k1,k2,k3,k5,mN,hC,hNs,hini,T,hrf⟩:=(W.xc_of I.kIn M.xc).ex
 have hfn:=M.fn fI rfl
 obtain ⟨oI,hfI,hfc⟩:∃oI,s.heap.get? fI=some oI/\oI.cls=.type "function" := W.fn_obj I.kIn hfn
 have hu1:us.length<=sizeLine:=by rw [<-r.length];exact sz 1 (by decide)
 obtain ⟨hp,g,dr,tk,os⟩:=s
 refine zqq PySem.F.excBase_ValueError T hC hNs hini hfI hfc (fun h' a hm=>?_) hu1
 obtain ⟨t0,hn,I2⟩:=Inv.xmade (s:=⟨hp,g,dr,tk,os⟩) I hm
 have r2:Vals [V.ref a,v] (Value.ref a::us):=.cons rfl r
 have hq:zeK X.K C fn [V.ref a,v] (upd H a (XcO a C none #[.ref t0,.none,.none,.none,.bool false,.none])) (fun v H2=>v=.non/\Q (.ref a) H2) E0:=by
  refine ⟨a,v,_,rfl,M.cls,n,zam,fun d H2 k1 hd k2 k3=>⟨rfl,?_⟩⟩
  refine h a d _ H2 (fun b o q=>k1 b o (zaj q hn) ?_) hn rfl k2 k3
  rw [zah (zaj q hn)]
  exact q
 have hl:(Value.ref a::us++[]).length=ps.length:=by
  have e:=r2.length
  rw [F.len _ _ _ _ hq] at e
  rw [append_nil]
  exact e.symm
 have hb2:=hb ⟨h',g,dr,tk,os⟩ (Value.ref a::us) I2.kIn hl
 rw [append_nil] at hb2
 refine wpAny_call (codeAny_mono (F.run _ X.stack _ _ ⟨Value.ref a::us,[]⟩ (Value.ref a::us) _ _ E0 (hr.make C us []) (I2.env0.make C us []) hb2 r2 hq) fun r s' hq'=>?_)
 cases r with
 | error e=>exact hq'.elim
 | ok fl=>
   cases fl with
   | ret u=>
     obtain ⟨v,H',I3,rv,ev,q3⟩:=I2.after hq'
     subst ev
     exact ⟨rv,⟨V.ref a,H',I3,rfl,q3⟩⟩
   | next=>exact False.elim hq'
   | brk=>exact False.elim hq'
   | cont=>exact False.elim hq'
theorem zox (M:XMk X.K C (some fI)) (n:zal X.K C fn) (F:FnOk X.prog X.w X.K X.mg X.bf CX0 k fI fd ps (zeK X.K C fn)) (hr:Room (k+1) X.A) (hb:za2 X.K fd ps []) (hg:Gl X x) (hm:X.mg x=some (.ref C))
  (ha:PA X (e::es) t) (hdb:(x==("__debug__" : Str))=false:=by decide) (he:starEach (e::es) X.env=(false,eval e X.env)::starEach es X.env:=by rfl) (hpl:(backTo pos (starEach es X.env)).any (·.1)=false:=by rfl):
  PE X (.Call (.Name x p) (e::es) [] pos) (zpv C fn t):=by
 with_unfolding_all
  intro ai s σ H Q I h
  refine wpAny_Call_Name_kw (zcm I hg hm ?_ hdb)
  refine W.callWith_K (h₀:=X.bf) I.ok.mod.kin M.kp (thn (ha pos ai s σ H _ I h) fun us s1 ⟨vs,H1,I1,r,v,ev,q⟩=>⟨I1.kIn,?_⟩) he hpl
  subst ev
  exact zmK M n F hr hb I1 r q
theorem zmL (M:XMk X.K C none) (hg:Gl X x) (hm:X.mg x=some (.ref C)) (hdb:(x==("__debug__" : Str))=false:=by decide):PE X (.Call (.Name x p) [] [] pos) (zmJ C):=by
 with_unfolding_all
  intro ai s σ H Q I h
  refine wpAny_Call_Name_kw (zcm I hg hm ?_ hdb)
  refine W.callWith_K0 I.kIn M.kp ?_
  obtain ⟨nm,q,N,bs,bm,sn,sub,ab,col,dd,k0,k1,k2,k3,k5,mN,hC,hNs,hini,T,hrf⟩:=(W.xc_of I.kIn M.xc).ex
  obtain ⟨hp,g,dr,tk,os⟩:=s
  refine wpAny_call_exc_subT PySem.F.excBase_ValueError T hC hNs hini fun h' a hm=>?_
  obtain ⟨t0,hn,I2⟩:=Inv.xmade (s:=⟨hp,g,dr,tk,os⟩) I hm
  exact ⟨.ref a,_,I2,rfl,h a _ _ (zbn hn _) hn rfl zam⟩
end
theorem zjL {M:Model} {A:Around} {E:Value->Shared->Prop} {env:Env} {s:Shared} {x:Sem Value} {Q:Flow->Shared->Prop} {C:Addr} (hh:A.handled=none)
  (h:wpAny M A x (fun v s₁=>∃e dx vs nm q N bs bm sn sub ab col dd k0 k1 k2 k3 k5,v=.ref e/\s₁.heap.get? C=some (excClassObj nm q C N bs bm true sn sub ab col dd k0 k1 k2 k3 k5 "ValueError.__new__")/\bm.contains (.type "BaseException")=true/\
    s₁.heap.get? e=some (xobj C dx vs)/\vs[1]?=some .none/\E (.ref e) s₁) E s):
  wpAny M A (raiseStmt env (some x) none) Q E s:=by
 unfold raiseStmt
 refine wpAny_bind (wpAny_mono h (fun v s₁ h₁=>?_) fun _ _ x=>x)
 obtain ⟨e,dx,vs,nm,q,N,bs,bm,sn,sub,ab,col,dd,k0,k1,k2,k3,k5,rfl,hC,hbase,he,h1,hE⟩:=h₁
 have hcB:(Value.ref C::bm).contains (.type "BaseException")=true:=by rw [contains_cons,hbase,Bool.or_true]
 obtain ⟨hp,g,d,tk,os⟩:=s₁
 repeat (first | with_reducible refine wpAny_loadPart_at he ?_ | with_reducible refine wpAny_loadPart_at hC ?_ | (with_reducible refine wpAny_isSubtype_exc hC ?_;rw [hcB]) | wp_step)
 rw [h1]
 refine wpAny_pure ?_
 rw [if_neg (by decide)]
 exact wpAny_pure (wpAny_raiseNew_none hh hE)
section
variable {P:Program} {w:World} {K:W.Frag} {mg:Str->Option Value} {bf:Heap} {N:List Str} {qual:Str} {scope:Scope} {f:Addr} {cd:Value} {A:Around} {outer:List Env} {s₀:Shared} {H₀:Hp} {E:XK}
theorem zoy {ai:List (Addr × Obj)} {σ:St} {H:Hp} {s:Shared} {a C:Addr} {dx:Option Addr} {vs:Array Value} (I:Inv (cxOf (CX1 P w) P w K mg bf N qual scope f cd A outer s₀ H₀ E) ai σ H s) (ea:H a=some (XcO a C dx vs)) (h1:vs[1]?=some .none) (hd:∀y,dx=some y->∃fs,H y=some (.xd fs))
  (hE:∀vs',E (.ref C) (some a) (upd H a (XcO a C dx vs'))):(cxOf (CX1 P w) P w K mg bf N qual scope f cd A outer s₀ H₀ E).xe (.ref a) s:=by
 refine zhI (bf:=apart (cxOf (CX1 P w) P w K mg bf N qual scope f cd A outer s₀ H₀ E) s.heap a []) (L:=s₀.heap.objs.size) I.ok.frames (zfv I) rfl (zdG I.hok ea) zgn (zdp (.inl rfl)) h1 fun h' T' x up hn=>?_
 obtain ⟨x1,x2,x3,vs',oT,ts,he,h1,hnT,hTe,hT,hdT,h3⟩:=x
 have J:=I.shaken (Ts:=[]) ea (fun b hb=>absurd hb (by simp)) (fun b hb=>absurd hb (by simp)) x1 up he
 refine ⟨a,T',C,dx,vs',_,rfl,J.os,J.bare,J.bf,J.hok,J.sz,⟨zam,h1,Nat.le_trans I.sz hn,?_,hTe,zfT ea hd,oT,ts,hT,hdT,h3⟩,fun vs2=>?_⟩
 ·rw [zah hTe]
  exact I.hok.fresh hn
 ·rw [zjA]
  exact hE vs2
def zrL (C:Addr) (te:TE) (E:XK):TS:=fun _ σ H=>te σ H fun v H1=>∃a dx vs,v=.ref a/\H1 a=some (XcO a C dx vs)/\vs[1]?=some Value.none/\(∀y,dx=some y->∃fs,H1 y=some (.xd fs))/\∀vs',E (.ref C) (some a) (upd H1 a (XcO a C dx vs'))
theorem zcF {C:Addr} {e:Expr} {pos:Pos} {te:TE} (hc:XCls K C) (hh:A.handled=none) (he:PE (cxOf (CX1 P w) P w K mg bf N qual scope f cd A outer s₀ H₀ E) e te):
  PS (cxOf (CX1 P w) P w K mg bf N qual scope f cd A outer s₀ H₀ E) (.Raise (some e) none pos) (zrL C te E):=by
 with_unfolding_all
  intro ai s σ H D I h
  rw [arm_exec_Raise]
  refine wpAny_bind (wpAny_standAt (zjL (C:=C) hh ?_))
  simp only [evalOpt,Option.map]
  refine wpAny_bind (thn (he ai s σ H _ I h) fun u s1 ⟨v,H1,I1,r,a,dx,vs,ev,ea,h1,hd,hE⟩=>wpAny_bind (wpAny_standAt (wpAny_pure ?_)))
  subst ev
  cases (show u=Value.ref a from r)
  obtain ⟨ini,hi⟩:=hc.xc
  obtain ⟨nm,q,N,bs,bm,sn,sub,ab,col,dd,k0,k1,k2,k3,k5,mN,hC,hNs,hini,T,hrf⟩:=(W.xc_of I1.kIn hi).ex
  exact ⟨a,dx,vs,nm,q,N,bs,bm,sn,sub,ab,col,dd,k0,k1,k2,k3,k5,rfl,hC,T.hasType (X := "BaseException") (b:=true) (by decide +kernel),zdG I1.hok ea,h1,zoy I1 ea h1 hd hE⟩
end
end
end L2
namespace L2
open PySem PySem.Spec PyProof.Rows
section
def PE1 (X:Cx) (σ:St) (e:Expr) (t:TE):Prop:=
 ∀(ai:List (Addr × Obj)) (s:Shared) (H:Hp) (Q:VK),Inv X ai σ H s->t σ H Q->wpAny (model X.prog X.w) X.A (eval e X.env) (EP X ai σ Q) X.xe s
def PS1 (X:Cx) (σ:St) (st:Stmt) (t:TS):Prop:=
 ∀(ai:List (Addr × Obj)) (s:Shared) (H:Hp) (D:Ends),Inv X ai σ H s->t D σ H->wpAny (model X.prog X.w) X.A (exec st X.env) (SP X ai D) X.xe s
def PSs1 (X:Cx) (σ:St) (st:List Stmt) (t:TS):Prop:=
 ∀(ai:List (Addr × Obj)) (s:Shared) (H:Hp) (D:Ends),Inv X ai σ H s->t D σ H->wpAny (model X.prog X.w) X.A (execs st X.env) (SP X ai D) X.xe s
section
variable {X:Cx} {σ:St}
theorem zdq {st:Stmt} {t:TS} (h:PS1 X σ st t):PSs1 X σ [st] t:=by
 intro ai s H D I q
 refine wpAny_execs_cons (thn (h ai s H D I q) fun f s1 q=>?_)
 cases f with
 | next=>exact wpAny_execs_nil q
 | ret v=>exact q
 | brk=>exact q
 | cont=>exact q
theorem zeh {e:Expr} {te:TE} {pos:Pos} (he:PE1 X σ e te) (hs:swapsWith e none pos.line X.env=pure false:=by rfl):PS1 X σ (.Expr e pos) (zrj te):=by
 intro ai s H D I h
 exact wpAny_Expr_any (thn (he ai s H _ I h) fun v s1 ⟨x,H1,I1,r1,q1⟩=>⟨σ,H1,I1,q1⟩) I.quiet hs
theorem zrM {c:Expr} {a b:List Stmt} {tc:TT} {t u:TS} {pos:Pos} (hc:PT X c tc) (ha:PSs1 X σ a t) (hb:PSs1 X σ b u):PS1 X σ (.If c a b pos) (tIfS tc t u):=by
 with_unfolding_all
  intro ai s H D I h
  refine wpAny_If (thn (hc ai s σ H _ I h) fun d s1 ⟨H1,I1,q1⟩=>?_)
  cases d with
  | true=>exact ha ai s1 H1 D I1 q1
  | false=>exact hb ai s1 H1 D I1 q1
end
structure Aside (X:Cx) (ai:List (Addr × Obj)) (b:Addr):Prop where
 p:X.s₀.heap.objs.size<=b/\b≠X.env.locals/\(∀x c,X.env.cells.lookup x=some c->c≠b)/\∀p∈X.pn++ai,p.1≠b
def zrN (X:Cx) (ai:List (Addr × Obj)) (σ:St) (W:XK) (e:Value) (s':Shared):Prop:=
 ∃a T C dx vs H',e=.ref a/\Inv X ai σ H' s'/\Flies s'.heap H' 0 a C T dx vs/\Aside X ai T/\∀vs',W (.ref C) (some a) (upd H' a (XcO a C dx vs'))
abbrev zei (X:Cx) (ai:List (Addr × Obj)) (σ:St) (W:XK):Cx := { X with pn:=X.pn++ai,xe:=zrN X ai σ W }
abbrev cxH (X:Cx) (a:Addr):Cx := { X with A:=X.A.mark (some (.ref a)),calm:=false,xe:=fun _ _=>False }
section
variable {X:Cx} {ai pins':List (Addr × Obj)} {σ τ:St} {H:Hp} {s:Shared} {W:XK}
theorem Inv.inTry (I:Inv X ai σ H s):Inv (zei X ai τ W) [] σ H s:=
 ⟨⟨I.ok.mod,I.ok.kind,I.ok.glob,I.ok.blt,I.ok.above,I.ok.inj,I.ok.has,I.ok.cab,I.ok.hd,I.ok.frames,I.ok.stk,I.ok.exf,I.ok.bs,I.ok.bsz,I.ok.noex,I.ok.exfs,I.ok.funs,I.ok.frf⟩,I.os,I.bare,I.bf,I.loc,I.cell,I.free,I.freeC,fun p hp=>I.pin p (by simpa using hp),I.hok,I.len⟩
theorem Inv.outTry (I:Inv (zei X ai τ W) pins' σ H s):Inv X ai σ H s:=
 ⟨⟨I.ok.mod,I.ok.kind,I.ok.glob,I.ok.blt,I.ok.above,I.ok.inj,I.ok.has,I.ok.cab,I.ok.hd,I.ok.frames,I.ok.stk,I.ok.exf,I.ok.bs,I.ok.bsz,I.ok.noex,I.ok.exfs,I.ok.funs,I.ok.frf⟩,I.os,I.bare,I.bf,I.loc,I.cell,I.free,I.freeC,fun p hp=>I.pin p (mem_append_left _ hp),I.hok,I.len⟩
theorem Inv.inH (I:Inv X ai σ H s) (a:Addr):Inv (cxH X a) ai σ H s:=
 ⟨⟨I.ok.mod,I.ok.kind,I.ok.glob,I.ok.blt,I.ok.above,I.ok.inj,I.ok.has,I.ok.cab,(fun z=>by cases z),I.ok.frames,I.ok.stk,I.ok.exf,I.ok.bs,I.ok.bsz,I.ok.noex,I.ok.exfs,I.ok.funs,I.ok.frf⟩,I.os,I.bare,I.bf,I.loc,I.cell,I.free,I.freeC,I.pin,I.hok,I.len⟩
theorem Inv.outH {a:Addr} (hc:X.calm=true->X.A.handled=none) (I:Inv (cxH X a) ai σ H s) (hfr:X.A.frames=some X.stack):Inv X ai σ H s:=
 ⟨⟨I.ok.mod,I.ok.kind,I.ok.glob,I.ok.blt,I.ok.above,I.ok.inj,I.ok.has,I.ok.cab,hc,hfr,I.ok.stk,I.ok.exf,I.ok.bs,I.ok.bsz,I.ok.noex,I.ok.exfs,I.ok.funs,I.ok.frf⟩,I.os,I.bare,I.bf,I.loc,I.cell,I.free,I.freeC,I.pin,I.hok,I.len⟩
theorem SP.outTry {D:Ends} {f:Flow} (h:SP (zei X ai τ W) pins' D f s):SP X ai D f s:=by
 cases f with
 | next=>obtain ⟨σ',H',I,q⟩:=h;exact ⟨σ',H',I.outTry,q⟩
 | brk=>obtain ⟨σ',H',I,q⟩:=h;exact ⟨σ',H',I.outTry,q⟩
 | cont=>obtain ⟨σ',H',I,q⟩:=h;exact ⟨σ',H',I.outTry,q⟩
 | ret u=>obtain ⟨v,σ',H',I,r,q⟩:=h;exact ⟨v,σ',H',I.outTry,r,q⟩
theorem zlv {e:Value} {s':Shared} (I:Inv (zei X ai σ W) pins' σ H s) (h:CX1 X.prog X.w X.stack H s W e s'):(zei X ai σ W).xe e s':=by
 obtain ⟨a,T,C,dx,vs,H2,rfl,os,gb,un,hok,hz,F,hE⟩:=h
 have J:=I.call' os un hok gb (fun b hb=>absurd hb (by simp))
 obtain ⟨b1,b2,b3,b4,b5⟩:=I.beyond F.new
 exact ⟨a,T,C,dx,vs,H2,rfl,J.outTry,F.low (Nat.zero_le _),⟨b1,b2,b3,fun p hp=>b4 p (mem_append_left _ hp)⟩,hE⟩
end
structure Cal1 (P:Program) (w:World) (K:W.Frag) (mg:Str->Option Value) (bf:Heap) (x:Str) (k:Nat) (ps:List Str) (sp:Sp):Prop where
 ex:∃f fd,FnOk P w K mg bf (CX1 P w) k f fd ps sp/\za2 K fd ps []/\mg x=some (.ref f)/\W.keepIn K (.ref f)=true
theorem Fun.ok1 {P:Program} {w:World} {K:W.Frag} {mg:Str->Option Value} {bf:Heap} {x qual:Str} {st:Stmt} {f:Addr} {fd:FuncData} {N ps:List Str} {k:Nat} {sp:Sp} (F:Fun K x qual st f fd) (S:FnScope N ps (zac st)) (len:∀vs H Q E,sp vs H Q E->vs.length=ps.length)
  (hbody:∀(cdv:Value) (A:Around) (outer:List Env) (s:Shared) (H:Hp) (vs:List V) (Q:VK) (E:XK),Room k (A.deeper (envOfC qual (zac st) s.heap.objs.size f cdv))->sp vs H Q E->
    ∃t,PSs (cxOf (CX1 P w) P w K mg bf N qual (zac st) f cdv A outer s H E) (zan st) t/\t { nx:=fun _ H'=>Q .non H',rt:=Q } (zfz N vs) H):FnOk P w K mg bf (CX1 P w) (k+1) f fd ps sp:=by
 obtain ⟨oc,od,kV,doc,pm,an,cdv,ct,osl,rfl,lk,hcd⟩:=F.ex
 exact zmk lk hcd S len fun A outer s H vs Q E hr hsp=>hbody cdv A outer s H vs Q E hr hsp
section
variable {X:Cx} {k:Nat} {ps:List Str} {sp:Sp} {x:Str} {p pos:Pos} {e:Expr} {es:List Expr} {t:TA}
end
abbrev TH:=Addr->Addr->Hp->St->Ends->Prop
structure AtH (X:Cx) (ai:List (Addr × Obj)) (σ:St) (H:Hp) (a C:Addr) (dx:Option Addr) (s:Shared):Prop where
 I:Inv X ai σ H s
 ex:∃T vs,Flies s.heap H 0 a C T dx vs/\Aside X ai T
def PH (X:Cx) (hs:List ExceptHandler) (t:TH):Prop:=∀(ai:List (Addr × Obj)) (σ:St) (H:Hp) (a C:Addr) (dx:Option Addr) (s:Shared) (D:Ends),AtH X ai σ H a C dx s->(∀vs',t C a (upd H a (XcO a C dx vs')) σ D)->
 wpAny (model X.prog X.w) X.A (handleBy (.ref a) X.env hs) (SP X ai D) X.xe s
def hAs (K:W.Frag) (Dc:Addr) (i:Nat) (ts:TS) (rest:TH):TH:=fun C a H σ D=>∃b,W.mroIn K C (.ref Dc)=some b/\
 if b=true then ts { nx:=fun σ' H'=>D.nx (σ'.set i none) H',rt:=D.rt,bk:=fun σ' H'=>D.bk (σ'.set i none) H',ct:=fun σ' H'=>D.ct (σ'.set i none) H' } (σ.set i (some (.ref a))) H else rest C a H σ D
def zrO:TH:=fun _ _ _ _ _=>False
theorem zfU {X:Cx} {hs:List ExceptHandler}:PH X hs zrO:=fun _ _ _ _ _ _ _ _ _ h=>(h #[]).elim
theorem AtH.flight {X:Cx} {ai:List (Addr × Obj)} {σ:St} {H:Hp} {a C:Addr} {dx:Option Addr} {s:Shared} {A:Around} {E:Value->Shared->Prop} {Q:Unit->Shared->Prop} (z:AtH X ai σ H a C dx s)
  (h:∀s' vs',AtH X ai σ (upd H a (XcO a C dx vs')) a C dx s'->Q () s'):wpAny (model X.prog X.w) A (setFlight (.ref a) none) Q E s:=by
 obtain ⟨T,vs,F,G⟩:=z.ex
 refine zfS (F.xat z.I) fun h' x up=>?_
 obtain ⟨x1,x2,x3,vs',oT,ts,he,h1,hnT,hTe,hT,hdT,h3⟩:=x
 refine h _ vs' ⟨z.I.shaken F.at_ (fun b hb=>?_) (fun b hb=>?_) x1 up he,T,vs',⟨zam,h1,Nat.zero_le _,?_,hTe,zfT F.at_ F.dict,oT,ts,hT,hdT,h3⟩,G⟩
 ·have e:b=T:=by simpa using hb
  rw [e];exact F.free
 ·have e:b=T:=by simpa using hb
  rw [e];exact G.p
 ·rw [zah hTe];exact F.free
theorem zej {X:Cx} {ai:List (Addr × Obj)} {σ:St} {H:Hp} {s:Shared} {M:Model} {A:Around} {E:Value->Shared->Prop} {Q:Unit->Shared->Prop} {i:Nat} {n:Str} {pos:Pos} (I:Inv X ai σ H s) (hN:X.N.Nodup) (hi:X.N[i]?=some n) (hl:X.env.scope.names.lookup n=some .local)
  (h:∀s',Inv X ai (σ.set i none) H s'->Q () s'):wpAny M A (do bindName X.env n .none;unbindBehindTheSuite X.env n pos) Q E s:=by
 obtain ⟨m,hn,hlo⟩:=id I.loc
 have hcls:(X.env.scope.kind==.class||(X.env.scope.kind==.module&&X.env.locals != X.env.globals))=false:=by rw [I.ok.kind];rfl
 refine wpAny_nameGoes_keeps hl hn hcls fun h' v hn' hs=>h _ ?_
 have bf:Inv X ai (σ.set i none) H s:=I.weak (by simp) fun j w e=>by
  by_cases hj:j=i
  ·subst hj
   rw [List.getElem?_set] at e
   split at e
   ·split at e<;>cases e
   ·exact e
  ·rw [getElem?_set_ne (Ne.symm hj)] at e
   exact e
 obtain ⟨oL,_,_,hoL,_⟩:=id hn
 have tracked:HOk X.prog X.w H h':=fun b ob e=>by
  refine (I.hok b ob e).stay (fun c w' hc q=>(hs.2 c ?_).trans q) (fun _ q=>q) (fun _ _ q=>q) fun _ _ _ q=>q
  rintro rfl
  rcases hc with z | z
  ·rw [<-z,I.free] at e;cases e
  ·rw [I.free] at z;cases z
 have nl:∀b o,X.s₀.heap.get? b=some o->b≠X.env.locals:=fun b o e=>Nat.ne_of_lt (Nat.lt_of_lt_of_le (Heap.lt_size e) I.ok.above)
 refine ⟨I.ok,I.os,I.bare,⟨fun b o e n hb hx=>(hs.2 b (nl b o e)).trans (I.bf.keep b o e n hb hx),fun b o e n hb hx=>?_,I.bf.free,fun b o e hx=>?_,I.bf.tups,I.bf.frzs,I.bf.tbls⟩,⟨_,hn',fun j y v' e1 e2 e3=>?_⟩,fun y c e=>?_,I.free,I.freeC,fun p hp=>?_,tracked,bf.len⟩
 ·obtain ⟨sl,e1⟩:=I.bf.slot b o e n hb hx
  exact ⟨sl,(hs.2 b (nl b o e)).trans e1⟩
 ·obtain ⟨o',e1⟩:=I.bf.there b o e hx
  exact ⟨o',(hs.2 b (nl b o e)).trans e1⟩
 ·have hj:j≠i:=by
   rintro rfl
   rw [List.getElem?_set] at e2
   split at e2
   ·split at e2<;>cases e2
   ·rename_i z;exact absurd rfl z
  rw [getElem?_set_ne (Ne.symm hj)] at e2
  obtain ⟨u',r',q⟩:=hlo j y v' e1 e2 e3
  refine ⟨u',r',?_⟩
  rcases q with ⟨k,e⟩ | ⟨k,c,e,z⟩
  ·refine .inl ⟨k,?_⟩
   have:y≠n:=fun e=>hj (zhC hN e1 (e▸hi))
   simp [this,e]
  ·exact .inr ⟨k,c,e,z.sameBut hs (I.cne y c e)⟩
 ·obtain ⟨w',z⟩:=I.cell y c e
  exact ⟨w',z.sameBut hs (I.cne y c e)⟩
 ·obtain ⟨e,n,ne,nf,d⟩:=I.pin p hp
  exact ⟨(hs.2 p.1 ne).trans e,n,ne,nf,d⟩
section
variable {X:Cx} {Dc:Addr} {i:Nat} {n d:Str} {np pos:Pos} {b₀:Stmt} {suite:List Stmt} {rest:List ExceptHandler} {ts:TS} {tr:TH}
theorem AtH.test {ai:List (Addr × Obj)} {σ:St} {H:Hp} {a C:Addr} {dx:Option Addr} {s:Shared} {R:Result->Shared->Prop} {b:Bool} (z:AtH X ai σ H a C dx s) (hg:Gl X d) (hm:X.mg d=some (.ref Dc)) (hb:W.mroIn X.K Dc (.type "BaseException")=some true)
  (ht:W.typeIn X.K (.ref Dc)=some (.type "type")) (he:W.mroIn X.K C (.ref Dc)=some b) (hdb:(d==("__debug__" : Str))=false) (h:R (.ok (if b then .brk else .next)) s):
  codeAny (model X.prog X.w) (X.A.mark (some (.ref a))) (.handlers (.ref a) [.ExceptHandler (some (.Name d np)) none [] pos] X.env) R s:=by
 refine codeAny_handlers_test ?_
 obtain ⟨T,vs,F,G⟩:=z.ex
 obtain ⟨od,J⟩:=z.I.inst F.at_ F.dict
 exact zcm (X:=cxH X a) (z.I.inH a) hg hm (W.xmatch z.I.kIn J hb ht he h) hdb
theorem zmM (hs:∀a,PSs (cxH X a) (b₀::suite) ts) (hr:PH X rest tr) (hN:X.N.Nodup) (hi:X.N[i]?=some n) (hl:X.env.scope.names.lookup n=some .local) (hg:Gl X d) (hm:X.mg d=some (.ref Dc)) (hb:W.mroIn X.K Dc (.type "BaseException")=some true)
  (ht:W.typeIn X.K (.ref Dc)=some (.type "type")) (hdb:(d==("__debug__" : Str))=false:=by decide):PH X (.ExceptHandler (some (.Name d np)) (some n) (b₀::suite) pos::rest) (hAs X.K Dc i ts tr):=by
 with_unfolding_all
  intro ai σ H a C dx s D z h
  obtain ⟨b,he,_⟩:=h #[]
  have h':∀vs',if b=true then ts { nx:=fun σ' H'=>D.nx (σ'.set i none) H',rt:=D.rt,bk:=fun σ' H'=>D.bk (σ'.set i none) H',ct:=fun σ' H'=>D.ct (σ'.set i none) H' } (σ.set i (some (.ref a))) (upd H a (XcO a C dx vs')) else tr C a (upd H a (XcO a C dx vs')) σ D:=fun vs'=>by
   obtain ⟨b',he',q⟩:=h vs'
   rw [he] at he'
   cases he'
   exact q
  refine wpAny_handleBy_cons (z.test hg hm hb ht he hdb ?_) (by intro q;cases q)
  cases b with
  | false=>exact hr ai σ H a C dx s D z fun vs'=>by have q:=h' vs';rw [if_neg Bool.false_ne_true] at q;exact q
  | true=>
    refine codeAny_handlers_suite_as (z.flight fun s1 vs1 z1=>?_)
    have q:=h' vs1
    rw [if_pos rfl] at q
    refine zfQ (X:=cxH X a) (z1.I.inH a) hN hi (.inl hl) (v:=.ref a) rfl (fun s2 I2=>?_) (.inr hl)
    refine wpAny_mono (hs a ai s2 _ _ _ I2 q) (fun f s3 hsp=>?_) fun _ _ zf=>zf.elim
    cases f with
    | next=>obtain ⟨σ',H',I3,q3⟩:=hsp;exact zej (I3.outH z.I.ok.hd z.I.ok.frames) hN hi hl fun s4 I4=>⟨_,H',I4,q3⟩
    | brk=>obtain ⟨σ',H',I3,q3⟩:=hsp;exact zej (I3.outH z.I.ok.hd z.I.ok.frames) hN hi hl fun s4 I4=>⟨_,H',I4,q3⟩
    | cont=>obtain ⟨σ',H',I3,q3⟩:=hsp;exact zej (I3.outH z.I.ok.hd z.I.ok.frames) hN hi hl fun s4 I4=>⟨_,H',I4,q3⟩
    | ret u=>obtain ⟨v,σ',H',I3,r3,q3⟩:=hsp;exact zej (I3.outH z.I.ok.hd z.I.ok.frames) hN hi hl fun s4 I4=>⟨v,_,H',I4,r3,q3⟩
def tTry (tb:XK->TS) (th:TH):TS:=fun D σ H=>Box (∃W:XK,tb W D σ H/\∀C a H',(∃dx vs,H' a=some (XcO a C dx vs))->W (.ref C) (some a) H'->th C a H' σ D)
theorem zkE {body:List Stmt} {h₀:ExceptHandler} {hs:List ExceptHandler} {tb:XK->TS} {th:TH} (hst:X.stack=X.env::X.outer) (hfm:X.env.frame=some X.env.locals) (hb:∀ai σ W,PSs1 (zei X ai σ W) σ body (tb W)) (hh:PH X (h₀::hs) th):
  PS X (.Try body (h₀::hs) [] [] pos) (tTry tb th):=by
 with_unfolding_all
  intro ai s σ H D I h
  obtain ⟨W,hw,hc⟩:=h.un
  refine wpAny_Try_except (wpAny_mono (hb ai σ W [] s H D I.inTry hw) (fun f s1 q=>?_) fun e s1 q=>?_)
  ·cases f with
   | next=>exact wpAny_execs_nil q.outTry
   | brk=>exact q.outTry
   | cont=>exact q.outTry
   | ret u=>exact q.outTry
  ·obtain ⟨a,T,C,dx,vs,H1,rfl,J,F,G,hW⟩:=q
   have hfr:=J.ok.frames
   have xa:=F.xat J
   rw [hst] at hfr xa
   refine zgm (L:=X.env.locals) hfr hfm xa fun h1 T1 x1 up1 hn1=>?_
   refine zfS (s := { s1 with heap:=h1 }) x1 fun h2 x2 up2=>?_
   rw [<-hst] at x2
   obtain ⟨y1,y2,y3,vs',oT,ts,he,y4,hnT,hTe,hT,hdT,h3⟩:=x2
   obtain ⟨b1,b2,b3,b4,b5⟩:=J.beyond hn1
   have J':=J.shaken F.at_ (fun b hb=>by have e:b=T:=by simpa using hb
                                         rw [e];exact F.free) (fun b hb=>by have e:b=T:=by simpa using hb
                                                                            rw [e];exact G.p) y1 (up1.trans up2) he
   refine hh ai σ _ a C dx _ D ⟨J',T1,vs',⟨zam,y4,Nat.zero_le _,?_,hTe,zfT F.at_ F.dict,oT,ts,hT,hdT,h3⟩,⟨b1,b2,b3,b4⟩⟩ fun vs2=>?_
   ·rw [zah hTe];exact J.hok.fresh hn1
   ·rw [zjA];exact hc C a _ ⟨dx,vs2,zam⟩ (hW vs2)
end
end
end L2
namespace L2
open PySem PySem.Spec PyProof.Rows
section
theorem zek:bootBuiltins "ValueError" = some (.type "ValueError"):=by decide +kernel
inductive TyX (K:W.Frag) (H:Hp):V->Value->Prop where
 | old {x:V} {t:Value} (h:TyOf K H x t):TyX K H x t
 | exc {a C:Addr} (h:IsX K H a C):TyX K H (.ref a) (.ref C)
section
variable {X:Cx}
theorem zmN {ai:List (Addr × Obj)} {σ:St} {H:Hp} {s:Shared} {A:Around} {E:Value->Shared->Prop} {Q:Value->Shared->Prop} {c:Value} {b:Bool} {x:V} {u t:Value} (I:Inv X ai σ H s) (rx:RelV x u) (ty:TyX X.K H x t) (e:W.kitOne X.K t c=some b) (h:∀tk,Q (.bool b) { s with toks:=tk }):
  wpAny (model X.prog X.w) A (call (.builtin "isinstance") [u,c]) Q E s:=by
 cases ty with
 | old ty=>exact zmg I rx ty e h
 | @exc a C z=>
   cases (show u=Value.ref a from rx)
   obtain ⟨dx,vs,h1,h2⟩:=z.at_
   obtain ⟨od,J⟩:=I.inst h1 h2
   obtain ⟨ini,hi⟩:=z.cls.xc
   exact W.kia_one (W.kitx_exc hi z.cls.ga z.cls.gn z.cls.hd z.cls.cl z.cls.cg z.cls.ct z.cls.mo) I.kIn J e (fun z=>nomatch z) h
theorem zb6 {n:String}:zcE X (.builtin "isinstance") (fun xs H Q=>∃x t b,xs=[x,.ty n]/\TyX X.K H x t/\W.kitOne X.K t (.type n)=some b/\Q (.bl b) H):=by
 intro ai s σ H xs us Q I r h
 obtain ⟨x,t,b,rfl,ty,e,q⟩:=h
 obtain ⟨u,w',rfl,ru,rw'⟩:=zoj r
 cases (show w'=Value.type n from rw')
 exact zmN I ru ty e fun tk=>⟨.bl b,H,I.tok tk,rfl,q⟩
theorem ziN {C:Addr}:zcE X (.builtin "isinstance") (fun xs H Q=>∃x t b,xs=[x,.ref C]/\TyX X.K H x t/\W.kitOne X.K t (.ref C)=some b/\Q (.bl b) H):=by
 intro ai s σ H xs us Q I r h
 obtain ⟨x,t,b,rfl,ty,e,q⟩:=h
 obtain ⟨u,w',rfl,ru,rw'⟩:=zoj r
 cases (show w'=Value.ref C from rw')
 exact zmN I ru ty e fun tk=>⟨.bl b,H,I.tok tk,rfl,q⟩
def clsV:V->Value
 | .ref a=>.ref a
 | .ty n=>.type n
 | _=>.none
def zqt:V->Bool
 | .ref _=>true
 | .ty _=>true
 | _=>false
theorem zkF:∀ {xs:List V} {us:List Value},Vals xs us->xs.all zqt=true->us=xs.map clsV
 | _,_,.nil,_=>rfl
 | x::xs,u::us,.cons r t,h=>by
   rw [all_cons,Bool.and_eq_true] at h
   rw [map_cons,<-zkF t h.2]
   congr 1
   cases x with
   | ref a=>exact r
   | ty n=>exact r
   | _=>exact absurd h.1 Bool.false_ne_true
end
structure XD (K:W.Frag) (C:Addr) (up:List Value):Prop where
 cd:∃cd,W.clsIn K C=some cd/\cd.mro=.ref C::up
 ty:W.typeIn K (.ref C)=some (.type "type")
theorem XD.mro {K:W.Frag} {C:Addr} {up:List Value} (h:XD K C up) (v:Value):W.mroIn K C v=some ((Value.ref C::up).contains v):=by
 obtain ⟨cd,e,m⟩:=h.cd
 unfold W.mroIn
 rw [e,Option.bind_some,m,if_neg (by simp)]
theorem XD.kit {K:W.Frag} {C D:Addr} {up up':List Value} (h:XD K C up) (h':XD K D up'):W.kitOne K (.ref C) (.ref D)=some ((Value.ref C::up).contains (.ref D)):=by
 obtain ⟨cd',e',m'⟩:=h'.cd
 unfold W.kitOne
 by_cases q:(Value.ref C==Value.ref D)=true
 ·rw [if_pos q,contains_cons]
  have:(Value.ref D==Value.ref C)=true:=by
   rw [beq_iff_eq] at q ⊢
   exact q.symm
  rw [this,Bool.true_or]
 ·rw [if_neg q]
  show (if ((W.clsIn K D).isSome&&W.typeIn K (.ref D)==some (.type "type"))=true then W.subIn K (.ref C) (.ref D) else none)=_
  rw [e',h'.ty]
  rw [if_pos (by simp)]
  exact h.mro _
theorem XD.kitT {K:W.Frag} {C:Addr} {up:List Value} {n:String} (h:XD K C up) (hm:W.kitMeta n=true):W.kitOne K (.ref C) (.type n)=some (up.contains (.type n)):=by
 unfold W.kitOne
 rw [if_neg (by simp)]
 show (if W.kitMeta n=true then W.subIn K (.ref C) (.type n) else none)=_
 rw [if_pos hm]
 show W.mroIn K C (.type n)=_
 rw [h.mro,contains_cons]
 rfl
structure XCal (P:Program) (w:World) (K:W.Frag) (mg:Str->Option Value) (bf:Heap) (x:Str) (C:Addr) (f:Str):Prop where
 ex:∃fI fd ps,XMk K C (some fI)/\zal K C f/\FnOk P w K mg bf CX0 1 fI fd ps (zeK K C f)/\za2 K fd ps []/\mg x=some (.ref C)
structure XCal0 (K:W.Frag) (mg:Str->Option Value) (x:Str) (C:Addr):Prop where
 made:XMk K C none
 m:mg x=some (.ref C)
section
variable {X:Cx} {C:Addr} {f x:Str} {p pos:Pos} {e:Expr} {es:List Expr} {t:TA}
theorem zgo (h:XCal X.prog X.w X.K X.mg X.bf x C f) (hr:Room 2 X.A) (hg:Gl X x) (ha:PA X (e::es) t) (hdb:(x==("__debug__" : Str))=false:=by decide) (he:starEach (e::es) X.env=(false,eval e X.env)::starEach es X.env:=by rfl) (hpl:(backTo pos (starEach es X.env)).any (·.1)=false:=by rfl):
  PE X (.Call (.Name x p) (e::es) [] pos) (zpv C f t):=by
 obtain ⟨fI,fd,ps,M,n,F,b,m⟩:=h.ex
 exact zox M n F hr b hg m ha hdb he hpl
theorem zkG (h:XCal0 X.K X.mg x C) (hg:Gl X x) (hdb:(x==("__debug__" : Str))=false:=by decide):PE X (.Call (.Name x p) [] [] pos) (zmJ C):=zmL h.made hg h.m hdb
theorem zdr {P:Program} {w:World} {K:W.Frag} {mg:Str->Option Value} {bf:Heap} {qual sf:Str} {st:Stmt} {fI:Addr} {fd:FuncData} {C:Addr} {fn:Str} {p1 p2 p3 p4:Pos} (F:Fun K "__init__" qual st fI fd) (S:FnScope ["self",sf] ["self",sf] (zac st))
  (hb:zan st=[.Assign [.Attribute (.Name "self" p1) fn p2] (.Name sf p3) p4])
  (h1:(zac st).names.lookup ("self" : Str)=some NameKind.local) (h2:(zac st).names.lookup sf=some NameKind.local) (hd:(sf==("__debug__" : Str))=false) (hc:(sf==("__classdict__" : Str))=false)
  (hs:∀env:Env,swapsWith (.Name sf p3) (some (.Attribute (.Name "self" p1) fn p2)) p4.line env=pure false):
  FnOk P w K mg bf CX0 1 fI fd ["self",sf] (zeK K C fn):=by
 refine F.ok S (fun vs H Q E h=>?_) (fun cdv A outer s H vs Q E hr h=>?_)
 ·obtain ⟨a,v,ws,rfl,_⟩:=h
  rfl
 obtain ⟨a,v,ws,rfl,c,n,ea,q⟩:=h
 rw [hb]
 refine ⟨_,zaf (zqs (zl5 (i:=0) rfl (.inl h1) (by decide) (by decide)) (zl5 (i:=1) rfl (.inl h2) hd hc) (hs _)),?_⟩
 exact ⟨_,rfl,_,rfl,a,C,ws,rfl,ea,c,n,fun d H3 k1 hd k2 k3=>q d H3 k1 hd k2 k3⟩
end
section
variable {X:Cx}
end
end
end L2
namespace L2
open PySem PySem.Spec PyProof.Rows
section
section
variable {X:Cx}
theorem zmO:zcE X (.builtin "isinstance") (fun xs H Q=>∃x t b p cs,xs=[x,.ref p]/\H p=some (.tup cs)/\cs.all zqt=true/\TyX X.K H x t/\W.kitAny X.K t (cs.map clsV)=some b/\Q (.bl b) H):=by
 intro ai s σ H xs us Q I r h
 obtain ⟨x,t,b,p,cs,rfl,hp,hc,ty,e,q⟩:=h
 obtain ⟨u,w',rfl,ru,rw'⟩:=zoj r
 cases (show w'=Value.ref p from rw')
 obtain ⟨_,its,rv,o,ho,hcl,n,hd⟩:=(show zaU X.prog X.w H s.heap p (.tup cs) from I.hok p _ hp)
 have ei:=zkF rv hc
 subst ei
 obtain ⟨oc,od,oda,osl⟩:=o
 dsimp only at hcl hd
 subst hcl hd
 have fin:∀tk,EP X ai σ Q (.bool b) { s with toks:=tk }:=fun tk=>⟨.bl b,H,I.tok tk,rfl,q⟩
 cases ty with
 | @exc a C z=>
   cases (show u=Value.ref a from ru)
   obtain ⟨dx,vs,h1,h2⟩:=z.at_
   obtain ⟨od,J⟩:=I.inst h1 h2
   obtain ⟨ini,hi⟩:=z.cls.xc
   exact W.kia_tup (W.kitx_exc hi z.cls.ga z.cls.gn z.cls.hd z.cls.cl z.cls.cg z.cls.ct z.cls.mo) I.kIn J ho e (fun z=>nomatch z) fin
 | old ty=>
   cases ty with
   | non=>cases (show u=Value.none from ru);exact W.kia_tup W.kitx_none I.kIn True.intro ho e (fun z=>nomatch z) fin
   | bl y=>cases (show u=Value.bool y from ru);exact W.kia_tup W.kitx_bool I.kIn True.intro ho e (fun z=>nomatch z) fin
   | int i=>obtain ⟨t,z⟩:=(show ∃t,u=Value.int i t from ru);cases z;exact W.kia_tup W.kitx_int I.kIn True.intro ho e (fun z=>nomatch z) fin
   | str y=>obtain ⟨t,z⟩:=(show ∃t,u=Value.str y t from ru);cases z;exact W.kia_tup W.kitx_str I.kIn True.intro ho e (fun z=>nomatch z) fin
   | flt y=>obtain ⟨t,z⟩:=(show ∃t,u=Value.float y t from ru);cases z;exact W.kia_tup W.kitx_float I.kIn True.intro ho e (fun z=>nomatch z) fin
   | @lst a xs ea=>
     cases (show u=Value.ref a from ru)
     obtain ⟨_,_,n,_,h1⟩:=(show zaU X.prog X.w H s.heap a (.lst xs) from I.hok a _ ea)
     exact W.kia_tup W.kitx_list I.kIn ⟨_,h1,rfl⟩ ho e (fun z=>nomatch z) fin
   | @frz a ob xs ea=>
     cases (show u=Value.ref a from ru)
     obtain ⟨_,_,_,n,_,h1⟩:=(show zaU X.prog X.w H s.heap a (.frz ob (.lst xs)) from I.hok a _ ea)
     exact W.kia_tup W.kitx_list I.kIn ⟨_,h1,rfl⟩ ho e (fun z=>nomatch z) fin
   | @tup a xs ea=>
     cases (show u=Value.ref a from ru)
     obtain ⟨_,_,_,p⟩:=(show zaU X.prog X.w H s.heap a (.tup xs) from I.hok a _ ea)
     obtain ⟨o,h1,h2,_⟩:=p
     exact W.kia_tup W.kitx_tuple I.kIn ⟨o,h1,h2⟩ ho e (fun z=>nomatch z) fin
   | @dK a kvs ea=>
     cases (show u=Value.ref a from ru)
     obtain ⟨_,_,vs,_,p⟩:=(show zaU X.prog X.w H s.heap a (.dK kvs) from I.hok a _ ea)
     obtain ⟨o,es,ep,h1,h2,_⟩:=p
     exact W.kia_tup W.kitx_dict I.kIn ⟨o,h1,h2.1⟩ ho e (fun z=>nomatch z) fin
   | @dT a kvs ea=>
     cases (show u=Value.ref a from ru)
     obtain ⟨_,_,xs,_,o,es,ep,h1,h2,_⟩:=(show zaU X.prog X.w H s.heap a (.dT kvs) from I.hok a _ ea)
     exact W.kia_tup W.kitx_dict I.kIn ⟨o,h1,h2.1⟩ ho e (fun z=>nomatch z) fin
   | @ins a C dx fs ea cl ha hn htk hm=>
     cases (show u=Value.ref a from ru)
     obtain ⟨mA,O,_⟩:=zge I.hok ea
     obtain ⟨od,J,_⟩:=O.look
     exact W.kia_tup (W.kitx_own (cl.get _) cl.hd ha hn htk hm) I.kIn J ho e (fun z=>nomatch z) fin
end
theorem XD.bf {K:W.Frag} {C:Addr} {up:List Value} (h:XD K C up) (hb:up.contains (.type "BaseException")=true):W.mroIn K C (.type "BaseException")=some true:=by
 rw [h.mro,contains_cons,hb,Bool.or_true]
structure Told (K:W.Frag) (H:Hp) (a C:Addr) (f:Str) (v:V):Prop where
 ex:∃d ws,H a=some (XcO a C (some d) ws)/\H d=some (.xd [(f,v)])
theorem Told.isX {K:W.Frag} {H:Hp} {a C:Addr} {f:Str} {v:V} (c:XCls K C) (h:Told K H a C f v):IsX K H a C:=let ⟨d,ws,e1,e2⟩:=h.ex;⟨c,some d,ws,e1,fun y q=>by cases q;exact ⟨_,e2⟩⟩
theorem zcz {K:W.Frag} {H H1:Hp} {C:Addr} {f:Str} {v:V} {E:XK} (s0:Same H H1) (hE:∀a H',Same H H'->Told K H' a C f v->E (.ref C) (some a) H'):
  ∀a d ws H2,Same H1 H2->H1 a=none->ws[1]?=some Value.none->H2 a=some (XcO a C (some d) ws)->H2 d=some (.xd [(f,v)])->
   ∃a' dx vs,V.ref a=.ref a'/\H2 a'=some (XcO a' C dx vs)/\vs[1]?=some Value.none/\(∀y,dx=some y->∃fs,H2 y=some (.xd fs))/\∀vs',E (.ref C) (some a') (upd H2 a' (XcO a' C dx vs')):=by
 intro a d ws H2 s1 n1 u1 e1 f1
 refine ⟨a,some d,ws,rfl,e1,u1,fun y q=>by cases q;exact ⟨_,f1⟩,fun vs'=>hE a _ (fun b o q=>?_) ⟨d,vs',zam,?_⟩⟩
 ·have na:b≠a:=zaj (s0 b o q) n1
  rw [zah na]
  exact s1 b o (s0 b o q)
 ·rw [zah (zlg f1 e1 (by intro z;cases z))]
  exact f1
structure Cl where
 n:Int
 wt:Int
 wb:Int
 st:Int
 sb:Int
 came:Int
structure Cl.Ok (c:Cl):Prop where
 n0:0<=c.n
 w0:0<=c.wt
 w1:c.wt<=1000000
 w2:1<=c.wb
 w3:c.wb<=12
 s0:0<=c.st
 s1:c.st<=1000000
 s2:1<=c.sb
 s3:c.sb<=12
 c0:0<=c.came
 c1:c.came<=1000000000000000
structure IsCl (K:W.Frag) (H:Hp) (p:Addr) (c:Cl):Prop where
 ex:∃pw ps,H p=some (.tup [.int c.n,.ref pw,.ref ps,.int c.came])/\H pw=some (.tup [.int c.wt,.int c.wb])/\H ps=some (.tup [.int c.st,.int c.sb])
theorem IsCl.same {K:W.Frag} {H H':Hp} {p:Addr} {c:Cl} (s:Same H H') (h:IsCl K H p c):IsCl K H' p c:=let ⟨pw,ps,a,b,d⟩:=h.ex;⟨pw,ps,s _ _ a,s _ _ b,s _ _ d⟩
end
end L2
namespace L2
open PySem PySem.Spec PyProof.Rows
section
def But (p:Addr) (H H':Hp):Prop:=∀b o,b≠p->H b=some o->H' b=some o
theorem But.trans {p:Addr} {H H1 H2:Hp} (a:But p H H1) (b:But p H1 H2):But p H H2:=fun c o hc h=>b c o hc (a c o hc h)
theorem Same.toBut {p:Addr} {H H':Hp} (s:Same H H'):But p H H':=fun c o _ h=>s c o h
theorem Same.but {p:Addr} {H0 H H':Hp} (s:Same H0 H) (n:H0 p=none) (b:But p H H'):Same H0 H':=fun c o h=>b c o (zaj h n) (s c o h)
theorem But.upd (p:Addr) (H:Hp) (o:HO):But p H (L2.upd H p o):=fun c u hc h=>by rw [zah hc];exact h
theorem IsCl.but {K:W.Frag} {H H':Hp} {p q:Addr} {c:Cl} {xs:List V} (b:But q H H') (hq:H q=some (.lst xs)) (h:IsCl K H p c):IsCl K H' p c:=by
 obtain ⟨pw,ps,e1,e2,e3⟩:=h.ex
 exact ⟨pw,ps,b _ _ (zlg e1 hq (by intro z;cases z)) e1,b _ _ (zlg e2 hq (by intro z;cases z)) e2,b _ _ (zlg e3 hq (by intro z;cases z)) e3⟩
section
variable {X:Cx}
def zrP:V->V->V->Hp->(Hp->Prop)->Prop:=fun o i v H Q=>∃p xs k j,o=.ref p/\i=.int k/\H p=some (.lst xs)/\ixN xs.length k=some j/\∀H2,But p H H2->H2 p=some (.lst (xs.set j v))->Q H2
theorem ziO:PSet X zrP:=by
 intro ai s σ H o i v ov iv u Q I ro ri rv h
 obtain ⟨p,xs,k,j,e1,e2,hp,hj,q⟩:=h
 exact zot ai s σ H o i v ov iv u Q I ro ri rv ⟨p,xs,k,j,e1,e2,hp,hj,q _ (But.upd p H _) zam⟩
def zoz:V->List V->Hp->VK->Prop:=fun x vs H Q=>∃l xs y,x=.ref l/\vs=[y]/\H l=some (.lst xs)/\xs.length<sizeLine/\∀H2,But l H H2->H2 l=some (.lst (xs++[y]))->Q .non H2
theorem zlw:MtR X "list.append" zoz:=by
 intro ai s σ H x vs v us Q I rx rv h
 obtain ⟨l,xs,y,e1,e2,hp,hz,q⟩:=h
 exact ziD ai s σ H x vs v us Q I rx rv ⟨l,xs,y,e1,e2,hp,hz,q _ (But.upd l H _) zam⟩
theorem ziP:zcE X (.type "list") (fun xs H Q=>∃p ys,xs=[.ref p]/\(SqL X.K H p ys\/SqT X.K H p ys)/\∀l H2,Same H H2->H l=none->H2 l=some (.lst ys)->Q (.ref l) H2):=by
 intro ai s σ H xs us Q I r h
 obtain ⟨p,ys,e,h,q⟩:=h
 exact ziC ai s σ H xs us Q I r ⟨p,ys,e,h,fun l n=>q l _ (zbn n _) n zam⟩
def ztc (K:W.Frag):V->Option Int->Option Int->Hp->VK->Prop:=fun x lo hi H Q=>∃a xs,x=.ref a/\SqL K H a xs/\∀p H2,Same H H2->H p=none->H2 p=some (.lst (cutV xs lo hi))->Q (.ref p) H2
theorem zoA:SlR X (ztc X.K):=by
 intro ai s σ H v u vl vu lo hi sl Q I rx hs pl pu h
 obtain ⟨a,xs,e,hx,q⟩:=h
 exact zqj ai s σ H v u vl vu lo hi sl Q I rx hs pl pu ⟨a,xs,e,hx,fun p n=>q p _ (zbn n _) n zam⟩
end
structure IsW (H:Hp) (p:Addr) (t b:Int):Prop where
 at_:H p=some (.tup [.int t,.int b])
 t0:0<=t
 t1:t<=1000000
 b0:1<=b
 b1:b<=12
theorem IsW.same {H H':Hp} {p:Addr} {t b:Int} (s:Same H H') (h:IsW H p t b):IsW H' p t b:=⟨s _ _ h.at_,h.t0,h.t1,h.b0,h.b1⟩
theorem zbH {X:Cx}:zcx (CX1 X.prog X.w) X E0:=by
 intro ai σ H s e s' I h
 obtain ⟨a,T,C,dx,vs,H2,rfl,os,gb,un,hok,hz,F,hE⟩:=h
 exact (hE #[]).elim
end
end L2
namespace L2
open PySem
def wtop (c:Cl) (t:Int):Int:=c.wt*c.sb+(t-c.came)*c.st*c.wb
def wbot (c:Cl):Int:=c.wb*c.sb
theorem zgp {c:Cl} (h:c.Ok):0<wbot c:=Int.mul_pos (by have:=h.w2;omega) (by have:=h.s2;omega)
def gap (c d:Cl) (t:Int):Int:=wtop c t*wbot d-wtop d t*wbot c
theorem zkH (c d:Cl) (t:Int):gap d c t = - gap c d t:=by unfold gap;omega
def tie (c d:Cl):Bool:=decide (c.came<d.came\/(c.came=d.came/\c.n<d.n))
def ahd (c d:Cl) (t:Int):Bool:=if gap c d t=0 then tie c d else decide (0<gap c d t)
theorem zoB {c d:Cl} (h:c.n≠d.n):tie d c = !tie c d:=by
 unfold tie
 rw [Bool.eq_iff_iff,Bool.not_eq_true',decide_eq_true_iff,decide_eq_false_iff_not]
 omega
theorem zkI {c d:Cl} (h:c.n≠d.n) (t:Int):ahd d c t = !ahd c d t:=by
 unfold ahd
 rw [zkH c d t]
 by_cases z:gap c d t=0
 ·rw [if_pos (by omega),if_pos z,zoB h]
 ·rw [if_neg (by omega),if_neg z,Bool.eq_iff_iff,Bool.not_eq_true',decide_eq_true_iff,decide_eq_false_iff_not]
  omega
inductive Pass (b l:Cl) (t:Int):V->Prop where
 | no (h:∀u,t<=u->ahd b l u=false):Pass b l t .non
 | at_ (u:Int) (h1:t<u) (h2:ahd b l u=true) (h3:∀v,t<=v->v<u->ahd b l v=false):Pass b l t (.int u)
structure PassOf (c d:Cl) (t:Int) (v:V):Prop where
 one:ahd c d t=true->Pass d c t v
 two:ahd c d t=false->Pass c d t v
structure IsLc (H:Hp) (l:Addr) (n:Int) (c:Int):Prop where
 ex:∃w s t b u d,H l=some (.lst [.int n,.ref w,.ref s,.int c])/\IsW H w t b/\IsW H s u d
 c0:0<=c
 c1:c<=1000000000000000
end L2
namespace L2
open PySem PySem.Spec PyProof.Rows
section
section
variable {X:Cx}
end
end
end L2
namespace L2
open PySem PySem.Spec PyProof.Rows
section
end
end L2
namespace L2
open PySem PySem.Spec PyProof.Rows
section
section
variable {X:Cx}
theorem zmP (hc:X.calm=true):zcE X (.builtin "min") (fun xs H Q=>∃(a:Addr) (ns:List Int),xs=[.ref a]/\SqL X.K H a (ns.map V.int)/\0<ns.length/\∀M,M∈ns->(∀y,y∈ns->M<=y)->Q (.int M) H):=by
 intro ai s σ H xs us Q I r h
 obtain ⟨a,ns,rfl,hq,hn,q⟩:=h
 obtain ⟨u,rfl,r1⟩:=zeE r
 cases (show u=Value.ref a from r1)
 obtain ⟨its,rv,p,hz⟩:=I.list hq
 have hi:IntsAre its ns:=zls rv
 obtain ⟨xs,e⟩:=hi.allInts.items
 have hns:ns=xs.toList.map (·.1):=by
  rw [<-hi.numsOf,<-nums_intItems,<-e]
 have hsz:0<xs.size:=by
  have h3:=hn;rw [hns,length_map,Array.length_toList] at h3;exact h3
 have hl:=p.isList
 rw [e] at hl
 refine min_intList (I.ok.hd hc) hl hsz fun v h' tk hv hk=>?_
 obtain ⟨t,rfl⟩:=intItems_at hv
 obtain ⟨h1,h2⟩:=argBest_lt (numAt xs) (xs.size-1)
 refine ⟨.int _,H,I.kept hk,⟨_,rfl⟩,q _ ?_ fun y hy=>?_⟩
 ·rw [hns,numAt_eq];exact getD_mem (by rw [length_map,Array.length_toList];omega)
 ·rw [hns] at hy
  obtain ⟨j,hj,rfl⟩:=mem_getD hy
  rw [length_map,Array.length_toList] at hj
  rw [<-numAt_eq];exact h2 j (by omega)
end
end
end L2
namespace L2
open PySem PySem.Spec PyProof.Rows
section
def refV:V->Bool
 | .ref _=>true
 | _=>false
def Deq (K:W.Frag) (H:Hp):Nat->V->V->Prop
 | 0,x,y=>x=y/\(zbO x=true\/refV x=true)
 | n+1,x,y=>(x=y/\(zbO x=true\/refV x=true))\/∃a b xs ys,x=.ref a/\y=.ref b/\((SqT K H a xs/\SqT K H b ys)\/(SqL K H a xs/\SqL K H b ys))/\xs.length=ys.length/\∀(j:Nat) u v,xs[j]?=some u->ys[j]?=some v->Deq K H n u v
theorem Deq.flat {K:W.Frag} {H:Hp} {x:V} (n:Nat) (h:zbO x=true):Deq K H n x x:=by
 cases n with
 | zero=>exact ⟨rfl,.inl h⟩
 | succ n=>exact .inl ⟨rfl,.inl h⟩
theorem Deq.ref {K:W.Frag} {H:Hp} (n:Nat) (a:Addr):Deq K H n (.ref a) (.ref a):=by
 cases n with
 | zero=>exact ⟨rfl,.inr rfl⟩
 | succ n=>exact .inl ⟨rfl,.inr rfl⟩
theorem Deq.int {K:W.Frag} {H:Hp} (n:Nat) (i:Int):Deq K H n (.int i) (.int i):=Deq.flat n rfl
theorem Deq.tup {K:W.Frag} {H:Hp} {n:Nat} {a b:Addr} {xs ys:List V} (ha:SqT K H a xs) (hb:SqT K H b ys) (hl:xs.length=ys.length) (h:∀(j:Nat) u v,xs[j]?=some u->ys[j]?=some v->Deq K H n u v):Deq K H (n+1) (.ref a) (.ref b):=
 .inr ⟨a,b,xs,ys,rfl,rfl,.inl ⟨ha,hb⟩,hl,h⟩
theorem Deq.lst {K:W.Frag} {H:Hp} {n:Nat} {a b:Addr} {xs ys:List V} (ha:SqL K H a xs) (hb:SqL K H b ys) (hl:xs.length=ys.length) (h:∀(j:Nat) u v,xs[j]?=some u->ys[j]?=some v->Deq K H n u v):Deq K H (n+1) (.ref a) (.ref b):=
 .inr ⟨a,b,xs,ys,rfl,rfl,.inr ⟨ha,hb⟩,hl,h⟩
theorem zkJ {x:V} (h:zbO x=true):eqV x x=true:=by
 cases x<;>first | (cases h;done) | simp [eqV]
theorem zmQ {A:Around} {s:Shared} {x:V} {u v:Value} (rx:RelV x u) (ry:RelV x v) (h:zbO x=true\/refV x=true):SeqAt.EqAt A s u v true:=by
 rcases h with h | h
 ·have:=zmt (A:=A) (s:=s) rx ry h h
  rw [zkJ h] at this
  exact this
 ·cases x with
  | ref a=>
    cases (show u=Value.ref a from rx)
    cases (show v=Value.ref a from ry)
    exact SeqAt.EqAt.same _
  | _=>cases h
theorem zds (n:Nat):(List.range n).all (fun _=>true)=true:=by
 rw [all_eq_true]
 intro _ _
 rfl
section
variable {X:Cx} {ai:List (Addr × Obj)} {σ:St} {H:Hp} {s:Shared}
theorem zhn {A:Around} {xs ys:List V} {its its2:List Value} (r:Vals xs its) (r2:Vals ys its2) (h:∀(j:Nat) x y u v,xs[j]?=some x->ys[j]?=some y->RelV x u->RelV y v->SeqAt.EqAt A s u v true)
  (j:Nat) (h1:j<its.toArray.size) (h2:j<its2.toArray.size):SeqAt.EqAt A s its.toArray[j] its2.toArray[j] true:=by
 have l1:j<xs.length:=by rw [r.length];simpa using h1
 have l2:j<ys.length:=by rw [r2.length];simpa using h2
 obtain ⟨u,eu,ru⟩:=r.get (getElem?_eq_getElem l1)
 obtain ⟨v,ev,rv⟩:=r2.get (getElem?_eq_getElem l2)
 have e1:its.toArray[j]=u:=by
  have:=(List.getElem?_eq_some_iff.mp eu).2
  simpa using this
 have e2:its2.toArray[j]=v:=by
  have:=(List.getElem?_eq_some_iff.mp ev).2
  simpa using this
 rw [e1,e2]
 exact h j _ _ u v (getElem?_eq_getElem l1) (getElem?_eq_getElem l2) ru rv
theorem Deq.at (I:Inv X ai σ H s):∀(n:Nat) {A:Around} {x y:V} {u v:Value},Deq X.K H n x y->RelV x u->RelV y v->A.units+n<cLine->SeqAt.EqAt A s u v true:=by
 intro n
 induction n with
 | zero=>
   intro A x y u v h rx ry hu
   obtain ⟨rfl,h⟩:=h
   exact zmQ rx ry h
 | succ n ih=>
   intro A x y u v h rx ry hu
   rcases h with ⟨rfl,h⟩ | ⟨a,b,xs,ys,rfl,rfl,hs,hl,h⟩
   ·exact zmQ rx ry h
   cases (show u=Value.ref a from rx)
   cases (show v=Value.ref b from ry)
   by_cases ab:a=b
   ·subst ab
    exact SeqAt.EqAt.same _
   refine SeqAt.EqAt.of_refs ab ?_
   have hu1:A.in1.units+n<cLine:=by rw [Around.in1_units];omega
   rcases hs with ⟨ha,hb⟩ | ⟨ha,hb⟩
   ·obtain ⟨its,r,pl,hz⟩:=I.tuple ha
    obtain ⟨its2,r2,pl2,hz2⟩:=I.tuple hb
    have e1:its.toArray.size=xs.length:=by simp [r.length]
    have e2:its2.toArray.size=ys.length:=by simp [r2.length]
    have z:=SeqAt.RcAt.tuples (s:=s) (e:=fun _=>true) pl pl2 (show A.units<cLine by omega) (zhn r r2 fun j x y u v hx hy ru rv=>ih (h j x y hx hy) ru rv hu1)
    rw [zds,e1,e2,hl,Bool.true_and,beq_self_eq_true] at z
    exact z
   ·obtain ⟨its,r,pl,hz⟩:=I.list ha
    obtain ⟨its2,r2,pl2,hz2⟩:=I.list hb
    have e1:its.toArray.size=xs.length:=by simp [r.length]
    have e2:its2.toArray.size=ys.length:=by simp [r2.length]
    have z:=SeqAt.RcAt.lists (s:=s) (e:=fun _=>true) pl.isList pl2.isList (by omega) (show A.units<cLine by omega) (zhn r r2 fun j x y u v hx hy ru rv=>ih (h j x y hx hy) ru rv hu1)
    rw [zds] at z
    exact z
end
section
variable {X:Cx}
def zqu (K:W.Frag) (n:Nat) (x y:V) (H:Hp):Prop:=∃a b xs ys,x=.ref a/\y=.ref b/\((SqT K H a xs/\SqT K H b ys)\/(SqL K H a xs/\SqL K H b ys))/\xs.length=ys.length/\∀(j:Nat) u v,xs[j]?=some u->ys[j]?=some v->Deq K H n u v
theorem zrQ (n:Nat) (hu:X.A.units+(n+1)<cLine):OpR X (compareOp .Eq) (fun x y H Q=>zqu X.K n x y H/\Q (.bl true) H):=by
 intro ai s σ H x y v u Q I rx ry h
 obtain ⟨⟨a,b,xs,ys,rfl,rfl,hs,hl,h⟩,q⟩:=h
 cases rx
 cases ry
 have hu1:X.A.in1.units+n<cLine:=by rw [Around.in1_units];omega
 rcases hs with ⟨ha,hb⟩ | ⟨ha,hb⟩
 ·obtain ⟨its,r,pl,hz⟩:=I.tuple ha
  obtain ⟨its2,r2,pl2,hz2⟩:=I.tuple hb
  have e1:its.toArray.size=xs.length:=by simp [r.length]
  have e2:its2.toArray.size=ys.length:=by simp [r2.length]
  refine SeqAt.eq_tupleAt (s:=s) (e:=fun _=>true) pl pl2 (show X.A.units<cLine by omega) (zhn r r2 fun j x y u v hx hy ru rv=>Deq.at I n (h j x y hx hy) ru rv hu1) ⟨.bl _,H,I,rfl,?_⟩
  rw [zds,e1,e2,hl,Bool.true_and,beq_self_eq_true]
  exact q
 ·obtain ⟨its,r,pl,hz⟩:=I.list ha
  obtain ⟨its2,r2,pl2,hz2⟩:=I.list hb
  have e1:its.toArray.size=xs.length:=by simp [r.length]
  have e2:its2.toArray.size=ys.length:=by simp [r2.length]
  refine SeqAt.eq_listAt (s:=s) (e:=fun _=>true) pl.isList pl2.isList (by omega) (show X.A.units<cLine by omega) (zhn r r2 fun j x y u v hx hy ru rv=>Deq.at I n (h j x y hx hy) ru rv hu1) ⟨.bl _,H,I,rfl,?_⟩
  rw [zds]
  exact q
theorem zrR (n:Nat) (hu:X.A.units+(n+1)<cLine):OpR X (compareOp .NotEq) (fun x y H Q=>zqu X.K n x y H/\Q (.bl false) H):=by
 intro ai s σ H x y v u Q I rx ry h
 obtain ⟨⟨a,b,xs,ys,rfl,rfl,hs,hl,h⟩,q⟩:=h
 cases rx
 cases ry
 have hu1:X.A.in1.units+n<cLine:=by rw [Around.in1_units];omega
 rcases hs with ⟨ha,hb⟩ | ⟨ha,hb⟩
 ·obtain ⟨its,r,pl,hz⟩:=I.tuple ha
  obtain ⟨its2,r2,pl2,hz2⟩:=I.tuple hb
  have e1:its.toArray.size=xs.length:=by simp [r.length]
  have e2:its2.toArray.size=ys.length:=by simp [r2.length]
  refine SeqAt.RcNeAt.tuples (s:=s) (e:=fun _=>true) pl pl2 (show X.A.units<cLine by omega) (zhn r r2 fun j x y u v hx hy ru rv=>Deq.at I n (h j x y hx hy) ru rv hu1) X.prog X.w X.xe _ ⟨.bl _,H,I,rfl,?_⟩
  rw [zds,e1,e2,hl,Bool.true_and,beq_self_eq_true]
  exact q
 ·obtain ⟨its,r,pl,hz⟩:=I.list ha
  obtain ⟨its2,r2,pl2,hz2⟩:=I.list hb
  have e1:its.toArray.size=xs.length:=by simp [r.length]
  have e2:its2.toArray.size=ys.length:=by simp [r2.length]
  refine SeqAt.RcNeAt.lists (s:=s) (e:=fun _=>true) pl.isList pl2.isList (by omega) (show X.A.units<cLine by omega) (zhn r r2 fun j x y u v hx hy ru rv=>Deq.at I n (h j x y hx hy) ru rv hu1) X.prog X.w X.xe _ ⟨.bl _,H,I,rfl,?_⟩
  rw [zds]
  exact q
end
theorem Room.units9 {k:Nat} {A:Around} (r:Room k A):A.units+(9+1)<cLine:=by have:=r.un;omega
end
end L2
namespace L2
open PySem
theorem zmR (c d e:Cl) (t:Int):gap c e t*wbot d=gap c d t*wbot e+gap d e t*wbot c:=by
 unfold gap
 rw [Int.sub_mul,Int.sub_mul,Int.sub_mul]
 rw [show wtop c t*wbot e*wbot d=wtop c t*wbot d*wbot e by ac_rfl,show wtop e t*wbot c*wbot d=wtop e t*wbot d*wbot c by ac_rfl,show wtop d t*wbot e*wbot c=wtop d t*wbot c*wbot e by ac_rfl]
 omega
theorem zmS {c d:Cl} {t:Int}:ahd c d t=true↔0<gap c d t\/(gap c d t=0/\tie c d=true):=by
 unfold ahd
 by_cases z:gap c d t=0
 ·rw [if_pos z]
  constructor
  ·intro h
   exact .inr ⟨z,h⟩
  ·rintro (h | h)
   ·omega
   ·exact h.2
 ·rw [if_neg z,decide_eq_true_iff]
  constructor
  ·exact .inl
  ·rintro (h | h)
   ·exact h
   ·exact absurd h.1 z
theorem zmT {c d e:Cl} (h1:tie c d=true) (h2:tie d e=true):tie c e=true:=by
 unfold tie at *
 rw [decide_eq_true_iff] at *
 omega
theorem ziQ {c d e:Cl} {t:Int} (oc:c.Ok) (od:d.Ok) (oe:e.Ok) (h1:ahd c d t=true) (h2:ahd d e t=true):ahd c e t=true:=by
 rw [zmS] at *
 have k:=zmR c d e t
 have b1:=zgp oc
 have b2:=zgp od
 have b3:=zgp oe
 have g1:0<=gap c d t:=by omega
 have g2:0<=gap d e t:=by omega
 have m1:=Int.mul_nonneg g1 (show 0<=wbot e by omega)
 have m2:=Int.mul_nonneg g2 (show 0<=wbot c by omega)
 rcases h1 with h1 | ⟨z1,h1⟩
 ·have:=Int.mul_pos h1 b3
  refine .inl (Int.not_le.mp fun le=>?_)
  have:=Int.mul_nonpos_of_nonpos_of_nonneg le (show 0<=wbot d by omega)
  omega
 ·rcases h2 with h2 | ⟨z2,h2⟩
  ·have:=Int.mul_pos h2 b1
   refine .inl (Int.not_le.mp fun le=>?_)
   have:=Int.mul_nonpos_of_nonpos_of_nonneg le (show 0<=wbot d by omega)
   omega
  ·refine .inr ⟨?_,zmT h1 h2⟩
   rw [z1,z2,Int.zero_mul,Int.zero_mul,Int.add_zero] at k
   rcases Int.mul_eq_zero.mp k with z | z
   ·exact z
   ·omega
def ins (t:Int) (c:Cl):List Cl->List Cl
 | []=>[c]
 | d::ds=>if ahd d c t=true then d::ins t c ds else c::d::ds
def ord (cs:List Cl) (t:Int):List Cl:=cs.foldl (fun acc c=>ins t c acc) []
theorem zfV (t:Int) (c:Cl):∀l,(ins t c l).Perm (c::l)
 | []=>.refl _
 | d::ds=>by
   unfold ins
   split
   ·exact ((zfV t c ds).cons d).trans (.swap c d ds)
   ·exact .refl _
theorem zgq (t:Int):∀(cs acc:List Cl),(cs.foldl (fun acc c=>ins t c acc) acc).Perm (cs++acc)
 | [],acc=>.refl _
 | c::cs,acc=>by
   rw [List.foldl_cons]
   refine (zgq t cs (ins t c acc)).trans ?_
   refine ((zfV t c acc).append_left cs).trans ?_
   exact List.perm_middle
theorem zbZ (cs:List Cl) (t:Int):(ord cs t).Perm cs:=by
 have:=zgq t cs []
 rw [append_nil] at this
 exact this
structure Good (cs:List Cl):Prop where
 ok:∀c,c∈cs->c.Ok
 nd:(cs.map (·.n)).Nodup
abbrev Srt (t:Int) (l:List Cl):Prop:=l.Pairwise fun c d=>ahd c d t=true
theorem zmU {t:Int} {c:Cl} (oc:c.Ok):∀ {l:List Cl},(∀d,d∈l->d.Ok/\d.n≠c.n)->Srt t l->Srt t (ins t c l)
 | [],_,_=>List.pairwise_singleton _ _
 | d::ds,ho,hs=>by
   obtain ⟨h1,h2⟩:=pairwise_cons.mp hs
   obtain ⟨od,nd⟩:=ho d (mem_cons_self ..)
   have ho':∀e,e∈ds->e.Ok/\e.n≠c.n:=fun e he=>ho e (mem_cons_of_mem _ he)
   unfold ins
   split
   ·rename_i hd
    refine pairwise_cons.mpr ⟨fun e he=>?_,zmU oc ho' h2⟩
    rcases mem_cons.mp ((zfV t c ds).mem_iff.mp he) with rfl | he
    ·exact hd
    ·exact h1 e he
   ·rename_i hd
    have cd:ahd c d t=true:=by
     rw [zkI nd]
     simpa using hd
    refine pairwise_cons.mpr ⟨fun e he=>?_,hs⟩
    rcases mem_cons.mp he with rfl | he
    ·exact cd
    ·exact ziQ oc od (ho' e he).1 cd (h1 e he)
theorem zho (t:Int):∀(cs acc:List Cl),Good (cs++acc)->Srt t acc->Srt t (cs.foldl (fun acc c=>ins t c acc) acc)
 | [],acc,_,h=>h
 | c::cs,acc,g,h=>by
   rw [List.foldl_cons]
   have g':Good (cs++ins t c acc):=by
    have pm:(cs++ins t c acc).Perm (c::cs++acc):=((zfV t c acc).append_left cs).trans List.perm_middle
    exact ⟨fun e he=>g.ok e (pm.mem_iff.mp he),(pm.map (·.n)).nodup_iff.mpr g.nd⟩
   refine zho t cs _ g' (zmU (g.ok c (by simp)) (fun d hd=>⟨g.ok d (by simp [hd]),fun e=>?_⟩) h)
   have nd:=g.nd
   rw [List.cons_append,map_cons,nodup_cons] at nd
   exact nd.1 (by rw [<-e];exact mem_map.mpr ⟨d,by simp [hd],rfl⟩)
theorem zjM {cs:List Cl} (g:Good cs) (t:Int):Srt t (ord cs t):=zho t cs [] (by rw [append_nil];exact g) .nil
theorem zgr {c d:Cl} {t:Int} (h1:ahd c d t=true) (h2:ahd d c t=true):False:=by
 rw [zmS] at *
 rw [zkH c d t] at h2
 have z:gap c d t=0:=by omega
 have t1:tie c d=true:=by
  rcases h1 with h | h
  ·omega
  ·exact h.2
 have t2:tie d c=true:=by
  rcases h2 with h | h
  ·omega
  ·exact h.2
 unfold tie at t1 t2
 rw [decide_eq_true_iff] at t1 t2
 omega
theorem zkK {t:Int}:∀ {l m:List Cl},l.Perm m->Srt t l->Srt t m->l=m
 | [],m,p,_,_=>(List.Perm.nil_eq p)
 | c::l,[],p,_,_=>absurd (List.Perm.length_eq p) (by simp)
 | c::l,d::m,p,hl,hm=>by
   obtain ⟨l1,l2⟩:=pairwise_cons.mp hl
   obtain ⟨m1,m2⟩:=pairwise_cons.mp hm
   have e:c=d:=by
    rcases mem_cons.mp (p.mem_iff.mp (mem_cons_self (a:=c) (l:=l))) with e | hc
    ·exact e
    ·rcases mem_cons.mp (p.mem_iff.mpr (mem_cons_self (a:=d) (l:=m))) with e | hd
     ·exact e.symm
     ·exact (zgr (l1 d hd) (m1 c hc)).elim
   subst e
   rw [zkK ((List.perm_cons c).mp p) l2 m2]
theorem zoC {cs l:List Cl} {t:Int} (g:Good cs) (p:l.Perm cs) (h:Srt t l):l=ord cs t:=zkK (p.trans (zbZ cs t).symm) h (zjM g t)
end L2
namespace L2
open PySem PySem.Spec PyProof.Rows
section
theorem za6 {K:W.Frag} {a:Addr} {xs:List V} {js:List Nat} {tc:TT} {te:TE} {σ:St} {H1:Hp} {Q:VK} (p:Nat->Bool) (f:Nat->V) (hl:SqL K H1 a xs)
  (ht:∀i x Hh (Q':Bool->Hp->Prop),xs[i]?=some x->Same H1 Hh->(∀Hh',Same Hh Hh'->Q' (p i) Hh')->tc (some x::caps σ js) Hh Q')
  (he:∀i x Hh (Q':VK),xs[i]?=some x->p i=true->Same H1 Hh->(∀Hh',Same Hh Hh'->Q' (f i) Hh')->te (some x::caps σ js) Hh Q')
  (hz:xs.length<sizeLine) (q:∀D H2,Same H1 H2->H1 D=none->H2 D=some (.lst (((List.range xs.length).filter p).map f))->Q (.ref D) H2):
  zfs (Itl K a) js tc te σ H1 Q:=by
 intro D H2 s2 hD h2
 refine ⟨fun i m acc H3=>m=xs.length-i/\i<=xs.length/\acc=((List.range i).filter p).map f/\Same H1 H3/\H3 D=some (.lst acc),⟨_,rfl,Nat.zero_le _,by simp,s2,h2⟩,?_⟩
 rintro i m acc H3 ⟨rfl,hi,ea,s3,h3⟩
 have hl3:SqL K H3 a xs:=s3.seq hl
 have hll:acc.length<=xs.length:=by
  rw [ea,length_map]
  refine Nat.le_trans (length_filter_le _ _) ?_
  rw [length_range]
  exact hi
 refine ⟨h3,by omega,?_⟩
 by_cases hlt:i<xs.length
 ·have hx:xs[i]?=some xs[i]:=getElem?_eq_getElem hlt
  refine .inr ⟨⟨xs,_,hl3,hx⟩,fun y H4 z=>?_⟩
  obtain ⟨e,ey⟩:=z
  have ey2:=ey xs hl3
  subst e
  refine ht i y _ _ ey2 s3 fun H5 s5=>?_
  have h5:=s5 _ _ h3
  have s35:=s3.trans s5
  have tk:(List.range (i+1)).filter p=(List.range i).filter p++(if p i=true then [i] else []):=by
   rw [range_succ,filter_append]
   congr 1
   cases h:p i<;>simp [h]
  cases hp:p i with
  | true=>
    refine iteT (he i y _ _ ey2 hp s35 fun H6 s6=>⟨s6 _ _ h5,fun H7 k7 h7=>⟨xs.length-(i+1),by omega,rfl,hlt,?_,fun b o e=>?_,h7⟩⟩)
    ·rw [tk,hp,if_pos rfl,map_append,<-ea]
     rfl
    ·by_cases hb:b=D
     ·subst hb
      rw [hD] at e
      cases e
     ·exact k7 b o hb (s6 b o (s35 b o e))
  | false=>
    refine iteF ⟨xs.length-(i+1),by omega,rfl,hlt,?_,s35,h5⟩
    rw [tk,hp,if_neg Bool.false_ne_true,append_nil]
    exact ea
 ·have e:i=xs.length:=by omega
  subst e
  refine .inl ⟨⟨xs,hl3,Nat.le_refl _⟩,?_⟩
  rw [ea] at h3
  exact q D _ s3 hD h3
theorem zdt (n:Nat):(List.range n).filter (fun _=>true)=List.range n:=by
 rw [filter_eq_self]
 intro _ _
 rfl
def itm {α:Type} (xs:List α) (g : α->V) (i:Nat):V:=match xs[i]? with
 | some x=>g x
 | none=>.non
theorem zgs {α:Type} (g : α->V):∀xs:List α,(List.range xs.length).map (itm xs g)=xs.map g
 | []=>rfl
 | x::xs=>by
   rw [length_cons,range_succ_eq_map,map_cons,map_map,map_cons,<-zgs g xs]
   congr 1
structure IsCs (K:W.Frag) (H:Hp) (l:Addr) (ps:List (Addr × Cl)):Prop where
 at_:H l=some (.lst (ps.map fun q=>V.ref q.1))
 cl:∀q,q∈ps->IsCl K H q.1 q.2
theorem IsCs.same {K:W.Frag} {H H':Hp} {l:Addr} {ps:List (Addr × Cl)} (s:Same H H') (h:IsCs K H l ps):IsCs K H' l ps:=⟨s _ _ h.at_,fun q hq=>(h.cl q hq).same s⟩
theorem at_3 (x y z:V) {r:Int} (h0:0<=r) (h1:r<3):∃v,atI [x,y,z] r=some v/\(v=x\/v=y\/v=z):=by
 rcases (by omega:r=0\/r=1\/r=2) with rfl | rfl | rfl
 ·exact ⟨x,rfl,.inl rfl⟩
 ·exact ⟨y,rfl,.inr (.inl rfl)⟩
 ·exact ⟨z,rfl,.inr (.inr rfl)⟩
structure St3 (H:Hp) (a:Addr):Prop where
 ex:∃p q r:Int,H a=some (.lst [.int p,.int q,.int r])
theorem at_4 (x y z u:V) {r:Int} (h0:0<=r) (h1:r<4):∃v,atI [x,y,z,u] r=some v/\(v=x\/v=y\/v=z\/v=u):=by
 rcases (by omega:r=0\/r=1\/r=2\/r=3) with rfl | rfl | rfl | rfl
 ·exact ⟨x,rfl,.inl rfl⟩
 ·exact ⟨y,rfl,.inr (.inl rfl)⟩
 ·exact ⟨z,rfl,.inr (.inr (.inl rfl))⟩
 ·exact ⟨u,rfl,.inr (.inr (.inr rfl))⟩
theorem zqv (c d:Cl):HT.lexLt [c.came,c.n] [d.came,d.n]=tie c d:=by
 rw [HT.lexLt_cons,HT.lexLt_cons,HT.lexLt_nil_nil]
 unfold tie
 by_cases k:c.came=d.came
 ·rw [if_pos k]
  by_cases k2:c.n=d.n
  ·rw [if_pos k2,eq_comm,decide_eq_false_iff_not]
   omega
  ·rw [if_neg k2,decide_eq_decide]
   omega
 ·rw [if_neg k,decide_eq_decide]
  omega
section
variable {X:Cx} {tg:Expr}
end
end
end L2
namespace L2
open PySem PySem.Spec PyProof.Rows
section
theorem zhJ {X:Cx} {iter elt:Expr} {x y:Str} {i:Nat} {px py spos:Pos} {ifs:List Expr} {scope:Scope} {pos:Pos} {wi:TI} {N:List Str} {js:List Nat} {tc:TT} {te:TE}
  (hN:X.N.Nodup) (hiN:X.N[i]?=some y) (hyl:X.env.scope.names.lookup y=some .local)
  (hc:X.calm=true) (S:CompScope X scope x N js) (hi:PI X (.Name x px) iter wi)
  (ht:∀cl C s₀ H₀ ex,ziG (zbJ X N scope cl C s₀ H₀ ex) ifs tc) (he:∀cl C s₀ H₀ ex,PE (zbJ X N scope cl C s₀ H₀ ex) elt te)
  (hsw:swapsWith (.ListComp elt [⟨.Name x px,iter,ifs,0⟩] scope pos) (some (.Name y py)) spos.line X.env=pure true:=by rfl)
  (hs:∀x,foldedSetIterable iter X.env x=pure x:=by intro _;rfl):
  PS X (.Assign [.Name y py] (.ListComp elt [⟨.Name x px,iter,ifs,0⟩] scope pos) spos) (tAsg (zqo wi js tc te) (zoh i)):=by
 with_unfolding_all
  intro ai s σ H DD I h
  rw [exec_Assign_Name_used _ _ _ _ hsw]
  refine wpAny_bind (wpAny_standAt (wpAny_bind ?_))
  show wpAny _ X.A (do let _ <-comprehension (.ListComp elt [⟨.Name x px,iter,ifs,0⟩] scope pos) scope X.env _ (newList []) false (eval iter X.env) (some (assign (.Name y py) X.env))) _ _ s
  refine wpAny_bind (wpAny_mono (ziH (QQ:=fun _ s'=>SP X ai DD .next s') hc S hi ht he hs I h fun {cl C D s2 s5 H2 H4 fp o} hC hD below I2 f2 I5 qn a=>?_) (fun _ s' hq=>wpAny_pure (wpAny_pure hq)) fun _ _ e=>e)
  obtain ⟨m5,n5,_⟩:=I5.loc
  have u5:=I5.bf
  have nC:∀b o,s2.heap.get? b=some o->b≠C:=fun b o e=>(below b (Heap.lt_size e)).1
  have IX:Inv X ai σ H4 s5:=by
   refine I2.call' (s':=s5) (ch:=fp) I5.os ?_ I5.hok I5.bare fun b hb=>⟨(f2 b hb).2.2.2.1,(f2 b hb).2.1,(f2 b hb).2.2.2.2.1,(f2 b hb).2.2.2.2.2⟩
   exact ⟨u5.keep,u5.slot,u5.free,u5.there,u5.tups,u5.frzs,u5.tbls⟩
  obtain ⟨g0,g1,g2,g3,g4,g5⟩:=I2.fpOk (b:=C) (H':=H4) (by rw [hC];exact Nat.le_succ _) I5.free
  refine wpAny_assign_Name (zik IX hN hiN (.inl hyl) (v:=.ref D) rfl (fun s6 I6 ⟨aa,sb6,ha⟩=>?_) (.inr hyl))
  have hCa:C≠aa:=by
   rcases ha with rfl | ha
   ·exact g1
   ·exact fun z=>g4 _ _ ha z.symm
  refine ⟨m5,n5.sameBut sb6 hCa,fun h' sb=>⟨_,H4,?_,qn⟩⟩
  exact I6.turned (t':=s6.toks) (fun b o hb e=>sb.extBut b o hb e) g0 g1 g3 g4 g5
end
end L2
namespace L2
open PySem PySem.Spec PyProof.Rows
section
theorem zpw:bootBuiltins "any" = some (.builtin "any"):=by decide +kernel
section
variable {X:Cx}
end
end
end L2
namespace L2
open PySem.W PyProof.Rows
structure Tot (n:Nat) (lt:Nat->Nat->Bool):Prop where
 asym:∀i j,i<n->j<n->lt i j=true->lt j i=false
 tot:∀i j,i<n->j<n->i≠j->lt i j=false->lt j i=true
 trans:∀i j k,i<n->j<n->k<n->lt i j=true->lt j k=true->lt i k=true
def Asks {α:Type} (n:Nat) (lt:Nat->Nat->Bool):KasT α->(α->Prop)->Prop
 | .ret a,Q=>Q a
 | .ask i j k,Q=>i<n/\j<n/\i≠j/\Asks n lt (k (lt i j)) Q
theorem Asks.bind {α β:Type} {n:Nat} {lt:Nat->Nat->Bool} {f : α->KasT β} {R : α->Prop} {Q : β->Prop} (hf:∀a,R a->Asks n lt (f a) Q):∀(t:KasT α),Asks n lt t R->Asks n lt (t.bind f) Q
 | .ret a,h=>hf a h
 | .ask i j k,⟨h1,h2,h3,h4⟩=>⟨h1,h2,h3,Asks.bind hf (k (lt i j)) h4⟩
theorem Asks.mono {α:Type} {n:Nat} {lt:Nat->Nat->Bool} {R Q : α->Prop} (hf:∀a,R a->Q a):∀(t:KasT α),Asks n lt t R->Asks n lt t Q
 | .ret a,h=>hf a h
 | .ask i j k,⟨h1,h2,h3,h4⟩=>⟨h1,h2,h3,Asks.mono hf (k (lt i j)) h4⟩
structure Pm (n:Nat) (p:Array Nat):Prop where
 pm:p.toList.Perm (List.range n)
theorem Pm.sz {n:Nat} {p:Array Nat} (h:Pm n p):p.size=n:=by
 have:=h.pm.length_eq
 simpa using this
theorem atq (p:Array Nat) (i:Nat):p.getD i 0=(p[i]?).getD 0:=by
 rw [Array.getD_eq_getD_getElem?]
theorem Pm.lt {n:Nat} {p:Array Nat} (h:Pm n p) {i:Nat} (hi:i<n):p.getD i 0<n:=by
 have hs:i<p.size:=by rw [h.sz];exact hi
 have m:p.getD i 0∈p.toList:=by
  rw [atq,Array.getElem?_eq_getElem hs]
  simp
 exact mem_range.mp (h.pm.mem_iff.mp m)
theorem Pm.inj {n:Nat} {p:Array Nat} (h:Pm n p) {i j:Nat} (hi:i<n) (hj:j<n) (e:p.getD i 0=p.getD j 0):i=j:=by
 have hs:i<p.size:=by rw [h.sz];exact hi
 have ht:j<p.size:=by rw [h.sz];exact hj
 have nd:p.toList.Nodup:=h.pm.nodup_iff.mpr List.nodup_range
 rw [atq,atq,Array.getElem?_eq_getElem hs,Array.getElem?_eq_getElem ht] at e
 have e':p.toList[i]'(by simpa using hs)=p.toList[j]'(by simpa using ht):=by simpa using e
 exact (List.getElem_inj nd).mp e'
def Sd (lt:Nat->Nat->Bool) (p:Array Nat) (k:Nat):Prop:=∀i j,i<j->j<k->lt (p.getD i 0) (p.getD j 0)=true
def Dd (lt:Nat->Nat->Bool) (p:Array Nat) (k:Nat):Prop:=∀i j,i<j->j<k->lt (p.getD j 0) (p.getD i 0)=true
section
variable {n:Nat} {lt:Nat->Nat->Bool} (T:Tot n lt)
include T
theorem zmV {p:Array Nat} (P:Pm n p):∀f a,1<=a->a+f<=n->Sd lt p a->Asks n lt (kas_asc p f a) (fun m=>a<=m/\m<=a+f/\Sd lt p m/\(m<a+f->lt (p.getD m 0) (p.getD (m-1) 0)=true))
 | 0,a,h1,h2,s=>⟨Nat.le_refl _,Nat.le_refl _,s,fun z=>by omega⟩
 | f+1,a,h1,h2,s=>by
   refine ⟨P.lt (by omega),P.lt (by omega),fun e=>?_,?_⟩
   ·have:=P.inj (by omega) (by omega) e
    omega
   ·cases c:lt (p.getD a 0) (p.getD (a-1) 0) with
    | true=>exact ⟨Nat.le_refl _,by omega,s,fun _=>c⟩
    | false=>
      have c':=T.tot _ _ (P.lt (i:=a) (by omega)) (P.lt (i:=a-1) (by omega)) (fun e=>by have:=P.inj (by omega) (by omega) e;omega) c
      have s':Sd lt p (a+1):=fun i j ij ja=>by
       by_cases z:j<a
       ·exact s i j ij z
       ·have:j=a:=by omega
        subst this
        by_cases y:i=j-1
        ·rw [y];exact c'
        ·exact T.trans _ (p.getD (j-1) 0) _ (P.lt (by omega)) (P.lt (by omega)) (P.lt (by omega)) (s i (j-1) (by omega) (by omega)) c'
      have r:=zmV P f (a+1) (by omega) (by omega) s'
      refine Asks.mono (fun m hm=>?_) _ r
      exact ⟨by omega,by omega,hm.2.2.1,fun z=>hm.2.2.2 (by omega)⟩
theorem zmW {p:Array Nat} (P:Pm n p):∀f a,1<=a->a+f<=n->Dd lt p a->Asks n lt (kas_desc f p a 0) (fun r=>r.1=p/\r.2.2=0/\a<=r.2.1/\r.2.1<=a+f/\Dd lt p r.2.1)
 | 0,a,h1,h2,s=>⟨rfl,rfl,Nat.le_refl _,Nat.le_refl _,s⟩
 | f+1,a,h1,h2,s=>by
   have ne:p.getD a 0≠p.getD (a-1) 0:=fun e=>by have:=P.inj (by omega) (by omega) e;omega
   refine ⟨P.lt (by omega),P.lt (by omega),ne,?_⟩
   cases c:lt (p.getD a 0) (p.getD (a-1) 0) with
   | true=>
     have s':Dd lt p (a+1):=fun i j ij ja=>by
      by_cases z:j<a
      ·exact s i j ij z
      ·have:j=a:=by omega
       subst this
       by_cases y:i=j-1
       ·rw [y];exact c
       ·exact T.trans _ (p.getD (j-1) 0) _ (P.lt (by omega)) (P.lt (by omega)) (P.lt (by omega)) c (s i (j-1) (by omega) (by omega))
     have r:=zmW P f (a+1) (by omega) (by omega) s'
     exact Asks.mono (fun m hm=>⟨hm.1,hm.2.1,by omega,by omega,hm.2.2.2.2⟩) _ r
   | false=>
     have c':=T.tot _ _ (P.lt (i:=a) (by omega)) (P.lt (i:=a-1) (by omega)) ne c
     refine ⟨P.lt (by omega),P.lt (by omega),fun e=>ne e.symm,?_⟩
     rw [c']
     exact ⟨rfl,rfl,Nat.le_refl _,show a<=a+(f+1) by omega,s⟩
omit T in
theorem zpx {p:Array Nat} {k:Nat} (hk:k<=p.size) (i:Nat):(kas_rev p 0 k).getD i 0=if i<k then p.getD (k-1-i) 0 else p.getD i 0:=by
 rw [atq]
 unfold kas_rev
 rw [getElem?_mirror_all hk]
 by_cases z:i<k
 ·rw [if_pos ⟨Nat.zero_le _,z⟩,if_pos z,atq,Nat.zero_add]
 ·rw [if_neg (fun y=>z y.2),if_neg z,atq]
omit T in
theorem Pm.rev {p:Array Nat} (P:Pm n p) (i k:Nat):Pm n (kas_rev p i k):=⟨(Array.perm_iff_toList_perm.mp (mirror_perm p i k _)).trans P.pm⟩
omit T in
theorem Pm.bub {p:Array Nat} (P:Pm n p) (i k:Nat):Pm n (bubble p i k):=⟨(Array.perm_iff_toList_perm.mp (bubble_perm p i k)).trans P.pm⟩
theorem zoD {p:Array Nat} (P:Pm n p) {k:Nat} (k1:1<=k) (kn:k<=n) (d:Dd lt p k):Asks n lt (kas_tail3 k n p) (fun r=>1<=r.1/\r.1<=n/\Pm n r.2/\Sd lt r.2 r.1):=by
 have P':=P.rev 0 k
 have s:Sd lt (kas_rev p 0 k) k:=fun i j ij jk=>by
  rw [zpx (by rw [P.sz];exact kn),zpx (by rw [P.sz];exact kn),if_pos (by omega),if_pos jk]
  exact d _ _ (by omega) (by omega)
 unfold kas_tail3
 refine Asks.bind (fun m hm=>?_) _ (zmV T P' (n-k) k k1 (by omega) s)
 exact (show 1<=m/\m<=n/\Pm n (kas_rev p 0 k)/\Sd lt (kas_rev p 0 k) m from ⟨by omega,by omega,P',hm.2.2.1⟩)
theorem zjN {p:Array Nat} (P:Pm n p) (n2:2<=n) (c:lt (p.getD 1 0) (p.getD 0 0)=true):Asks n lt (kas_descPart 1 n p) (fun r=>1<=r.1/\r.1<=n/\Pm n r.2/\Sd lt r.2 r.1):=by
 refine Asks.bind (fun r hr=>?_) _ (zmW T P (n-2) 2 (by omega) (by omega) (fun i j ij j2=>?_))
 ·obtain ⟨e1,e2,h1,h2,d⟩:=hr
  rw [if_neg (by omega),e1]
  exact zoD T P (by omega) (by omega) d
 ·have:i=0:=by omega
  have:j=1:=by omega
  subst i j
  exact c
theorem zoE {p:Array Nat} (P:Pm n p) (n2:2<=n):Asks n lt (kas_count n p) (fun r=>1<=r.1/\r.1<=n/\Pm n r.2/\Sd lt r.2 r.1):=by
 refine Asks.bind (fun m hm=>?_) _ (zmV T P (n-1) 1 (Nat.le_refl _) (by omega) (fun i j ij j1=>by omega))
 obtain ⟨h1,h2,s,c⟩:=hm
 by_cases z:m=n
 ·rw [if_pos (by simp [z])]
  exact ⟨h1,by omega,P,s⟩
 ·rw [if_neg (by simp [z])]
  have c:=c (by omega)
  by_cases y:m > 1
  ·rw [if_pos y]
   refine ⟨P.lt (by omega),P.lt (by omega),fun e=>?_,?_⟩
   ·have:=P.inj (by omega) (by omega) e
    omega
   ·rw [s 0 (m-1) (by omega) (by omega)]
    exact ⟨h1,by omega,P,s⟩
  ·rw [if_neg y]
   have:m=1:=by omega
   subst this
   exact zjN T P n2 c
theorem zhK {p:Array Nat} (P:Pm n p) {k:Nat} (kn:k<n) (s:Sd lt p k):∀f l r,l<=r->r<=k->r-l<=f->(∀i,i<l->lt (p.getD i 0) (p.getD k 0)=true)->(∀i,r<=i->i<k->lt (p.getD k 0) (p.getD i 0)=true)->
  Asks n lt (kas_place p k f l r) (fun m=>m<=k/\(∀i,i<m->lt (p.getD i 0) (p.getD k 0)=true)/\(∀i,m<=i->i<k->lt (p.getD k 0) (p.getD i 0)=true))
 | 0,l,r,lr,rk,f0,a,b=>by
   have:l=r:=by omega
   subst this
   exact ⟨rk,a,b⟩
 | f+1,l,r,lr,rk,f0,a,b=>by
   unfold kas_place
   by_cases z:l ≥ r
   ·rw [if_pos z]
    have:l=r:=by omega
    subst this
    exact ⟨rk,a,b⟩
   ·rw [if_neg z]
    have m1:(l+r) / 2<r:=by omega
    have m2:l<=(l+r) / 2:=by omega
    generalize (l+r) / 2=m at m1 m2
    have ne:p.getD k 0≠p.getD m 0:=fun e=>by have:=P.inj kn (by omega) e;omega
    refine ⟨P.lt kn,P.lt (by omega),ne,?_⟩
    cases c:lt (p.getD k 0) (p.getD m 0) with
    | true=>
      refine zhK P kn s f l m m2 (by omega) (by omega) a fun i mi ik=>?_
      by_cases y:i=m
      ·rw [y];exact c
      ·exact T.trans _ (p.getD m 0) _ (P.lt kn) (P.lt (by omega)) (P.lt (by omega)) c (s m i (by omega) ik)
    | false=>
      have c':=T.tot _ _ (P.lt kn) (P.lt (i:=m) (by omega)) ne c
      refine zhK P kn s f (m+1) r (by omega) rk (by omega) (fun i im=>?_) b
      by_cases y:i=m
      ·rw [y];exact c'
      ·exact T.trans _ (p.getD m 0) _ (P.lt (by omega)) (P.lt (by omega)) (P.lt kn) (s i m (by omega) (by omega)) c'
theorem zpy:∀f (p:Array Nat) (k:Nat),Pm n p->k+f=n->Sd lt p k->Asks n lt (kas_bin f p k) (fun p'=>Pm n p'/\Sd lt p' n)
 | 0,p,k,P,e,s=>⟨P,by rw [<-e];exact s⟩
 | f+1,p,k,P,e,s=>by
   refine Asks.bind (fun l hl=>?_) _ (zhK T P (by omega) s k 0 k (by omega) (Nat.le_refl _) (by omega) (fun i z=>by omega) (fun i z y=>by omega))
   obtain ⟨lk,h1,h2⟩:=hl
   refine zpy f _ (k+1) (P.bub k (k-l)) (by omega) ?_
   have b:∀i,(bubble p k (k-l)).getD i 0=if i=l then p.getD k 0 else if l<i/\i<=k then p.getD (i-1) 0 else p.getD i 0:=fun i=>by
    rw [atq,getElem?_bubble (by rw [P.sz];omega) _ (by omega),show k-(k-l)=l by omega]
    by_cases z:i=l
    ·rw [if_pos z,if_pos z,atq]
    ·rw [if_neg z,if_neg z]
     by_cases y:l<i/\i<=k
     ·rw [if_pos y,if_pos y,atq]
     ·rw [if_neg y,if_neg y,atq]
   intro i j ij jk
   rw [b i,b j]
   by_cases z:i=l
   ·rw [if_pos z,if_neg (by omega),if_pos ⟨by omega,by omega⟩]
    exact h2 _ (by omega) (by omega)
   ·rw [if_neg z]
    by_cases y:j=l
    ·rw [if_pos y,if_neg (by omega)]
     exact h1 _ (by omega)
    ·rw [if_neg y]
     by_cases x:l<i/\i<=k
     ·rw [if_pos x,if_pos ⟨by omega,by omega⟩]
      exact s _ _ (by omega) (by omega)
     ·rw [if_neg x]
      by_cases v:l<j/\j<=k
      ·rw [if_pos v]
       exact s _ _ (by omega) (by omega)
      ·rw [if_neg v]
       exact s _ _ ij (by omega)
theorem zqw (n2:2<=n):Asks n lt (kas_sort n) (fun p=>Pm n p/\Sd lt p n):=by
 refine Asks.bind (fun r hr=>?_) _ (zoE T ⟨by simp⟩ n2)
 obtain ⟨h1,h2,P,s⟩:=hr
 by_cases z:r.1<n
 ·rw [if_pos z,Nat.max_eq_left h1]
  exact zpy T _ _ _ P (by omega) s
 ·rw [if_neg z]
  have:r.1=n:=by omega
  rw [this] at s
  exact ⟨P,s⟩
end
end L2
namespace L2
open PySem PySem.Spec PyProof.Rows
section
structure Site (K:W.Frag) (mg:Str->Option Value) (bf:Heap) (cv:Value) (T:Addr):Prop where
 ex:∃c,cv=.ref c/\W.CodeHd bf c T
 bm:bf.BuiltinsAt mg T
structure Lam (X:Cx) (H:Hp) (q:Str) (ar:Arguments) (body:Expr) (scope:Scope) (f:Addr) (cl:List (Str × Addr)):Prop where
 ex:∃pm c ct oc us t o,H f=some (.frz o (.own f))/\o.data=.func (W.kla_fn "<lambda>" q ar body scope cl pm (.ref c) ct)/\H c=some (.frz oc (.own c))/\oc.data=.fields us/\us[1]?=some (.str q t)
 c1:∀x c,cl.lookup x=some c->X.env.cells.lookup x=some c
 c2:∀x,(x,NameKind.free)∈scope.names->∃c,cl.lookup x=some c
 c3:∀x c,cl.lookup x=some c->(x,NameKind.free)∈scope.names
theorem Lam.same {X:Cx} {H H':Hp} {q:Str} {ar:Arguments} {body:Expr} {scope:Scope} {f:Addr} {cl:List (Str × Addr)} (s:Same H H') (h:Lam X H q ar body scope f cl):Lam X H' q ar body scope f cl:=by
 obtain ⟨pm,c,ct,oc,us,t,o,e1,e2,e3,e4⟩:=h.ex
 exact ⟨⟨pm,c,ct,oc,us,t,o,s _ _ e1,e2,s _ _ e3,e4⟩,h.c1,h.c2,h.c3⟩
section
variable {X:Cx} {ai:List (Addr × Obj)} {σ:St} {H:Hp} {s:Shared}
theorem zoF {ar:Arguments} {body:Expr} {scope:Scope} {lp:Pos} {q:Str} {x:Str} {N:List Str} {js:List Nat} {T:Addr} {Q:Value->Shared->Prop}
  (I:Inv X ai σ H s) (S:CompScope X scope x N js) (D:Site X.K X.mg X.bf X.env.code T) (hT:H T=some (.tbl lp q)) (hq:X.env.qual ++ "<lambda>" = q) (hd:defaultsOf ar X.env=([],[]))
  (h:∀f cl s' H',Inv X ai σ H' s'->Same H H'->Lam X H' q ar body scope f cl->Q (.ref f) s'):wpAny (model X.prog X.w) X.A (eval (.Lambda ar body scope lp) X.env) Q X.xe s:=by
 have hcells:∀y∈scope.names,y.2=.free->∃c,X.env.cells.lookup y.1=some c:=fun y hy hf=>I.ok.has y.1 (.inl (S.free y hy hf))
 obtain ⟨cl,ecl,cl1,cl2,cl3⟩:=zjK hcells
 obtain ⟨c,hc,C⟩:=D.ex
 have B:=D.bm.keeps I.bk
 have C':=C.keeps I.bk
 obtain ⟨vs,eT,tr,alt⟩:=I.hok T _ hT
 have hg:s.heap.Ns mainGlobals X.mg:=I.mod.glob.keeps I.bk
 refine W.kla_eval hd ?_
 rw [hq]
 have old:∀b o,s.heap.get? b=some o->b<s.heap.objs.size:=fun b o e=>Heap.lt_size e
 have trk:∀b u,H b=some u->b<s.heap.objs.size:=fun b u e=>I.hok.lt e
 rcases alt with alt | ⟨c',oc,us,t,e1,e2,e3,e4⟩
 ·have hgT:mainGlobals≠T:=fun z=>by
   obtain ⟨o,es,ep,e,d,_⟩:=id hg
   rw [z,eT] at e
   cases e
   cases d
  refine W.kla_makeFunction (mg:=X.mg) ecl I.ok.glob hg hc C' eT tr alt hgT B fun c' ctv h' tk hx hge hlt hrec htb=>?_
  obtain ⟨c2,oc,us,t,ec,hoc,hd1,hd2⟩:=hrec
  cases ec
  generalize hfo:W.kla_obj "<lambda>" q ar body scope cl ((X.mg "__name__").getD .none) c' ctv=fo
  have fd:fo.data=.func (W.kla_fn "<lambda>" q ar body scope cl ((X.mg "__name__").getD .none) (.ref c') ctv):=by rw [<-hfo]
  have ff:fo.isFreed=false:=by rw [<-hfo];rfl
  have nT:∀b,H b=none->b≠T:=fun b n z=>by rw [z,hT] at n;cases n
  have hf:h'.objs.size≠c':=Nat.ne_of_gt hlt
  have nf:∀b,b<s.heap.objs.size->b≠h'.objs.size:=fun b hb=>Nat.ne_of_lt (Nat.lt_trans (Nat.lt_of_lt_of_le hb hge) hlt)
  have nc:∀b,b<s.heap.objs.size->b≠c':=fun b hb=>Nat.ne_of_lt (Nat.lt_of_lt_of_le hb hge)
  have kp:∀b o,b≠T->s.heap.get? b=some o->(h'.push fo).get? b=some o:=fun b o n e=>Heap.get?_push_of_some _ (hx b o n e)
  have sm:Same H (upd (upd H c' (.frz oc (.own c'))) h'.objs.size (.frz fo (.own h'.objs.size))):=fun b u e=>by
   rw [zah (nf b (trk b u e)),zah (nc b (trk b u e))]
   exact e
  have hcF:(upd (upd H c' (.frz oc (.own c'))) h'.objs.size (.frz fo (.own h'.objs.size))) c'=some (.frz oc (.own c')):=by
   rw [zah (Ne.symm hf),zam]
  refine h h'.objs.size cl _ _ (I.step (g':=s.gens) (d':=s.drawn) (ch:=[]) (h':=h'.push fo) (t':=tk) (H':=upd (upd H c' (.frz oc (.own c'))) h'.objs.size (.frz fo (.own h'.objs.size))) (fun _ z=>nomatch z) (fun b o _ _ _ e n=>kp b o (nT b n) e) (fun b o _ _ _ e n=>⟨o.slots,kp b o (nT b n) e⟩)
   (fun b o _ e n=>?_) (fun b o _ e=>?_) (fun b xs e=>sm b _ e) (fun b o u e=>sm b _ e) (fun b p r e=>sm b _ e) (fun m hm=>?_) (fun b u e=>?_) I.bare) sm ⟨⟨_,c',ctv,oc,us,t,fo,zam,fd,hcF,hd1,hd2⟩,cl1,cl2,cl3⟩
  ·rw [zah (nf b (old b o e)),zah (nc b (old b o e))]
   exact n
  ·by_cases z:b=T
   ·exact ⟨_,by rw [z];exact Heap.get?_push_of_some _ htb⟩
   ·exact ⟨o,kp b o z e⟩
  ·exact (hm.extBut hx (nT _ I.free)).push _
  ·by_cases z:b=h'.objs.size
   ·subst z
    rw [zam] at e
    cases e
    exact ⟨Heap.get?_push_size _ ff,_,Heap.get?_push_size _ ff⟩
   ·rw [zah z] at e
    by_cases y:b=c'
    ·subst y
     rw [zam] at e
     cases e
     exact ⟨Heap.get?_push_of_some _ hoc,_,Heap.get?_push_of_some _ hoc⟩
    ·rw [zah y] at e
     by_cases w:b=T
     ·subst w
      rw [hT] at e
      cases e
      refine ⟨_,Heap.get?_push_of_some _ htb,?_,.inr ⟨c',oc,us,t,?_,hcF,hd1,hd2⟩⟩
      ·rw [Array.toList_append]
       exact TriplesOk_snoc _ _ _ _ tr
      ·rw [Array.toList_append]
       exact codeAmong_snoc _ tr alt
     ·refine (I.hok b u e).stay (fun d v hd q=>kp d v ?_ q) (fun d q=>sm d _ q) (fun d xs q=>sm d _ q) fun d ob xs q=>sm d _ q
      rintro rfl
      rcases hd with z | z
      ·exact w z.symm
      ·rw [hT] at z;cases z
 ·refine W.kla_makeFunctionHit (mg:=X.mg) ecl I.ok.glob hg hc C' eT tr e1 B fun ctv h' tk hk hsz=>?_
  generalize hfo:({ cls:=.type "function",data:=.func (W.kla_fn "<lambda>" q ar body scope cl ((X.mg "__name__").getD .none) (.ref c') ctv) }:Obj)=fo
  have fd:fo.data=.func (W.kla_fn "<lambda>" q ar body scope cl ((X.mg "__name__").getD .none) (.ref c') ctv):=by rw [<-hfo]
  have hn:H h'.objs.size=none:=I.hok.fresh hsz
  have ff:fo.isFreed=false:=by rw [<-hfo];rfl
  refine h h'.objs.size cl _ _ (I.laid (a:=h'.objs.size) (o:=.frz fo (.own h'.objs.size)) (h':=h'.push fo) (t':=tk) (fun b u e=>Heap.get?_push_of_some _ (hk b u e)) hsz ⟨Heap.get?_push_size _ ff,_,Heap.get?_push_size _ ff⟩) (zbn hn _) ⟨⟨_,c',ctv,oc,us,t,fo,zam,fd,?_,e3,e4⟩,cl1,cl2,cl3⟩
  rw [zah (zaj e2 hn)]
  exact e2
abbrev zoG (X:Cx) (N:List Str) (scope:Scope) (cl:List (Str × Addr)) (q:Str) (f:Addr) (cd:Value) (A:Around) (s₀:Shared) (H₀:Hp):Cx where
 prog:=X.prog
 w:=X.w
 K:=X.K
 mg:=X.mg
 bf:=X.bf
 A:=A.deeper (newEnv scope s₀.heap.objs.size mainGlobals cl (q ++ ".<locals>.") (some f) cd none builtinsNs)
 N:=N
 s₀:=s₀
 H₀:=H₀
 env:=newEnv scope s₀.heap.objs.size mainGlobals cl (q ++ ".<locals>.") (some f) cd none builtinsNs
 outer:=X.stack
 stack:=newEnv scope s₀.heap.objs.size mainGlobals cl (q ++ ".<locals>.") (some f) cd none builtinsNs::X.stack
 ex:=[]
 fn:=fun _=>false
 calm:=true
 pn:=[]
 xe:=fun _ _=>False
theorem zqx {ar:Arguments} {body:Expr} {scope:Scope} {q:Str} {x:Str} {N:List Str} {js:List Nat} {f:Addr} {cl:List (Str × Addr)} {te:TE} {A:Around} {v:V} {u:Value} {Q:VK}
  (I:Inv X ai σ H s) (S:CompScope X scope x N js) (L:Lam X H q ar body scope f cl) (hA:A.frames=some X.stack) (hh:A.handled=none) (hdp:A.depth<recursionLimit) (co:scope.isCoroutine=false) (ge:scope.isGenerator=false)
  (hb:∀pm c ct u,bindArgs (W.kla_fn "<lambda>" q ar body scope cl pm c ct) ⟨[u],[]⟩=pure [(x,u)])
  (he:∀cd,PE (zoG X N scope cl q f cd A s H) body te) (rv:RelV v u) (hq:te (some v::caps σ js) H Q):wpAny (model X.prog X.w) A (call (.ref f) [u]) (EP X ai σ Q) (fun _ _=>False) s:=by
 with_unfolding_all
  obtain ⟨pm,c,ct,oc,us,t,o,e1,e2,e3,e4,e5⟩:=L.ex
  obtain ⟨g1,_⟩:=I.hok f _ e1
  obtain ⟨g2,_⟩:=I.hok c _ e3
  have lim:s.heap.NoLimit:=I.nolimit
  refine wpAny_call (codeAny_mono (R:=fun r s'=>∃k,r=.ok (.ret k)/\CE X.stack X.prog X.w H s Q k s') ?_ fun r s' hr=>?_)
  ·refine W.kla_callFunE hdp g1 e2 co ge rfl ⟨c,oc,us,t,rfl,g2,e4,e5⟩ ?_
   rw [hb]
   refine wpAny_pure (wpAny_newFunctionEnv S.nocell (fun y hy=>?_) (fun h₁ hns hsb=>?_) S.kind)
   ·have hy':y=(x,u):=by simpa using hy
    subst hy'
    exact S.own
   have old:∀b o,s.heap.get? b=some o->h₁.get? b=some o:=fun b o e=>hsb.extBut b o (Nat.ne_of_lt (Heap.lt_size e)) (Heap.get?_push_of_some _ e)
   refine ⟨lim.keeps old,?_⟩
   have yok:(zoG X N scope cl q f (.ref c) A s H).Ok:=
    { mod:=I.ok.mod
      kind:=S.kind
      glob:=rfl
      blt:=rfl
      above:=Nat.le_refl _
      inj:=fun y z c h1 h2=>I.ok.inj y z c (L.c1 y c h1) (L.c1 z c h2)
      has:=fun y hy=>by
       rcases hy with hy | hy
       ·exact absurd rfl (S.nocell _ (PySem.mem_of_lookup hy))
       ·exact L.c2 y (PySem.mem_of_lookup hy)
      cab:=fun y c hf _=>by cases hf
      hd:=fun _=>hh
      frames:=Around.frames_deeper hA
      stk:=.inr ⟨rfl,rfl⟩
      exf:=fun b hb=>by simp at hb
      bs:=I.bs
      bsz:=Nat.le_trans I.ok.bsz I.sz
      noex:=fun b o e hb=>by simp at hb
      exfs:=fun b hb=>by simp at hb
      funs:=I.stack
      frf:=I.stkFree }
   have I1:Inv (zoG X N scope cl q f (.ref c) A s H) [] (some v::caps σ js) H { s with heap:=h₁,toks:=s.toks+[(x,u)].length }:=
    { ok:=yok
      os:=rfl
      bare:=I.bare
      bf:=Un.kept old
      loc:=by
       refine ⟨_,hns,fun i y v' h1 h2 h3=>?_⟩
       cases i with
       | zero=>
         have ey:y=x:=Option.some.inj (h1.symm.trans S.head)
         subst ey
         have ev:v'=v:=by simpa using h2.symm
         subst ev
         exact ⟨u,rv,.inl ⟨S.own,by simp⟩⟩
       | succ k=>
         have h2':(caps σ js)[k]?=some (some v'):=by simpa using h2
         unfold caps at h2'
         rw [getElem?_map] at h2'
         cases ej:js[k]? with
         | none=>rw [ej] at h2';cases h2'
         | some j=>
           rw [ej] at h2'
           have e6:(σ[j]?).join=some v':=Option.some.inj h2'
           have e7 : σ[j]?=some (some v'):=by
            cases eσ : σ[j]? with
            | none=>rw [eσ] at e6;cases e6
            | some o=>rw [eσ] at e6;exact congrArg some e6
           obtain ⟨n1,n2,n3,n4⟩:=S.cap k j y h1 ej
           obtain ⟨mX,_,lX⟩:=I.loc
           obtain ⟨u',ru,lk⟩:=lX j y v' n1 e7 n2
           refine ⟨u',ru,?_⟩
           rcases lk with ⟨lk,_⟩ | ⟨_,d,ed,cell⟩
           ·rw [n3] at lk;cases lk
           ·obtain ⟨d',ed'⟩:=L.c2 y n4
            have:d'=d:=Option.some.inj ((L.c1 y d' ed').symm.trans ed)
            subst this
            obtain ⟨ob,ho,hd⟩:=cell
            refine .inr ⟨?_,d',ed',⟨ob,old _ _ ho,hd⟩⟩
            have h3':scope.names.lookup y=some .local\/scope.names.lookup y=some .cell\/scope.names.lookup y=some .free:=h3
            rcases h3' with z | z | z
            ·exact absurd n4 (S.apart y z)
            ·exact .inl z
            ·exact .inr z
      cell:=fun y d e=>by
       obtain ⟨v',ob,ho,hd⟩:=I.cell y d (L.c1 y d e)
       exact ⟨v',ob,old _ _ ho,hd⟩
      free:=I.hok.fresh (Nat.le_refl _)
      freeC:=fun y d e=>I.freeC y d (L.c1 y d e)
      pin:=fun p hp=>by simp at hp
      hok:=I.hok.kept old
      len:=by show (some v::caps σ js).length=N.length;rw [S.len];simp [caps] }
   refine W.kla_codeExpr (wpAny_mono (he (.ref c) [] _ _ H Q I1 hq) (fun k s' hk=>?_) fun _ _ z=>z.elim)
   obtain ⟨w,H',J,rk,qk⟩:=hk
   exact ⟨k,rfl,w,H',J.os,J.bare,J.bf,J.hok,rk,qk⟩
  ·obtain ⟨k,rfl,ce⟩:=hr
   exact I.after ce
end
end
end L2
namespace L2
open PySem PySem.Spec PyProof.Rows PySem.W
theorem zmX:bootBuiltins "sorted" = some (.builtin "sorted"):=by decide +kernel
theorem Asks.wp {α:Type} {n:Nat} {lt:Nat->Nat->Bool} {cmp:Nat->Nat->(Bool->Shared->Prop)->Shared->Prop} {R : α->Prop} {Q : α->Shared->Prop} {s:Shared}
  (hc:∀i j C,i<n->j<n->C (lt i j) s->cmp i j C s) (hq:∀a,R a->Q a s):∀(t:KasT α),Asks n lt t R->t.kasWp cmp Q s
 | .ret a,h=>hq a h
 | .ask i j k,⟨h1,h2,_,h4⟩=>hc i j _ h1 h2 (Asks.wp hc hq (k (lt i j)) h4)
section
variable {prog:Program} {w:World} {A:Around} {E:Value->Shared->Prop} {s:Shared} {Q:Bool->Shared->Prop}
theorem zkL:∀(ns ms:List Int) (xs ys:List Value) (i:Nat),ns.length=ms.length->Vals (ns.map V.int) xs->Vals (ms.map V.int) ys->Q (HT.lexLt ns ms) s->KatLex prog w A true false Q (xs.zip ys) i s
 | [],[],xs,ys,i,_,rx,ry,h=>by
   cases rx
   cases ry
   exact kat_nil h
 | [],_::_,_,_,_,hl,_,_,_=>by simp at hl
 | _::_,[],_,_,_,hl,_,_,_=>by simp at hl
 | a::ns,b::ms,xs,ys,i,hl,rx,ry,h=>by
   cases rx with
   | cons ra rx=>
     cases ry with
     | cons rb ry=>
       obtain ⟨t,rfl⟩:=ra
       obtain ⟨t',rfl⟩:=rb
       rw [HT.lexLt_cons] at h
       refine kat_cons (wpAny_eqBool_int (kat_go (fun e=>?_) fun e=>?_))
       ·have ab:a=b:=by simpa using e
        rw [if_pos ab] at h
        exact kat_yes (zkL ns ms _ _ (i+1) (by simpa using hl) rx ry h)
       ·have ab:a≠b:=by simpa using e
        rw [if_neg ab] at h
        refine kat_no ?_
        cases i with
        | zero=>exact oneLt_int h
        | succ i=>
          have e0:(true&&(i+1)==0)=false:=by simp
          rw [e0]
          exact kat_one _ _ (lt_int h)
end
def zmY (H:Hp) (kf:Nat->List Int) (ks:List Value):Prop:=∀j,j<ks.length->∃p,ks[j]?=some (.ref p)/\H p=some (.tup ((kf j).map V.int))
section
variable {X:Cx} {ai:List (Addr × Obj)} {σ:St} {H:Hp} {s:Shared}
theorem zhp (I:Inv X ai σ H s) {kf:Nat->List Int} (k1:∀i,0<(kf i).length):∀ {ks:List Value} {m:Nat},(∀j,j<ks.length->∃p,ks[j]?=some (.ref p)/\H p=some (.tup ((kf (m+j)).map V.int)))->
  ∃fs:List Value,fs.length=ks.length/\KatTups s.heap ks fs/\∀v∈fs,∃i t,v=.int i t
 | [],m,_=>⟨[],rfl,KatTups.nil,fun v hv=>by simp at hv⟩
 | v::ks,m,h=>by
   obtain ⟨p,h1,h2⟩:=h 0 (by simp)
   have ev:v=.ref p:=by simpa using h1
   subst ev
   obtain ⟨fs,l1,l2,l3⟩:=zhp I k1 (ks:=ks) (m:=m+1) fun j hj=>by
    obtain ⟨p,h1,h2⟩:=h (j+1) (by simpa using hj)
    refine ⟨p,by simpa using h1,?_⟩
    rw [Nat.add_assoc,Nat.add_comm 1 j]
    exact h2
   obtain ⟨_,its,r,o,e,c1,c2⟩:=I.hok p _ h2
   rw [Nat.add_zero] at r
   cases ek:kf m with
   | nil=>
     have:=k1 m
     rw [ek] at this
     simp at this
   | cons a as=>
     rw [ek] at r
     cases r with
     | cons ra rest=>
       obtain ⟨t,rfl⟩:=ra
       obtain ⟨n,c2⟩:=c2
       refine ⟨.int a t::fs,by simp [l1],KatTups.cons e c1 c2 (by simp) l2,fun v hv=>?_⟩
       rcases mem_cons.mp hv with z | z
       ·exact ⟨a,t,z⟩
       ·exact l3 v z
theorem zmZ (I:Inv X ai σ H s) {A:Around} {E:Value->Shared->Prop} {kf:Nat->List Int} (k1:∀i,0<(kf i).length) {ks:List Value} (h:zmY H kf ks) (h2:2<=ks.length) {Q:SortKind->Shared->Prop} (q:Q (tuples' true) s):
  wpAny (model X.prog X.w) A (keyKind' ks.toArray) Q E s:=by
 obtain ⟨fs,l1,l2,l3⟩:=zhp I k1 (ks:=ks) (m:=0) (fun j hj=>by rw [Nat.zero_add];exact h j hj)
 refine kat_kind (T:=.type "int") l2 (by omega) (fun v hv=>?_) (by decide) q
 obtain ⟨i,t,rfl⟩:=l3 v hv
 exact Looks.of_pure rfl
theorem zoH (I:Inv X ai σ H s) {A:Around} {kf:Nat->List Int} {m:Nat} (k1:∀i,(kf i).length=m) {ks:List Value} (h:zmY H kf ks) {i j:Nat} (hi:i<ks.length) (hj:j<ks.length) {C:Bool->Shared->Prop} (q:C (HT.lexLt (kf i) (kf j)) s):
  kas_ask X.prog X.w A (tuples' true) ks i j C s:=by
 obtain ⟨p,e1,e2⟩:=h i hi
 obtain ⟨p',e1',e2'⟩:=h j hj
 obtain ⟨_,its,r,o,g,c1,n,c2⟩:=I.hok p _ e2
 obtain ⟨_,its',r',o',g',c1',n',c2'⟩:=I.hok p' _ e2'
 unfold kas_ask
 rw [getD_eq_getElem?_getD,getD_eq_getElem?_getD,e1,e1']
 have l1:=r.length
 have l2:=r'.length
 rw [length_map,k1] at l1 l2
 refine kat_lt g c2 g' c2' ?_
 have z:decide (its.toArray.size<its'.toArray.size)=false:=by
  rw [decide_eq_false_iff_not,size_toArray,size_toArray]
  omega
 rw [z]
 exact zkL _ _ _ _ 0 (by rw [k1,k1]) r r' q
theorem ziR {xs:List V} {us:List Value} (r:Vals xs us):∀(p:List Nat),(∀i∈p,i<xs.length)->Vals (p.map fun i=>xs.getD i .non) (p.map fun i=>us.getD i Value.none)
 | [],_=>.nil
 | i::p,h=>by
   have hi:=h i mem_cons_self
   have e:xs[i]?=some (xs.getD i .non):=by rw [getD_eq_getElem?_getD,getElem?_eq_getElem hi];rfl
   obtain ⟨u,hu,ru⟩:=r.get e
   refine .cons ?_ (ziR r p fun j hj=>h j (mem_cons_of_mem _ hj))
   show RelV (xs.getD i .non) (us.getD i Value.none)
   rw [getD_eq_getElem?_getD (l:=us),hu]
   exact ru
theorem zrS (us:List Value):(List.range us.length).map (fun i=>us.getD i Value.none)=us:=by
 apply List.ext_getElem
 ·simp
 ·intro i h1 h2
  simp [h2]
theorem zlx {l f:Addr} {xs:List V} {kf:Nat->List Int} {m:Nat} {Q:VK} (I:Inv X ai σ H s) (hl:SqL X.K H l xs) (hn:xs.length<64) (k1:∀i,(kf i).length=m) (m1:0<m) (T:Tot xs.length (fun i j=>HT.lexLt (kf i) (kf j)))
  (turn:∀i v,xs[i]?=some v->∀(pins':List (Addr × Obj)) (s':Shared) (H':Hp) (u:Value),Inv X pins' σ H' s'->Same H H'->RelV v u->wpAny (model X.prog X.w) X.A.in1.in1 (call (.ref f) [u]) (EP X pins' σ fun k H''=>Same H' H''/\∃p,k=.ref p/\H'' p=some (.tup ((kf i).map V.int))) (fun _ _=>False) s')
  (h:∀D H' (p:List Nat),Same H H'->H D=none->H' D=some (.lst (p.map fun i=>xs.getD i .non))->p.Perm (List.range xs.length)->(∀i j,i<j->j<p.length->HT.lexLt (kf (p.getD i 0)) (kf (p.getD j 0))=true)->Q (.ref D) H'):
  wpAny (model X.prog X.w) X.A (call (.builtin "sorted") [.ref l] [(Str.ofString "key",.ref f)]) (EP X ai σ Q) X.xe s:=by
 obtain ⟨its,rv,pl,hz⟩:=I.list hl
 have il:its.length=xs.length:=rv.length.symm
 have sl:(100:Nat)<=sizeLine:=by decide
 refine call_function_entry_kw kind_sorted plain_sorted entry_sorted (ksk_s1 _ _) ?_
 unfold Builtin.«sorted»
 refine wpAny_bind (m:=checkCount "sorted" 1 1 _) (wpAny_pure ?_)
 refine wpAny_bind (collect_list pl.isList ?_ (by omega))
 refine wpAny_bind (wpAny_newList ?_ (by omega))
 have kA:∀b o,s.heap.get? b=some o->((s.heap.push (seqObj "list" #[] 0)).update s.heap.objs.size (Obj.mapSeq (· ++ its.toArray))).get? b=some o:=fun b o e=>by
  rw [Heap.get?_update_ne _ _ _ _ (Nat.ne_of_lt (Heap.lt_size e))]
  exact Heap.get?_push_of_some _ e
 have sA:s.heap.objs.size<=((s.heap.push (seqObj "list" #[] 0)).update s.heap.objs.size (Obj.mapSeq (· ++ its.toArray))).objs.size:=by
  rw [Heap.size_update,size_push']
  exact Nat.le_succ _
 dsimp only
 generalize ((s.heap.push (seqObj "list" #[] 0)).update s.heap.objs.size (Obj.mapSeq (· ++ its.toArray)))=A1 at kA sA ⊢
 have hD:(A1.push (seqObj "list" its.toArray 0)).get? A1.objs.size=some (seqObj "list" its.toArray 0):=Heap.get?_push_size _ rfl
 generalize eD:A1.objs.size=D at hD sA ⊢
 have kB:∀b o,s.heap.get? b=some o->(A1.push (seqObj "list" its.toArray 0)).get? b=some o:=fun b o e=>Heap.get?_push_of_some _ (kA b o e)
 have dB:D<(A1.push (seqObj "list" its.toArray 0)).objs.size:=Heap.lt_size hD
 generalize A1.push (seqObj "list" its.toArray 0)=A2 at hD kB dB ⊢
 refine wpAny_bind (wpAny_holding (wpAny_call_entry_kw slot_list_sort ⟨_,hD,rfl⟩ entry_list_sort ?body (ksk_l1 _ _)))
 case body=>
  show wpAny _ _ (Builtin.«list.sort» ⟨[.ref D],[(Str.ofString "key",.ref f)]⟩) _ _ _
  rw [ksk_t1]
  unfold ksk_tree
  refine wpAny_bind (listItems_at hD rfl ?_)
  refine wpAny_bind (listUpdate_at hD rfl ?_ (by rw [size_toArray];omega) (Nat.zero_le _))
  obtain ⟨e1,hD1⟩:∃e1,(A2.update D (Obj.mapSeq fun _=>(#[]:Array Value))).get? D=some (seqObj "list" #[] e1):=⟨_,get?_update_seq hD fun _ => #[]⟩
  have kC:∀b o,s.heap.get? b=some o->(A2.update D (Obj.mapSeq fun _=>(#[]:Array Value))).get? b=some o:=fun b o e=>by
   rw [Heap.get?_update_ne _ _ _ _ (Nat.ne_of_lt (Nat.lt_of_lt_of_le (Heap.lt_size e) sA))]
   exact kB b o e
  dsimp only
  refine wpAny_bind (seqEpoch_at hD1 rfl ?_)
  refine wpAny_bind (wpAny_newTuple ?_ (by show its.length<=sizeLine;omega))
  refine wpAny_bind (wpAny_newList ?_ (Nat.zero_le _))
  refine wpAny_holding ?_
  dsimp only
  generalize A2.update D (Obj.mapSeq fun _=>(#[]:Array Value))=A3 at hD1 kC ⊢
  have hD2:=Heap.get?_push_of_some (seqObj "tuple" its.toArray 0) hD1
  have kE:∀b o,s.heap.get? b=some o->(A3.push (seqObj "tuple" its.toArray 0)).get? b=some o:=fun b o e=>Heap.get?_push_of_some _ (kC b o e)
  have sE:D<(A3.push (seqObj "tuple" its.toArray 0)).objs.size:=Heap.lt_size hD2
  show wpAny _ _ (ksk_rest D (.ref f) false its.toArray e1 (.ref (A3.push (seqObj "tuple" its.toArray 0)).objs.size)) _ _ { s with heap:=(A3.push (seqObj "tuple" its.toArray 0)).push (seqObj "list" #[] 0) }
  generalize A3.push (seqObj "tuple" its.toArray 0)=A4 at hD2 kE sE ⊢
  have hk0:(A4.push (seqObj "list" #[] 0)).get? A4.objs.size=some (seqObj "list" #[] 0):=Heap.get?_push_size _ rfl
  have hD3:=Heap.get?_push_of_some (seqObj "list" #[] 0) hD2
  have kF:∀b o,s.heap.get? b=some o->(A4.push (seqObj "list" #[] 0)).get? b=some o:=fun b o e=>Heap.get?_push_of_some _ (kE b o e)
  generalize A4.push (seqObj "list" #[] 0)=A5 at hk0 hD3 kF ⊢
  generalize A4.objs.size=kS at hk0 sE ⊢
  have ne:D≠kS:=Nat.ne_of_lt sE
  have sK:s.heap.objs.size<=kS:=Nat.le_trans sA (Nat.le_of_lt sE)
  have nK:H kS=none:=I.hok.fresh sK
  have nD:H D=none:=I.hok.fresh sA
  have fK:=I.fpOk (H':=H) sK nK
  have fD:=I.fpOk (H':=H) sA nD
  have I0:Inv X ((kS,seqObj "list" (List.toArray []) 0)::(D,seqObj "list" #[] e1)::ai) σ H { s with heap:=A5 }:=(I.kept (t':=s.toks) (h':=A5) kF).pins_of fun p hp=>by
   rcases mem_cons.mp hp with rfl | hp
   ·exact ⟨hk0,nK,fK.2.1,fK.2.2.1,fun v z=>by cases z⟩
   ·rcases mem_cons.mp hp with rfl | hp
    ·exact ⟨hD3,nD,fD.2.1,fD.2.2.1,fun v z=>by cases z⟩
    ·obtain ⟨g1,g2⟩:=I.pin p (mem_append_right _ hp)
     exact ⟨kF _ _ g1,g2⟩
  unfold ksk_rest
  refine wpAny_bind (wpAny_rule ?_)
  rw [<-Array.forIn_toList]
  refine wpAny_bind (ksk_fold (fun i s'=>∃e ks H',ks.length=i/\Inv X ((kS,seqObj "list" (List.toArray ks) e)::(D,seqObj "list" #[] e1)::ai) σ H' s'/\Same H H'/\zmY H' kf ks) its 0 _ ⟨0,[],H,rfl,I0,Same.refl _,fun j hj=>by simp at hj⟩ (fun j x s' hx hI=>?step) fun s' hI=>?done)
  case step=>
   obtain ⟨e,ks,H',lk,I',sm,kin⟩:=hI
   have hjx:j<xs.length:=by
    have:=(List.getElem?_eq_some_iff.mp hx).1
    omega
   obtain ⟨v,hv,rvx⟩:∃v,xs[j]?=some v/\RelV v x:=by
    obtain ⟨u,hu,ru⟩:=rv.get (getElem?_eq_getElem hjx)
    rw [hx] at hu
    cases hu
    exact ⟨_,getElem?_eq_getElem hjx,ru⟩
   refine wpAny_bind (wpAny_attempt (wpAny_mono (turn j v hv _ s' H' x I' sm rvx) (fun k s'' hk=>?_) fun _ _ z=>z.elim))
   obtain ⟨w,H'',I'',rw',sm',p,rfl,hp⟩:=hk
   obtain rfl:k=.ref p:=rw'
   obtain ⟨hkS,nkS,_,_,_⟩:=I''.pin (kS,seqObj "list" (List.toArray ks) e) (mem_append_right _ mem_cons_self)
   dsimp only
   refine wpAny_bind (listUpdate_at hkS rfl ?_ (by rw [size_toArray];omega) (by rw [Array.size_push,size_toArray];omega))
   obtain ⟨c2,hc2⟩:∃c2,(s''.heap.update kS (Obj.mapSeq (·.push (.ref p)))).get? kS=some (seqObj "list" (List.toArray (ks++[.ref p])) c2):=⟨_,by
    have g:=get?_update_seq hkS (·.push (.ref p))
    rw [show (List.toArray ks).push (.ref p)=List.toArray (ks++[.ref p]) by simp] at g
    exact g⟩
   have sb:=Heap.SameBut.update s''.heap kS (Obj.mapSeq (·.push (.ref p)))
   have J:Inv X ((D,seqObj "list" #[] e1)::ai) σ H'' { s'' with heap:=s''.heap.update kS (Obj.mapSeq (·.push (.ref p))),toks:=s''.toks }:=
    (I''.pins_of (pins':=(D,seqObj "list" #[] e1)::ai) fun q hq=>I''.pin q (mem_append_right _ (mem_cons_of_mem _ hq))).turned (fun b o n g=>(sb.2 b n).trans g) nkS fK.2.1 fK.2.2.2.1 fK.2.2.2.2.1 fun q hq=>by
      rcases mem_append.mp hq with hq | hq
      ·exact fK.2.2.2.2.2 q (mem_append_left _ hq)
      ·rcases mem_cons.mp hq with rfl | hq
       ·exact ne
       ·exact fK.2.2.2.2.2 q (mem_append_right _ hq)
   refine wpAny_pure ⟨rfl,c2,ks++[.ref p],H'',by simp [lk],J.pins_of fun q hq=>?_,sm.trans sm',fun i hi=>?_⟩
   ·rcases mem_cons.mp hq with rfl | hq
    ·exact ⟨hc2,nkS,fK.2.1,fK.2.2.1,fun v z=>by cases z⟩
    ·exact J.pin q (mem_append_right _ hq)
   ·by_cases z:i<ks.length
    ·obtain ⟨p',g1,g2⟩:=kin i z
     exact ⟨p',by rw [getElem?_append_left z];exact g1,sm' _ _ g2⟩
    ·have ei:i=ks.length:=by simp at hi;omega
     refine ⟨p,by rw [ei];simp,?_⟩
     rw [ei,lk,Nat.zero_add]
     exact hp
  case done=>
   obtain ⟨e,ks,H',lk,I',sm,kin⟩:=hI
   rw [Nat.zero_add] at lk
   obtain ⟨hkS,nkS,_,_,_⟩:=I'.pin (kS,seqObj "list" (List.toArray ks) e) (mem_append_right _ mem_cons_self)
   obtain ⟨hDp,nDp,_,_,_⟩:=I'.pin (D,seqObj "list" #[] e1) (mem_append_right _ (mem_cons_of_mem _ mem_cons_self))
   refine wpAny_bind (listItems_at hkS rfl ?_)
   have tail:∀(st:SortSt) (p:List Nat),failedOf st=none->(arrOf st).map (·.2)=List.toArray (p.map fun i=>its.getD i Value.none)->p.Perm (List.range xs.length)->(∀i j,i<j->j<p.length->HT.lexLt (kf (p.getD i 0)) (kf (p.getD j 0))=true)->
     wpAny (model X.prog X.w) X.A.in1.in1 (ksk_tail D false e1 (.ref kS) st) (fun fin s''=>∃v,fin=.done (.ret v)/\wpAny (model X.prog X.w) X.A.in1 (ret (.ref D)) (fun fin s''=>∃v,fin=.done (.ret v)/\EP X ai σ Q v s'') X.xe s'') X.xe s':=by
    intro st p hf hout hp hs
    have pl2:p.length=xs.length:=by simpa using hp.length_eq
    unfold ksk_tail
    dsimp only
    rw [hout]
    refine wpAny_bind (listUpdate_at hkS rfl ?_ (by rw [size_toArray];omega) (Nat.zero_le _))
    refine wpAny_bind (wpAny_letGo ?_)
    have sb:=Heap.SameBut.update s'.heap kS (Obj.mapSeq fun _=>(#[]:Array Value))
    have hD':=(sb.2 D ne).trans hDp
    refine wpAny_bind (seqEpoch_at hD' rfl ?_)
    refine wpAny_bind (listUpdate_at hD' rfl ?_ (Nat.zero_le _) (by simp;omega))
    rw [hf]
    simp only [bne_self_eq_false,Bool.false_eq_true,if_false]
    obtain ⟨c2,hc2⟩:∃c2,((s'.heap.update kS (Obj.mapSeq fun _=>(#[]:Array Value))).update D (Obj.mapSeq fun _=>List.toArray (p.map fun i=>its.getD i Value.none))).get? D=some (seqObj "list" (List.toArray (p.map fun i=>its.getD i Value.none)) c2):=⟨_,get?_update_seq hD' fun _=>List.toArray (p.map fun i=>its.getD i Value.none)⟩
    have sb2:=Heap.SameBut.update (s'.heap.update kS (Obj.mapSeq fun _=>(#[]:Array Value))) D (Obj.mapSeq fun _=>List.toArray (p.map fun i=>its.getD i Value.none))
    have kp:∀b o,b≠kS->b≠D->s'.heap.get? b=some o->((s'.heap.update kS (Obj.mapSeq fun _=>(#[]:Array Value))).update D (Obj.mapSeq fun _=>List.toArray (p.map fun i=>its.getD i Value.none))).get? b=some o:=fun b o n1 n2 g=>(sb2.2 b n2).trans ((sb.2 b n1).trans g)
    have trk:∀b u,H' b=some u->b≠kS/\b≠D:=fun b u g=>⟨(fun z=>by rw [z,nkS] at g;cases g),fun z=>by rw [z,nDp] at g;cases g⟩
    refine wpAny_pure ⟨_,rfl,wpAny_pure ⟨_,rfl,.ref D,upd H' D (.lst (p.map fun i=>xs.getD i .non)),?_,rfl,h D _ p (fun b u g=>?_) nD zam hp hs⟩⟩
    ·refine (I'.pins_of (pins':=ai) fun q hq=>I'.pin q (mem_append_right _ (mem_cons_of_mem _ (mem_cons_of_mem _ hq)))).step (g':=s'.gens) (d':=s'.drawn) (t':=s'.toks) (ch:=[kS,D]) (fun b hb=>?_) (fun b o _ _ hc g _=>kp b o (fun z=>hc (by simp [z])) (fun z=>hc (by simp [z])) g)
      (fun b o _ _ hc g _=>⟨o.slots,kp b o (fun z=>hc (by simp [z])) (fun z=>hc (by simp [z])) g⟩) (fun b o hc _ n=>?_) (fun b o hc g=>⟨o,kp b o (fun z=>hc (by simp [z])) (fun z=>hc (by simp [z])) g⟩) (fun b ys g=>?_) (fun b o u g=>?_) (fun b lp lq g=>?_) (fun mm hm=>?_) (fun b u g=>?_) I'.bare
     ·rcases mem_cons.mp hb with rfl | hb
      ·exact ⟨fK.2.2.2.1,fK.2.1,fK.2.2.2.2.1,fK.2.2.2.2.2⟩
      ·have:b=D:=by simpa using hb
       subst this
       exact ⟨fD.2.2.2.1,fD.2.1,fD.2.2.2.2.1,fD.2.2.2.2.2⟩
     ·rw [zah (fun z=>hc (by simp [z]))]
      exact n
     ·rw [zah (trk b _ g).2]
      exact g
     ·rw [zah (trk b _ g).2]
      exact g
     ·rw [zah (trk b _ g).2]
      exact g
     ·obtain ⟨o,es,ep,g,r⟩:=hm
      exact ⟨o,es,ep,kp _ o (Ne.symm fK.2.1) (Ne.symm fD.2.1) g,r⟩
     ·by_cases z:b=D
      ·subst z
       rw [zam] at g
       cases g
       refine ⟨by rw [length_map,pl2];omega,_,c2,ziR rv p fun i hi=>mem_range.mp (hp.mem_iff.mp hi),hc2⟩
      ·rw [zah z] at g
       refine (I'.hok b u g).stay (fun d v hd q=>kp d v ?_ ?_ q) (fun d q=>?_) (fun d ys q=>?_) fun d ob ys q=>?_
       ·rcases hd with y | y
        ·rw [y];exact (trk b u g).1
        ·exact (trk d _ y).1
       ·rcases hd with y | y
        ·rw [y];exact (trk b u g).2
        ·exact (trk d _ y).2
       ·rw [zah (trk d _ q).2]
        exact q
       ·rw [zah (trk d _ q).2]
        exact q
       ·rw [zah (trk d _ q).2]
        exact q
    ·rw [zah (trk b _ (sm b u g)).2]
     exact sm b u g
   unfold ksk_end
   dsimp only
   simp only [Bool.false_eq_true,if_false]
   by_cases n2:its.toArray.size<2
   ·rw [if_pos n2,if_pos n2]
    refine wpAny_bind (wpAny_pure ?_)
    rw [StateT.run_pure]
    refine wpAny_bind (wpAny_pure ?_)
    dsimp only
    refine tail _ (List.range xs.length) rfl ?_ (List.Perm.refl _) fun i j ij jl=>?_
    ·show ((List.toArray ks).zip its.toArray).map (·.2)=_
     rw [<-il,zrS]
     apply Array.toList_inj.mp
     rw [Array.toList_map,ksk_zip]
     exact List.map_snd_zip (by simp;omega)
    ·rw [size_toArray] at n2
     rw [length_range] at jl
     omega
   ·rw [if_neg n2,if_neg n2]
    rw [size_toArray] at n2
    refine wpAny_bind (zmZ I' (fun i=>by rw [k1];exact m1) kin (by omega) ?_)
    refine wpAny_bind (wpAny_mono (kat_run (vs:=its) (Q:=fun st' s''=>∃p:Array Nat,arrOf st'=p.map (kas_item ((List.toArray ks).zip its.toArray))/\failedOf st'=none/\s''=s'/\Pm xs.length p/\Sd (fun i j=>HT.lexLt (kf i) (kf j)) p xs.length) (G:=fun p s''=>s''=s'/\Pm xs.length p/\Sd (fun i j=>HT.lexLt (kf i) (kf j)) p xs.length)
     lk (by omega) (by omega) (fun p st' s'' _ a2 a3 a4=>⟨p,a2,a3,a4⟩) ?_) ?_ fun _ _ z=>z)
    ·rw [il]
     refine Asks.wp (n:=xs.length) (lt:=fun i j=>HT.lexLt (kf i) (kf j)) (R:=fun p=>Pm xs.length p/\Sd (fun i j=>HT.lexLt (kf i) (kf j)) p xs.length) (fun i j C hi hj hC=>?_) (fun p hp=>⟨rfl,hp⟩) _ (zqw T (by omega))
     exact zoH I' k1 kin (by omega) (by omega) hC
    ·rintro ⟨⟨⟩,st'⟩ s'' ⟨p,har,hf,rfl,P,S⟩
     refine tail st' p.toList hf (kat_snds lk har) P.pm fun i j ij jl=>?_
     have e2:∀k,p.toList.getD k 0=p.getD k 0:=fun k=>by rw [getD_eq_getElem?_getD,atq];simp
     rw [e2,e2]
     exact S i j ij (by rw [Array.length_toList,P.sz] at jl;exact jl)
end
end L2
namespace L2
open PySem PySem.Spec PyProof.Rows PySem.W
def zrT (K:Frag) (T:Addr) (lp:Pos) (q:Str) (t:TA) (js:List Nat) (te:TE):TE:=fun σ H Q=>t σ H fun vs H1=>∃(l:Addr) (xs:List V) (kf:Nat->List Int) (m:Nat),vs=[.ref l]/\SqL K H1 l xs/\xs.length<64/\(∀i,(kf i).length=m)/\0<m/\
 Tot xs.length (fun i j=>HT.lexLt (kf i) (kf j))/\H1 T=some (.tbl lp q)/\∀H2,Same H1 H2->
  (∀i v,xs[i]?=some v->∀H3,Same H2 H3->te (some v::caps σ js) H3 fun k H4=>Same H3 H4/\∃p,k=.ref p/\H4 p=some (.tup ((kf i).map V.int)))/\
  ∀D H' (p:List Nat),Same H2 H'->H2 D=none->H' D=some (.lst (p.map fun i=>xs.getD i .non))->p.Perm (List.range xs.length)->(∀i j,i<j->j<p.length->HT.lexLt (kf (p.getD i 0)) (kf (p.getD j 0))=true)->Q (.ref D) H'
theorem zly {X:Cx} {sp pos kp lp:Pos} {e:Expr} {ar:Arguments} {body:Expr} {scope:Scope} {q x:Str} {N:List Str} {js:List Nat} {T:Addr} {t:TA} {te:TE}
  (S:CompScope X scope x N js) (D:Site X.K X.mg X.bf X.env.code T) (hq:X.env.qual ++ "<lambda>" = q) (hdp:X.A.depth<recursionLimit) (hc:X.calm=true) (hg:Gl X "sorted") (hm:X.mg "sorted" = none) (ha:PA X [e] t)
  (he:∀cl f cd s H,PE (zoG X N scope cl q f cd X.A.in1.in1 s H) body te)
  (hd:defaultsOf ar X.env=([],[]):=by rfl) (co:scope.isCoroutine=false:=by rfl) (ge:scope.isGenerator=false:=by rfl)
  (hb:∀cl pm c ct u,bindArgs (kla_fn "<lambda>" q ar body scope cl pm c ct) ⟨[u],[]⟩=pure [(x,u)]:=by intro _ _ _ _ _;rfl)
  (hst:backTo pos (starEach [e] X.env)=(false,eval e X.env)::backTo pos (starEach [] X.env):=by rfl):
  PE X (.Call (.Name "sorted" sp) [e] [⟨some "key",.Lambda ar body scope lp,kp⟩] pos) (zrT X.K T lp q t js te):=by
 with_unfolding_all
  intro ai s σ H Q I h
  refine wpAny_Call_Name_kw (zfr I hg hm zmX ?_)
  refine callWith_kw (thn (ha pos ai s σ H _ I h) fun us s1 ⟨vs,H1,I1,r,q1⟩=>?_) hst (by rw [hst];rfl) rfl rfl
  obtain ⟨l,xs,kf,m,rfl,hl,hn,k1,m1,Tt,hT,more⟩:=q1
  obtain ⟨u,rfl,ru⟩:=zeE r
  cases ru
  refine kws_cons (zoF I1 S D hT hq hd fun f cl s2 H2 I2 sm L=>kws_nil ?_)
  obtain ⟨turn,fin⟩:=more H2 sm
  have hl2:SqL X.K H2 l xs:=sm.seq hl
  refine zlx (f:=f) I2 hl2 hn k1 m1 Tt (fun i v hv pins' s' H' u I' sm' rv=>?_) fun D' H' p a1 a2 a3 a4 a5=>fin D' H' p a1 a2 a3 a4 a5
  exact zqx (A:=X.A.in1.in1) I' S (L.same sm') I'.ok.frames (I'.ok.hd hc) hdp co ge (hb cl) (fun cd=>he cl f cd s' H') rv (turn i v hv H' sm')
structure FunC (K:Frag) (x qual:Str) (st:Stmt) (f:Addr) (fd:FuncData) (cv:Value):Prop where
 ex:∃(oc:Value) (od:Option Addr) (kV doc pm:Value) (an:Option Addr) (ct:Value) (osl:Array (Option Value)),
  fd=fnOf x qual (zaq st) (zan st) (zac st) .none kV doc pm an cv ct/\K.lookup f=some ⟨oc,od,.func fd,osl⟩/\codeIn K cv qual=true
theorem FunC.ok {P:Program} {w:World} {K:Frag} {mg:Str->Option Value} {bf:Heap} {x qual:Str} {st:Stmt} {f:Addr} {fd:FuncData} {cv:Value} {N ps:List Str} {k:Nat} {sp:Sp} (F:FunC K x qual st f fd cv) (S:FnScope N ps (zac st)) (len:∀vs H Q E,sp vs H Q E->vs.length=ps.length)
  (hbody:∀(A:Around) (outer:List Env) (s:Shared) (H:Hp) (vs:List V) (Q:VK) (E:XK),Room k (A.deeper (envOfC qual (zac st) s.heap.objs.size f cv))->sp vs H Q E->
    ∃t,PSs (cxOf CX0 P w K mg bf N qual (zac st) f cv A outer s H E).nox (zan st) t/\t { nx:=fun _ H'=>Q .non H',rt:=Q } (zfz N vs) H):FnOk P w K mg bf CX0 (k+1) f fd ps sp:=by
 obtain ⟨oc,od,kV,doc,pm,an,ct,osl,rfl,lk,hcd⟩:=F.ex
 refine zmk lk hcd S len fun A outer s H vs Q E hr hsp=>?_
 obtain ⟨t,h,q⟩:=hbody A outer s H vs Q E hr hsp
 exact ⟨t,h.nox,q⟩
theorem zqy {K:Frag} {x qual:Str} {st:Stmt} {f:Addr} {oc:Value} {od an:Option Addr} {osl:Array (Option Value)} {kV doc pm cdv ct:Value} (l:K.lookup f=some ⟨oc,od,.func (fnOf x qual (zaq st) (zan st) (zac st) .none kV doc pm an cdv ct),osl⟩)
 (c:codeIn K cdv qual=true):FunC K x qual st f (fnOf x qual (zaq st) (zan st) (zac st) .none kV doc pm an cdv ct) cdv:=⟨⟨oc,od,kV,doc,pm,an,ct,osl,rfl,l,c⟩⟩
structure DfnC (K:Frag) (mg:Str->Option Value) (x:Str) (st:Stmt) (ps:List Str) (f:Addr) (fd:FuncData) (cv:Value):Prop where
 F:FunC K x x st f fd cv
 kp:keepIn K (.ref f)=true
 b:za2 K fd ps []
 m:mg x=some (.ref f)
theorem DfnC.cal {P:Program} {w:World} {K:Frag} {mg:Str->Option Value} {bf:Heap} {x:Str} {st:Stmt} {ps:List Str} {f:Addr} {fd:FuncData} {cv:Value} {k:Nat} {sp:Sp}
 (D:DfnC K mg x st ps f fd cv) (G:FnOk P w K mg bf CX0 k f fd ps sp):Cal P w K mg bf x k ps sp:=⟨⟨f,fd,G,D.b,D.m,D.kp⟩⟩
def zgt (K:Frag):Bool:=K.all fun p=>match p.2.cls,p.2.data with | .none,.fields _=>false | _,_=>true
theorem zhq:∀ {K:Frag},zgt K=true->∀ {b:Addr} {vs:Array Value},K.lookup b≠some { cls:=.none,data:=.fields vs }
 | [],_,b,vs,e=>by cases e
 | (a,o)::K,h,b,vs,e=>by
   unfold zgt at h
   rw [all_cons,Bool.and_eq_true] at h
   rw [lookup_cons] at e
   cases z:b==a with
   | true=>
     rw [z] at e
     cases e
     exact absurd h.1 (by simp)
   | false=>
     rw [z] at e
     exact zhq (K:=K) h.2 e
theorem zm0 {P:Program} {w:World} {K:Frag} {mg mb:Str->Option Value} {k:Nat} {fa a T:Addr} {fd:FuncData} {x:Str} {lp:Pos} {q:Str} {sp:Sp} {s₁:Shared} {vs:List Value} {ns:List Int} {cv:Value}
  (KX:K.In s₁.heap) (kt:zgt K=true) (hns:s₁.heap.Ns mainGlobals mg) (hb:s₁.heap.Ns builtinsNs mb) (hbb:∀x:Str,x ≠ "__name__" -> mb x=bootBuiltins x) (hlim:s₁.heap.NoLimit) (hg:s₁.gens = #[])
  (ha:s₁.heap.get? a=some { cls:=.type "list",data:=.seq vs.toArray }) (hi:IntsAre vs ns) (hl:ns.length<=sizeLine) (hr:Room k callerA)
  (hT:s₁.heap.get? T=some (tabObj #[])) (hct:isCodeTable s₁.heap T) (hs:∀h:Heap,(∀b o,s₁.heap.get? b=some o->b≠T->b≠a->h.get? b=some o)->Site K mg h cv T)
  (F:∀bf:Heap,K.In bf->bf.Ns mainGlobals mg->Site K mg bf cv T->FnOk P w K mg bf CX0 k fa fd [x] sp) (hbind:∀(s:Shared) (u:Value),BindsTo s fd ⟨[u],[]⟩ [(x,u)])
  (hsp:∀H:Hp,H T=some (.tbl lp q)->SqL K H a (ns.map V.int)->sp [.ref a] H (fun v _=>v=.bl true) fun _ _ _=>False):
  codeAny (model P w) callerA (.call (.ref fa) ⟨[.ref a],[]⟩) (fun r s'=>r=.ok (.ret (.bool true))/\OldK s₁.heap s'.heap/\s'.os=s₁.os/\AllBare s'.gens) s₁:=by
 have rv:=ziE hi
 have lenV:=hi.length
 have aT:a≠T:=fun z=>by rw [z,hT] at ha;cases ha
 have core:∀H:Hp,H T=some (.tbl lp q)->SqL K H a (ns.map V.int)->(∀b u,H b=some u->b=T\/(b=a/\u=.frz { cls:=.type "list",data:=.seq vs.toArray } (.lst (ns.map V.int))))->(H a≠none->K.lookup a=none)->
   codeAny (model P w) callerA (.call (.ref fa) ⟨[.ref a],[]⟩) (fun r s'=>r=.ok (.ret (.bool true))/\OldK s₁.heap s'.heap/\s'.os=s₁.os/\AllBare s'.gens) s₁:=by
  intro H hHT hS hO hK
  have hok:HOk P w H s₁.heap:=fun b u e=>by
   rcases hO b u e with z | ⟨z,rfl⟩
   ·subst z
    rw [hHT] at e
    cases e
    exact ⟨#[],hT,trivial,.inl rfl⟩
   ·subst z
    exact ⟨ha,by rw [length_map];exact hl,vs,_,rv,ha⟩
  have base_of:∀ {b:Addr} {o:Obj},s₁.heap.get? b=some o->H b=none->(hidT s₁.heap H).get? b=some o:=fun e n=>zog e n
  have no:∀b,b≠T->b≠a->H b=none:=fun b n1 n2=>by
   cases z:H b with
   | none=>rfl
   | some u=>
     rcases hO b u z with y | y
     ·exact absurd y n1
     ·exact absurd y.1 n2
  have noA:∀ {b:Addr} {o:Obj} {es:Array DictEntry} {ep:Nat},s₁.heap.get? b=some o->o.data=.dict es ep->H b=none:=fun {b o es ep} e d=>by
   refine no b (fun z=>?_) fun z=>?_
   ·rw [z,hT] at e
    cases e
    cases d
   ·rw [z,ha] at e
    cases e
    cases d
  have nsK:∀ {b:Addr} {m:Str->Option Value},s₁.heap.Ns b m->(hidT s₁.heap H).Ns b m:=fun {b m} ⟨o,es,ep,e,d,r⟩=>⟨o,es,ep,base_of e (noA e d),d,r⟩
  have hKb:K.In (hidT s₁.heap H):=fun b o e=>base_of (KX b o e) (by
   cases z:H b with
   | none=>rfl
   | some u=>
     rcases hO b u z with y | y
     ·have e':=KX b o e
      rw [y,hT] at e'
      cases e'
      exact absurd e (zhq kt)
     ·have e2:=hK (by rw [<-y.1,z];simp)
      rw [<-y.1,e] at e2
      cases e2)
  have hM:Mod K mg (hidT s₁.heap H):=⟨hKb,nsK hns,⟨mb,nsK hb,hbb⟩,let ⟨mc,h1,h2⟩:=hlim;⟨mc,nsK h1,h2⟩⟩
  have e0:Env0 P w K mg (hidT s₁.heap H) callerA [] s₁ H:=⟨rfl,hM,fun b o e=>zpY e,Nat.le_of_eq (zl4 _ _),trivial,fun b hb=>absurd (show b∈([]:List Addr) from hb) (by simp),hok,.of_eq hg⟩
  have hSi:Site K mg (hidT s₁.heap H) cv T:=hs _ fun b o e n1 n2=>base_of e (no b n1 n2)
  refine codeAny_mono ((F _ hKb (nsK hns) hSi).run callerA [] s₁ H ⟨[.ref a],[]⟩ [.ref a] [.ref a] _ _ hr e0 (hbind s₁ (.ref a)) (.cons rfl .nil) (hsp H hHT hS)) fun r s' h=>?_
  cases r with
  | error e=>exact False.elim h
  | ok fl=>
    cases fl with
    | next=>exact False.elim h
    | brk=>exact False.elim h
    | cont=>exact False.elim h
    | ret u=>
      obtain ⟨v,H',os,bare,un,hok',r',qv⟩:=h
      have qv':v=.bl true:=qv
      subst qv'
      obtain rfl:u=Value.bool true:=r'
      have kp:∀b o,b≠T->s₁.heap.get? b=some o->s'.heap.get? b=some o:=fun b o n e=>by
       cases z:H b with
       | none=>exact un.keep b o e z (by intro z;exact absurd (show b∈([]:List Addr) from z) (by simp)) (by simp)
       | some u=>
         rcases hO b u z with y | ⟨y,rfl⟩
         ·exact absurd y n
         ·have z2:=un.frzs b _ _ z
          obtain ⟨e2,_⟩:=hok' b _ z2
          subst y
          rw [ha] at e
          cases e
          exact e2
      obtain ⟨ws,g1,_⟩:=hok' T _ (un.tbls T lp q hHT)
      refine ⟨rfl,⟨fun b o e=>?_,fun b o e=>?_⟩,os,bare⟩
      ·by_cases z:b=T
       ·subst z
        rw [hT] at e
        cases e
        exact .inr (.inl ⟨hct,rfl,#[],ws,rfl,by simpa using g1⟩)
       ·exact .inl (kp b o z e)
      ·by_cases z:b=T
       ·subst z
        exact ⟨_,g1⟩
       ·exact ⟨o,kp b o z e⟩
 cases hk:K.lookup a with
 | some o=>
   have e:=KX a o hk
   rw [ha] at e
   cases e
   refine core (fun b=>if b=T then some (.tbl lp q) else none) (if_pos rfl) (.inr ⟨_,vs.toArray,_,hk,rfl,rfl,rfl,by rw [size_toArray,lenV];exact hl,by simpa using rv⟩) (fun b u z=>?_) fun z=>absurd (if_neg aT) z
   by_cases hb:b=T
   ·exact .inl hb
   ·have z':=(if_neg hb).symm.trans z
    cases z'
 | none=>
   refine core (fun b=>if b=T then some (.tbl lp q) else if b=a then some (.frz { cls:=.type "list",data:=.seq vs.toArray } (.lst (ns.map V.int))) else none) (if_pos rfl) (.inl (.inr ⟨{ cls:=.type "list",data:=.seq vs.toArray },(if_neg aT).trans (if_pos rfl)⟩)) (fun b u z=>?_) fun _=>hk
   by_cases hb:b=T
   ·exact .inl hb
   ·have z:(if b=T then some (HO.tbl lp q) else if b=a then some (.frz { cls:=.type "list",data:=.seq vs.toArray } (.lst (ns.map V.int))) else none)=some u:=z
    rw [if_neg hb] at z
    by_cases hb2:b=a
    ·rw [if_pos hb2] at z
     cases z
     exact .inr ⟨hb2,rfl⟩
    ·rw [if_neg hb2] at z
     cases z
theorem walk_ofT {l:OpenLaw} {n k:Nat} {qp:Program} {loose:List Str} {XP:(Str->Option Value)->Heap->Prop} {YP:World->Heap->Prop} {d:DefRec} {K:Params->Frag} {sp:Frag->Addr->Sp} {x g:Str} {lp:Pos} {q:Str}
  (hn:l.most=some n) (hn2:n<=sizeLine) (hdf:d.params.defaults=[]) (hr:Room k callerA)
  (hY:∀(w:World) (h:Heap),YP w h->(K w.params).In h) (hK:∀p,zgt (K p)=true) (hrec:∃dr,(recsOf qp).find? (fun e=>e.name==g)=some dr)
  (F:∀(w:World) (mg:Str->Option Value) (fa:Addr) (h:Heap),(K w.params).In h->h.Ns mainGlobals mg->mg d.name=some (.ref fa)->
    ∃(fd fg:FuncData) (ag:Addr) (og:Obj),(∀(s:Shared) (u:Value),BindsTo s fd ⟨[u],[]⟩ [(x,u)])/\mg g=some (.ref ag)/\(K w.params).lookup ag=some og/\og.data=.func fg/\
     ∀T (bf:Heap),(K w.params).In bf->bf.Ns mainGlobals mg->Site (K w.params) mg bf fg.code T->FnOk l.prog w (K w.params) mg bf CX0 k fa fd [x] (sp (K w.params) T))
  (hsp:∀(K:Frag) (T:Addr) (H:Hp) (a:Addr) (ns:List Int),ns.length<=n->H T=some (.tbl lp q)->SqL K H a (ns.map V.int)->sp K T [.ref a] H (fun v _=>v=.bl true) fun _ _ _=>False):
  WalkO qp loose XP YP l.row.toRowW d [] (fun f vs=>PySem.call f vs):=by
 refine Att.attach_call hn hdf fun w s₀ s₁ mg mb fa o pm cd doc a vs ns G Y ho hd hcd hmg hobj hints hlen hg=>?_
 have KX:=hY w _ Y
 obtain ⟨fd,fg,ag,og,hb,hmg2,hlk,hog,hF⟩:=F w mg fa _ KX G.T.g hmg
 obtain ⟨dr,hdr⟩:=hrec
 have hnm:dr.name=g:=beq_iff_eq.mp (List.find?_some (p:=fun e:DefRec=>e.name==g) hdr)
 obtain ⟨a',o',fd',c,T,h1,h2,h3,h4,h5,h6⟩:=G.T.tab dr (List.mem_of_find?_eq_some hdr)
 rw [hnm,hmg2] at h1
 cases h1
 have h2':=KX ag og hlk
 rw [h2] at h2'
 cases h2'
 rw [hog] at h3
 cases h3
 obtain ⟨bm,ob,b1,b2,b3,b4,b5,b6⟩:=G.T.bmain
 have hT:=h6.2
 have ha:=hobj
 have bT:bm≠T:=fun z=>by
  rw [z,hT] at b3
  cases b3
  cases b4
 have ba:bm≠a:=fun z=>by
  rw [z,ha] at b3
  cases b3
  injection b4 with y
  exact absurd y (by decide)
 have bG:bm≠mainGlobals:=fun z=>by
  obtain ⟨og',es,ep,e,dd,_⟩:=G.T.g
  rw [z,e] at b3
  cases b3
  rw [dd] at b6
  cases b6
 have C:=CodeHd.of h5 h6
 obtain ⟨⟨oc,us,c1,c2,c3,c4⟩,_⟩:=id h6
 have cT:c≠T:=fun z=>by
  rw [z,hT] at c1
  cases c1
  cases c2
 have ca:c≠a:=fun z=>by
  rw [z,ha] at c1
  cases c1
  injection c2 with y
  exact absurd y (by decide)
 have site:∀h:Heap,(∀b o,s₁.heap.get? b=some o->b≠T->b≠a->h.get? b=some o)->Site (K w.params) mg h fg.code T:=fun h kp=>
  ⟨⟨c,h4,by
    obtain ⟨o2,vs2,file,tf,flags,tg,inF,text,tt,e,r⟩:=id C
    exact ⟨o2,vs2,file,tf,flags,tg,inF,text,tt,kp _ _ e cT ca,r⟩⟩,bm,ob,b1,b2,bG,bT,kp _ _ b3 bT ba,b4,b5,b6⟩
 exact zm0 (lp:=lp) (q:=q) (sp:=sp (K w.params) T) KX (hK _) G.T.g G.T.b G.T.builtins G.T.nolimit hg hobj hints (Nat.le_trans hlen hn2) hr hT h6.isCodeTable site (hF T) hb fun H hO hS=>hsp (K w.params) T H a ns hlen hO hS
end L2
namespace L2
open PySem PySem.Spec PyProof.Rows
section
theorem zm1 {b:Int} (h0:0<b) (h1:b<=12):b∣27720:=by
 obtain ⟨k,rfl⟩:=Int.eq_ofNat_of_zero_le (Int.le_of_lt h0)
 have hk:k<=12:=Int.ofNat_le.mp h1
 have hp:0<k:=Int.ofNat_lt.mp h0
 match k,hk,hp with
 | 1,_,_=>exact ⟨27720,rfl⟩
 | 2,_,_=>exact ⟨13860,rfl⟩
 | 3,_,_=>exact ⟨9240,rfl⟩
 | 4,_,_=>exact ⟨6930,rfl⟩
 | 5,_,_=>exact ⟨5544,rfl⟩
 | 6,_,_=>exact ⟨4620,rfl⟩
 | 7,_,_=>exact ⟨3960,rfl⟩
 | 8,_,_=>exact ⟨3465,rfl⟩
 | 9,_,_=>exact ⟨3080,rfl⟩
 | 10,_,_=>exact ⟨2772,rfl⟩
 | 11,_,_=>exact ⟨2520,rfl⟩
 | 12,_,_=>exact ⟨2310,rfl⟩
theorem zoI {m b:Int} (hm:0<m) (hb:0<b):0<m*b / M1.gd m b/\m∣m*b / M1.gd m b/\b∣m*b / M1.gd m b/\∀k:Int,m∣k->b∣k->m*b / M1.gd m b∣k:=by
 obtain ⟨x,rfl⟩:=Int.eq_ofNat_of_zero_le (Int.le_of_lt hm)
 obtain ⟨y,rfl⟩:=Int.eq_ofNat_of_zero_le (Int.le_of_lt hb)
 have e:(x:Int)*(y:Int) / M1.gd x y=((Nat.lcm x y:Nat):Int):=by
  unfold M1.gd
  rw [Int.gcd_natCast_natCast]
  unfold Nat.lcm
  rw [<-Int.natCast_mul,<-Int.natCast_ediv]
 rw [e]
 have x0:0<x:=by omega
 have y0:0<y:=by omega
 refine ⟨?_,?_,?_,fun k h1 h2=>?_⟩
 ·have:=Nat.lcm_pos x0 y0
  omega
 ·exact Int.natCast_dvd_natCast.mpr (Nat.dvd_lcm_left x y)
 ·exact Int.natCast_dvd_natCast.mpr (Nat.dvd_lcm_right x y)
 ·rw [Int.ofNat_dvd_left] at h1 h2 ⊢
  exact Nat.lcm_dvd h1 h2
def wM (c:Cl) (t M:Int):Int:=c.wt*(M / c.wb)+(t-c.came)*(c.st*(M / c.sb))
def kM (c:Cl) (t M:Int):List Int:=[-(wM c t M),c.came,c.n]
theorem zrU {c:Cl} {t M:Int} (h1:c.wb∣M) (h2:c.sb∣M):wM c t M*wbot c=wtop c t*M:=by
 have e1:=Int.ediv_mul_cancel h1
 have e2:=Int.ediv_mul_cancel h2
 unfold wM wbot wtop
 rw [Int.add_mul,Int.add_mul]
 congr 1
 ·calc c.wt*(M / c.wb)*(c.wb*c.sb)=c.wt*c.sb*(M / c.wb*c.wb):=by ac_rfl
   _=c.wt*c.sb*M:=by rw [e1]
 ·calc (t-c.came)*(c.st*(M / c.sb))*(c.wb*c.sb)=(t-c.came)*c.st*c.wb*(M / c.sb*c.sb):=by ac_rfl
   _=(t-c.came)*c.st*c.wb*M:=by rw [e2]
theorem ztd {c d:Cl} {t M:Int} (c1:c.wb∣M) (c2:c.sb∣M) (d1:d.wb∣M) (d2:d.sb∣M):gap c d t*M=(wM c t M-wM d t M)*(wbot c*wbot d):=by
 have e1:=zrU (t:=t) c1 c2
 have e2:=zrU (t:=t) d1 d2
 unfold gap
 rw [Int.sub_mul,Int.sub_mul]
 congr 1
 ·calc wtop c t*wbot d*M=(wtop c t*M)*wbot d:=by ac_rfl
   _=(wM c t M*wbot c)*wbot d:=by rw [e1]
   _=wM c t M*(wbot c*wbot d):=by ac_rfl
 ·calc wtop d t*wbot c*M=(wtop d t*M)*wbot c:=by ac_rfl
   _=(wM d t M*wbot d)*wbot c:=by rw [e2]
   _=wM d t M*(wbot c*wbot d):=by ac_rfl
theorem zqz {c d:Cl} {t M:Int} (oc:c.Ok) (od:d.Ok) (hM:0<M) (c1:c.wb∣M) (c2:c.sb∣M) (d1:d.wb∣M) (d2:d.sb∣M):HT.lexLt (kM c t M) (kM d t M)=ahd c d t:=by
 have e:=ztd (t:=t) c1 c2 d1 d2
 have bp:0<wbot c*wbot d:=Int.mul_pos (zgp oc) (zgp od)
 unfold kM ahd
 rw [HT.lexLt_cons,zqv]
 rcases (by omega:wM c t M-wM d t M<0\/wM c t M-wM d t M=0\/0<wM c t M-wM d t M) with z | z | z
 ·have g:gap c d t<0:=by
   refine Int.not_le.mp fun y=>?_
   have h1:=Int.mul_nonneg y (Int.le_of_lt hM)
   have h2:=Int.mul_neg_of_neg_of_pos z bp
   omega
  rw [if_neg (by omega),if_neg (by omega),decide_eq_false (by omega),decide_eq_false (by omega)]
 ·have g:gap c d t=0:=by
   rw [z,Int.zero_mul] at e
   rcases Int.mul_eq_zero.mp e with y | y
   ·exact y
   ·omega
  rw [if_pos (by omega),if_pos g]
 ·have g:0<gap c d t:=by
   refine Int.not_le.mp fun y=>?_
   have h1:=Int.mul_nonpos_of_nonpos_of_nonneg y (Int.le_of_lt hM)
   have h2:=Int.mul_pos z bp
   omega
  rw [if_neg (by omega),if_neg (by omega),decide_eq_true (by omega),decide_eq_true (by omega)]
theorem zrV {cs:List Cl} (g:Good cs) {i j:Nat} {c d:Cl} (h1:cs[i]?=some c) (h2:cs[j]?=some d) (ne:i≠j):c.n≠d.n:=fun e=>by
 obtain ⟨a1,b1⟩:=List.getElem?_eq_some_iff.mp h1
 obtain ⟨a2,b2⟩:=List.getElem?_eq_some_iff.mp h2
 have nd:=g.nd
 have:=(List.getElem_inj (xs:=cs.map (·.n)) (i:=i) (j:=j) (h₀:=by simpa using a1) (h₁:=by simpa using a2) nd).mp (by rw [getElem_map,getElem_map,b1,b2];exact e)
 exact ne this
def zjO (cs:List Cl) (t:Int) (i j:Nat):Bool:=match cs[i]?,cs[j]? with
 | some c,some d=>ahd c d t
 | _,_=>false
theorem zrW {cs:List Cl} (g:Good cs) (t:Int):Tot cs.length (zjO cs t) where
 asym:=fun i j hi hj h=>by
  unfold zjO at h ⊢
  rw [getElem?_eq_getElem hi,getElem?_eq_getElem hj] at h ⊢
  cases z:ahd cs[j] cs[i] t with
  | false=>exact z
  | true=>exact (zgr h z).elim
 tot:=fun i j hi hj ne h=>by
  unfold zjO at h ⊢
  rw [getElem?_eq_getElem hi,getElem?_eq_getElem hj] at h ⊢
  show ahd cs[j] cs[i] t=true
  rw [zkI (zrV g (getElem?_eq_getElem hi) (getElem?_eq_getElem hj) ne)]
  have h:ahd cs[i] cs[j] t=false:=h
  rw [h]
  rfl
 trans:=fun i j k hi hj hk h1 h2=>by
  unfold zjO at h1 h2 ⊢
  rw [getElem?_eq_getElem hi,getElem?_eq_getElem hj] at h1
  rw [getElem?_eq_getElem hj,getElem?_eq_getElem hk] at h2
  rw [getElem?_eq_getElem hi,getElem?_eq_getElem hk]
  exact ziQ (g.ok _ (getElem_mem hi)) (g.ok _ (getElem_mem hj)) (g.ok _ (getElem_mem hk)) h1 h2
def zeL (cs:List Cl) (t M:Int) (i:Nat):List Int:=match cs[i]? with
 | some c=>kM c t M
 | none=>[0,0,0]
theorem zrX (cs:List Cl) (t M:Int) (i:Nat):(zeL cs t M i).length=3:=by
 unfold zeL
 cases cs[i]?<;>rfl
theorem zrY {cs:List Cl} (g:Good cs) {t M:Int} (hM:0<M) (hd:∀c∈cs,c.wb∣M/\c.sb∣M) {i j:Nat} (hi:i<cs.length) (hj:j<cs.length):HT.lexLt (zeL cs t M i) (zeL cs t M j)=zjO cs t i j:=by
 unfold zeL zjO
 rw [getElem?_eq_getElem hi,getElem?_eq_getElem hj]
 have m1:=getElem_mem hi
 have m2:=getElem_mem hj
 exact zqz (g.ok _ m1) (g.ok _ m2) hM (hd _ m1).1 (hd _ m1).2 (hd _ m2).1 (hd _ m2).2
theorem Tot.congr {n:Nat} {lt lt':Nat->Nat->Bool} (T:Tot n lt) (h:∀i j,i<n->j<n->lt' i j=lt i j):Tot n lt' where
 asym:=fun i j hi hj e=>by
  rw [h i j hi hj] at e
  rw [h j i hj hi]
  exact T.asym i j hi hj e
 tot:=fun i j hi hj ne e=>by
  rw [h i j hi hj] at e
  rw [h j i hj hi]
  exact T.tot i j hi hj ne e
 trans:=fun i j k hi hj hk e1 e2=>by
  rw [h i j hi hj] at e1
  rw [h j k hj hk] at e2
  rw [h i k hi hk]
  exact T.trans i j k hi hj hk e1 e2
theorem zrZ {cs:List Cl} (g:Good cs) {t M:Int} (hM:0<M) (hd:∀c∈cs,c.wb∣M/\c.sb∣M):Tot cs.length (fun i j=>HT.lexLt (zeL cs t M i) (zeL cs t M j)):=(zrW g t).congr fun i j hi hj=>zrY g hM hd hi hj
theorem zm2 {α:Type} (d : α) (xs:List α) {p:List Nat} (h:p.Perm (List.range xs.length)):(p.map fun i=>xs.getD i d).Perm xs:=by
 have e:(List.range xs.length).map (fun i=>xs.getD i d)=xs:=by
  apply List.ext_getElem
  ·simp
  ·intro i h1 h2
   simp [h2]
 have:=h.map fun i=>xs.getD i d
 rw [e] at this
 exact this
theorem zoJ {ps:List (Addr × Cl)} (g:Good (ps.map (·.2))) {t M:Int} (hM:0<M) (hd:∀c∈ps.map (·.2),c.wb∣M/\c.sb∣M) {p:List Nat} (h:p.Perm (List.range (ps.map (·.2)).length)) (d:Addr × Cl)
  (hs:∀i j,i<j->j<p.length->HT.lexLt (zeL (ps.map (·.2)) t M (p.getD i 0)) (zeL (ps.map (·.2)) t M (p.getD j 0))=true):Srt t ((p.map fun i=>ps.getD i d).map (·.2)):=by
 unfold Srt
 rw [map_map,List.pairwise_iff_getElem]
 intro i j hi hj ij
 rw [length_map] at hi hj
 have lt:∀k (hk:k<p.length),p[k]<(ps.map (·.2)).length:=fun k hk=>mem_range.mp (h.mem_iff.mp (getElem_mem hk))
 have z:=hs i j ij hj
 rw [getD_eq_getElem?_getD,getD_eq_getElem?_getD,getElem?_eq_getElem hi,getElem?_eq_getElem hj] at z
 have z:HT.lexLt (zeL (ps.map (·.2)) t M p[i]) (zeL (ps.map (·.2)) t M p[j])=true:=z
 rw [zrY g hM hd (lt i hi) (lt j hj)] at z
 unfold zjO at z
 rw [getElem?_eq_getElem (lt i hi),getElem?_eq_getElem (lt j hj)] at z
 have z:ahd ((ps.map (·.2))[p[i]]'(lt i hi)) ((ps.map (·.2))[p[j]]'(lt j hj)) t=true:=z
 rw [getElem_map,getElem_map] at z
 rw [getElem_map,getElem_map]
 have e:∀k (hk:k<p.length),ps.getD p[k] d=ps[p[k]]'(by have:=lt k hk;simpa using this):=fun k hk=>by
  have:=lt k hk
  rw [getD_eq_getElem?_getD,getElem?_eq_getElem (by simpa using this)]
  rfl
 show ahd (ps.getD p[i] d).2 (ps.getD p[j] d).2 t=true
 rw [e i hi,e j hj]
 exact z
section
variable {X:Cx}
theorem zm3 (bs:List Bool):(List.range bs.length).any (fun i=>(bs[i]?).getD false)=bs.any id:=by
 induction bs with
 | nil=>rfl
 | cons b r ih=>
   rw [length_cons,range_succ_eq_map,any_cons,List.any_map,any_cons,<-ih]
   rfl
theorem ziS (hc:X.calm=true):zcE X (.builtin "any") (fun xs H Q=>∃(p:Addr) (bs:List Bool),xs=[.ref p]/\SqL X.K H p (bs.map V.bl)/\Q (.bl (bs.any id)) H):=by
 intro ai s σ H xs us Q I r h
 obtain ⟨p,bs,rfl,hq,q⟩:=h
 obtain ⟨u,rfl,ru⟩:=zeE r
 cases ru
 obtain ⟨its,rv,pl,hz⟩:=I.list hq
 have lt:p<s.heap.objs.size:=by
  obtain ⟨o,ho,_⟩:=pl.isList
  exact Heap.lt_size ho
 have hl:its.toArray.size=bs.length:=by
  have:=rv.length
  simp at this ⊢
  omega
 refine call_any_walk (wpAny_pyIter_list pl.isList ?_)
 refine ⟨s.heap.objs.size,_,_,_,_,_,fun i=>(bs[i]?).getD false,rfl,Walks.list (prog:=X.prog) (w:=X.w) (A:=X.A.in1) (show X.A.in1.handled=none from I.ok.hd hc) _ p (Nat.ne_of_lt lt) its.toArray,⟨⟨_,Heap.get?_push_size _ rfl,rfl,rfl⟩,pl.isList.at fun o e=>Heap.get?_push_of_some _ e⟩,fun i v s' Q' E' hP hQ'=>?_,fun h' tk kk=>?_⟩
 ·have hP':its[i]?=some v:=by simpa using hP
  cases e:bs[i]? with
  | none=>
    have h1:its.length<=i:=by
     have h2:=List.getElem?_eq_none_iff.mp e
     simp at hl
     omega
    rw [getElem?_eq_none h1] at hP'
    cases hP'
  | some b=>
    dsimp only at hQ'
    rw [e] at hQ'
    obtain ⟨u,hu,ru⟩:=rv.get (i:=i) (x:=.bl b) (by rw [getElem?_map,e];rfl)
    rw [hP'] at hu
    cases hu
    cases (show v=Value.bool b from ru)
    exact wpAny_truthy_bool hQ'
 ·rw [hl,zm3]
  refine ⟨.bl _,H,I.kept (t':=tk) (h':=h') fun b o e=>kk b o ?_ (Heap.get?_push_of_some _ e),rfl,q⟩
  intro z
  have z:b=s.heap.objs.size:=by simpa using z
  exact Nat.ne_of_lt (Heap.lt_size e) z
end
end
end L2
namespace L2
open PySem PySem.Spec PyProof.Rows PySem.W
section
variable {X:Cx}
end
end L2
namespace L2
open PySem PySem.Spec PyProof.Rows
section
abbrev Row:=Int × Int × Int
def Row.key (r:Row):List Int:=[r.1,r.2.1,r.2.2]
def rlt (r q:Row):Bool:=HT.lexLt (Row.key r) (Row.key q)
def rk (rows:List Row) (i:Nat):List Int:=match rows[i]? with
 | some r=>Row.key r
 | none=>[0,0,0]
noncomputable def mt (b l:Cl) (t:Int):Option Int:=open Classical in if h:∃u,Pass b l t (.int u) then some h.choose else none
structure RowsOf (cs:List Cl) (t:Int) (rows:List Row):Prop where
 srt:rows.Pairwise fun r q=>rlt r q=true
 mem:∀r:Row,r∈rows↔∃b f,b∈cs/\f∈cs/\ahd f b t=true/\mt b f t=some r.1/\r.2.1=b.n/\r.2.2=f.n
theorem zpz {cs:List Cl} {t:Int} (h:Srt t cs) {j k:Nat} {b f:Cl} (hb:cs[j]?=some b) (hf:cs[k]?=some f) (kj:k<j):ahd f b t=true:=by
 obtain ⟨a1,b1⟩:=List.getElem?_eq_some_iff.mp hb
 obtain ⟨a2,b2⟩:=List.getElem?_eq_some_iff.mp hf
 have:=(List.pairwise_iff_getElem.mp h) k j a2 a1 kj
 rw [b1,b2] at this
 exact this
structure IsRows (H:Hp) (l:Addr) (rs:List (Addr × Row)):Prop where
 at_:H l=some (.lst (rs.map fun r=>V.ref r.1))
 rw:∀r,r∈rs->H r.1=some (.tup ((Row.key r.2).map V.int))
end
end L2
namespace L2
open PySem PySem.Spec PyProof.Rows
section
theorem zgu {K:W.Frag} {a:Addr} {xs:List V} {js:List Nat} {tc:TT} {te:TE} {σ:St} {H1:Hp} {Q:VK} (p:Nat->Bool) (f:Nat->List V) (hl:SqL K H1 a xs)
  (ht:∀i x Hh (Q':Bool->Hp->Prop),xs[i]?=some x->Same H1 Hh->(∀Hh',Same Hh Hh'->Q' (p i) Hh')->tc (some x::caps σ js) Hh Q')
  (he:∀i x Hh (Q':VK),xs[i]?=some x->p i=true->Same H1 Hh->(∀b Hh',Same Hh Hh'->Hh' b=some (.tup (f i))->Q' (.ref b) Hh')->te (some x::caps σ js) Hh Q')
  (hz:xs.length<sizeLine) (q:∀D H2 (bs:List (Addr × List V)),Same H1 H2->H1 D=none->H2 D=some (.lst (bs.map fun b=>V.ref b.1))->bs.map (·.2)=((List.range xs.length).filter p).map f->(∀b,b∈bs->H2 b.1=some (.tup b.2))->Q (.ref D) H2):
  zfs (Itl K a) js tc te σ H1 Q:=by
 intro D H2 s2 hD h2
 refine ⟨fun i m acc H3=>m=xs.length-i/\i<=xs.length/\∃bs:List (Addr × List V),acc=(bs.map fun b=>V.ref b.1)/\bs.map (·.2)=((List.range i).filter p).map f/\(∀b,b∈bs->H3 b.1=some (.tup b.2))/\Same H1 H3/\H3 D=some (.lst acc),⟨_,rfl,Nat.zero_le _,[],rfl,by simp,fun b hb=>by simp at hb,s2,h2⟩,?_⟩
 rintro i m acc H3 ⟨rfl,hi,bs,ea,eb,hb,s3,h3⟩
 have hl3:SqL K H3 a xs:=s3.seq hl
 have hll:acc.length<=xs.length:=by
  have e:=congrArg List.length eb
  rw [length_map,length_map] at e
  rw [ea,length_map,e]
  refine Nat.le_trans (length_filter_le _ _) ?_
  rw [length_range]
  exact hi
 refine ⟨h3,by omega,?_⟩
 by_cases hlt:i<xs.length
 ·have hx:xs[i]?=some xs[i]:=getElem?_eq_getElem hlt
  refine .inr ⟨⟨xs,_,hl3,hx⟩,fun y H4 z=>?_⟩
  obtain ⟨e,ey⟩:=z
  have ey2:=ey xs hl3
  subst e
  refine ht i y _ _ ey2 s3 fun H5 s5=>?_
  have h5:=s5 _ _ h3
  have s35:=s3.trans s5
  have tk:(List.range (i+1)).filter p=(List.range i).filter p++(if p i=true then [i] else []):=by
   rw [range_succ,filter_append]
   congr 1
   cases h:p i<;>simp [h]
  cases hp:p i with
  | true=>
    refine iteT (he i y _ _ ey2 hp s35 fun b6 H6 s6 g6=>⟨s6 _ _ h5,fun H7 k7 h7=>⟨xs.length-(i+1),by omega,rfl,hlt,bs++[(b6,f i)],?_,?_,fun b hb'=>?_,fun b o e=>?_,h7⟩⟩)
    ·rw [ea,map_append]
     rfl
    ·rw [map_append,eb,tk,hp,if_pos rfl,map_append]
     rfl
    ·have nD:∀c t,H6 c=some (.tup t)->c≠D:=fun c t g z=>by
      rw [z,s6 _ _ h5] at g
      cases g
     rcases mem_append.mp hb' with h | h
     ·have g:=s6 _ _ (s5 _ _ (hb b h))
      exact k7 _ _ (nD _ _ g) g
     ·have:b=(b6,f i):=by simpa using h
      subst this
      exact k7 _ _ (nD _ _ g6) g6
    ·by_cases hbD:b=D
     ·subst hbD
      rw [hD] at e
      cases e
     ·exact k7 b o hbD (s6 b o (s35 b o e))
  | false=>
    refine iteF ⟨xs.length-(i+1),by omega,rfl,hlt,bs,ea,?_,fun b hb'=>s5 _ _ (hb b hb'),s35,h5⟩
    rw [tk,hp,if_neg Bool.false_ne_true,append_nil]
    exact eb
 ·have e:i=xs.length:=by omega
  subst e
  refine .inl ⟨⟨xs,hl3,Nat.le_refl _⟩,?_⟩
  rw [ea] at h3
  exact q D _ bs s3 hD h3 eb hb
section
variable {X:Cx} {K:W.Frag}
theorem zhL {e:Expr} {f:Str} {pos:Pos} {ta:TE} (he:PE X e ta) (hb:attributeBase e f X.env (eval e X.env)=eval e X.env) (hK:X.K=K):PE X (.Attribute e f pos) (zrK K ta f):=hK▸zqr he hb
def rIsC (K:W.Frag) (C:Addr):List V->Hp->VK->Prop:=fun xs H Q=>∃x t b,xs=[x,.ref C]/\TyX K H x t/\W.kitOne K t (.ref C)=some b/\Q (.bl b) H
theorem zdu {C:Addr} (hK:X.K=K):zcE X (.builtin "isinstance") (rIsC K C):=hK▸ziN (C:=C)
def rIsT (K:W.Frag) (n:String):List V->Hp->VK->Prop:=fun xs H Q=>∃x t b,xs=[x,.ty n]/\TyX K H x t/\W.kitOne K t (.type n)=some b/\Q (.bl b) H
theorem zhr {n:String} (hK:X.K=K):zcE X (.builtin "isinstance") (rIsT K n):=hK▸zb6 (n:=n)
end
section
variable {X:Cx}
def zsa:TE:=fun _ H Q=>∀p H2,Same H H2->H p=none->H2 p=some (.dK [])->Q (.ref p) H2
theorem zkM {pos:Pos}:PE X (.Dict [] [] pos) zsa:=by
 with_unfolding_all
  exact fun ai s σ H Q I h=>zoq ai s σ H Q I fun p n=>h p _ (zbn n _) n zam
end
def zm4:Expr->Bool
 | .Starred .. => true
 | _=>false
theorem zlz {e:Expr} (h:zm4 e=false) (rest:List Expr) (env:Env):starEach (e::rest) env=(false,eval e env)::starEach rest env:=by
 cases e<;>first | rfl | cases h
section
variable {X:Cx}
theorem zoK {e:Expr} {es:List Expr} {te:TE} {t:TA} (ha:PE X e te) (hr:PA X es t) (hs:zm4 e=false:=by rfl):PA X (e::es) (zdE te t):=zaa ha hr (zlz hs es X.env)
end
theorem zm5:∀ {l m:List Int},l.Nodup->(∀x,x∈l->x∈m)->l.length<=m.length
 | [],m,_,_=>Nat.zero_le _
 | x::l,m,nd,h=>by
   have hx:=h x mem_cons_self
   obtain ⟨n1,n2⟩:=nodup_cons.mp nd
   have:=zm5 (l:=l) (m:=m.erase x) n2 fun y hy=>(List.mem_erase_of_ne (fun e=>n1 (by rw [<-e];exact hy))).mpr (h y (mem_cons_of_mem _ hy))
   rw [List.length_erase_of_mem hx] at this
   have:=List.length_pos_of_mem hx
   rw [length_cons]
   omega
theorem zm6 {k:Int}:∀ {ns:List Int},inV (.int k) (ns.map V.int)=decide (k∈ns)
 | []=>by simp [inV]
 | n::ns=>by
   have ih:=zm6 (k:=k) (ns:=ns)
   unfold inV at ih ⊢
   rw [map_cons,any_cons,ih]
   by_cases e:k=n
   ·subst e
    simp [eqV]
   ·simp [eqV,e,Ne.symm e]
def tak {α:Type} (xs:List α) (P : α->Bool) (i:Nat):Bool:=match xs[i]? with
 | some x=>P x
 | none=>false
theorem zc3 {α:Type} (P : α->Bool) (g : α->V):∀xs:List α,((List.range xs.length).filter (tak xs P)).map (itm xs g)=(xs.filter P).map g
 | []=>rfl
 | x::xs=>by
   rw [length_cons,range_succ_eq_map,filter_cons,filter_map]
   have e1:(tak (x::xs) P ∘ Nat.succ)=tak xs P:=rfl
   have e2:∀l:List Nat,(l.map Nat.succ).map (itm (x::xs) g)=l.map (itm xs g):=fun l=>by
    rw [map_map]
    rfl
   rw [e1,filter_cons]
   have e3:tak (x::xs) P 0=P x:=rfl
   rw [e3]
   cases P x with
   | true=>
     rw [if_pos rfl,if_pos rfl,map_cons,map_cons,e2,zc3 P g xs]
     rfl
   | false=>
     rw [if_neg Bool.false_ne_true,if_neg Bool.false_ne_true,e2,zc3 P g xs]
def itl {α:Type} (xs:List α) (g : α->List V) (i:Nat):List V:=match xs[i]? with
 | some x=>g x
 | none=>[]
theorem zgv {α:Type} (P : α->Bool) (g : α->List V):∀xs:List α,((List.range xs.length).filter (tak xs P)).map (itl xs g)=(xs.filter P).map g
 | []=>rfl
 | x::xs=>by
   rw [length_cons,range_succ_eq_map,filter_cons,filter_map]
   have e1:(tak (x::xs) P ∘ Nat.succ)=tak xs P:=rfl
   have e2:∀l:List Nat,(l.map Nat.succ).map (itl (x::xs) g)=l.map (itl xs g):=fun l=>by
    rw [map_map]
    rfl
   rw [e1,filter_cons]
   have e3:tak (x::xs) P 0=P x:=rfl
   rw [e3]
   cases P x with
   | true=>
     rw [if_pos rfl,if_pos rfl,map_cons,map_cons,e2,zgv P g xs]
     rfl
   | false=>
     rw [if_neg Bool.false_ne_true,if_neg Bool.false_ne_true,e2,zgv P g xs]
end
end L2
namespace L2
open PySem PySem.Spec PyProof.Rows
section
section
variable {X:Cx}
@[irreducible] def PAi (X:Cx) (es:List Expr) (t:TA):Prop:=PA X es t
theorem zay:PAi X [] tNil:=by
 unfold PAi
 exact zae
theorem zab {e:Expr} {es:List Expr} {te:TE} {t:TA} (ha:PE X e te) (hr:PAi X es t) (hs:zm4 e=false:=by rfl):PAi X (e::es) (zdE te t):=by
 unfold PAi at *
 exact zoK ha hr hs
theorem pai {es:List Expr} {t:TA} (h:PAi X es t):PA X es t:=by
 unfold PAi at h
 exact h
end
end
end L2
namespace L2
open PySem PySem.Spec PyProof.Rows
section
def Walk (cs:List Cl) (r:Row):Prop:=∃b f,b∈cs/\f∈cs/\b.n≠f.n/\ahd f b (r.1-1)=true/\ahd b f r.1=true/\r.2.1=b.n/\r.2.2=f.n
structure Betw (cs:List Cl) (t u:Int) (rows:List Row):Prop where
 srt:rows.Pairwise fun r q=>rlt r q=true
 mem:∀r:Row,r∈rows↔(t<r.1/\r.1<=u)/\Walk cs r
end
end L2
namespace L2
open PySem
theorem ul1 {α:Type} {us:List α} (h:us.length=1):∃a1,us=[a1]:=by
 match us,h with
 | [a1],_=>exact ⟨a1,rfl⟩
theorem ul2 {α:Type} {us:List α} (h:us.length=2):∃a1 a2,us=[a1,a2]:=by
 match us,h with
 | [a1,a2],_=>exact ⟨a1,a2,rfl⟩
theorem ul3 {α:Type} {us:List α} (h:us.length=3):∃a1 a2 a3,us=[a1,a2,a3]:=by
 match us,h with
 | [a1,a2,a3],_=>exact ⟨a1,a2,a3,rfl⟩
theorem ul4 {α:Type} {us:List α} (h:us.length=4):∃a1 a2 a3 a4,us=[a1,a2,a3,a4]:=by
 match us,h with
 | [a1,a2,a3,a4],_=>exact ⟨a1,a2,a3,a4,rfl⟩
theorem ul5 {α:Type} {us:List α} (h:us.length=5):∃a1 a2 a3 a4 a5,us=[a1,a2,a3,a4,a5]:=by
 match us,h with
 | [a1,a2,a3,a4,a5],_=>exact ⟨a1,a2,a3,a4,a5,rfl⟩
theorem ul6 {α:Type} {us:List α} (h:us.length=6):∃a1 a2 a3 a4 a5 a6,us=[a1,a2,a3,a4,a5,a6]:=by
 match us,h with
 | [a1,a2,a3,a4,a5,a6],_=>exact ⟨a1,a2,a3,a4,a5,a6,rfl⟩
theorem ul7 {α:Type} {us:List α} (h:us.length=7):∃a1 a2 a3 a4 a5 a6 a7,us=[a1,a2,a3,a4,a5,a6,a7]:=by
 match us,h with
 | [a1,a2,a3,a4,a5,a6,a7],_=>exact ⟨a1,a2,a3,a4,a5,a6,a7,rfl⟩
end L2
namespace L2
open PySem PySem.Spec PyProof.Rows
section
def Cl.at (d:Cl) (x:Int):Cl:=⟨d.n,d.wt,d.wb,d.st,d.sb,x⟩
def ovr (c d:Cl) (t:Int):Bool:=decide (0<gap d c t)
def abl (c d:Cl) (x u:Int):Bool:=ovr c (d.at x) x||ovr c (d.at x) u
inductive LastAt (c d:Cl) (b u:Int):V->Prop
 | no:(∀x,b<=x->x<=u->abl c d x u=false)->LastAt c d b u .non
 | at (r:Int):b<=r->r<=u->abl c d r u=true->(∀x,r<x->x<=u->abl c d x u=false)->LastAt c d b u (.int r)
def Cx.calmed (X:Cx):Cx:=⟨X.prog,X.w,X.K,X.mg,X.bf,X.A,X.N,X.s₀,X.H₀,X.env,X.outer,X.stack,X.ex,X.fn,X.calm,X.pn,fun _ _=>False⟩
theorem Inv.calmed {X:Cx} {ai:List (Addr × Obj)} {σ:St} {H:Hp} {s:Shared} (I:Inv X ai σ H s):Inv X.calmed ai σ H s:=by
 obtain ⟨ok,a1,a2,a3,a4,a5,a6,a7,a8,a9,a10⟩:=I
 refine ⟨?_,a1,a2,a3,a4,a5,a6,a7,a8,a9,a10⟩
 cases ok
 constructor<;>assumption
theorem Inv.uncalmed {X:Cx} {ai:List (Addr × Obj)} {σ:St} {H:Hp} {s:Shared} (I:Inv X.calmed ai σ H s):Inv X ai σ H s:=by
 obtain ⟨ok,a1,a2,a3,a4,a5,a6,a7,a8,a9,a10⟩:=I
 refine ⟨?_,a1,a2,a3,a4,a5,a6,a7,a8,a9,a10⟩
 cases ok
 constructor<;>assumption
theorem zqA {X:Cx} {st:Stmt} {t:TS} (h:PS X.calmed st t):PS X st t:=by
 with_unfolding_all
  intro ai s σ H D I q
  refine wpAny_mono (h ai s σ H D I.calmed q) (fun f s' r=>?_) fun _ _ z=>z.elim
  cases f with
  | next=>obtain ⟨σ',H',J,d⟩:=r;exact ⟨σ',H',J.uncalmed,d⟩
  | brk=>obtain ⟨σ',H',J,d⟩:=r;exact ⟨σ',H',J.uncalmed,d⟩
  | cont=>obtain ⟨σ',H',J,d⟩:=r;exact ⟨σ',H',J.uncalmed,d⟩
  | ret u=>obtain ⟨v,σ',H',J,rv,d⟩:=r;exact ⟨v,σ',H',J.uncalmed,rv,d⟩
section
variable {X:Cx}
end
end
end L2
namespace L2
open PySem PySem.Spec PyProof.Rows
section
structure CompScopeN (X:Cx) (scope:Scope) (nk:Nat) (N:List Str) (js:List Nat):Prop where
 kind:scope.kind=.function
 nocell:∀y∈scope.names,y.2≠.cell
 loc:∀y∈scope.names,y.2=.local->scope.names.lookup y.1=some .local
 own:∀(i:Nat) (x:Str),N[i]?=some x->i<nk->scope.names.lookup x=some .local
 free:∀y∈scope.names,y.2=.free->X.env.kindOf y.1=some .cell
 nd:N.Nodup
 len:N.length=js.length+nk
 apart:∀y,scope.names.lookup y=some .local->(y,NameKind.free)∉scope.names
 cap:∀(k j:Nat) (y:Str),N[k+nk]?=some y->js[k]?=some j->X.N[j]?=some y/\Vis X.env.scope y/\X.env.kindOf y=some .cell/\(y,NameKind.free)∈scope.names
end
end L2
namespace L2
open PySem PySem.Spec PyProof.Rows
section
section
variable {X:Cx}
end
theorem zoL {K:W.Frag} {H:Hp} {n:Nat}:∀ {bs cs:List (Addr × List V)},bs.map (·.2)=cs.map (·.2)->(∀b,b∈bs->H b.1=some (.tup b.2)/\b.2.all zbO=true)->(∀c,c∈cs->H c.1=some (.tup c.2))->
  ∀(j:Nat) u v,(bs.map fun b=>V.ref b.1)[j]?=some u->(cs.map fun b=>V.ref b.1)[j]?=some v->Deq K H (n+1) u v:=by
 intro bs cs e hb hc j u v hu hv
 rw [getElem?_map] at hu hv
 cases e1:bs[j]? with
 | none=>rw [e1] at hu;cases hu
 | some b=>
   cases e2:cs[j]? with
   | none=>rw [e2] at hv;cases hv
   | some c=>
     rw [e1] at hu
     rw [e2] at hv
     cases hu
     cases hv
     have ee:b.2=c.2:=by
      have:=congrArg (fun l:List (List V)=>l[j]?) e
      simp [e1,e2] at this
      exact this
     obtain ⟨g1,fl⟩:=hb b (mem_of_getElem? e1)
     have g2:=hc c (mem_of_getElem? e2)
     refine Deq.tup (SqT.of g1) (SqT.of g2) (by rw [ee]) fun i x y hx hy=>?_
     rw [<-ee,hx] at hy
     cases hy
     exact Deq.flat n (all_eq_true.mp fl _ (mem_of_getElem? hx))
end
end L2
namespace L2
open PySem PySem.Spec PyProof.Rows
section
section
variable {pg:Program} {wd:World} {Ar:Around} {Rs:Result->Shared->Prop} {It:Addr} {fp wr:List Addr} {n:Nat} {Pv:Nat->Value->Prop} {Sv:Nat->Heap->Prop}
end
section
variable {X:Cx}
end
end
end L2
namespace L2
open PySem PySem.Spec PyProof.Rows
section
structure IsPrs (H:Hp) (l:Addr) (rs:List (Addr × Row)):Prop where
 at_:H l=some (.lst (rs.map fun r=>V.ref r.1))
 rw:∀r,r∈rs->H r.1=some (.tup [.int r.2.2.1,.int r.2.2.2])
end
end L2
namespace L2
open PySem PySem.Spec PyProof.Rows
section
theorem zel {X:Cx} (hu:X.A.units<cLine):OpR X (compareOp .NotEq) (fun x y H Q=>∃a b xs ys,x=.ref a/\y=.ref b/\SqT X.K H a xs/\SqT X.K H b ys/\xs.all zbO=true/\ys.all zbO=true/\Q (.bl (!eqVs xs ys)) H):=by
 intro ai s σ H x y v u Q I rx ry h
 obtain ⟨a,b,xs,ys,rfl,rfl,hx,hy,fx,fy,q⟩:=h
 cases rx
 cases ry
 obtain ⟨its,r,pl,hz⟩:=I.tuple hx
 obtain ⟨its2,r2,pl2,hz2⟩:=I.tuple hy
 refine SeqAt.RcNeAt.tuples (s:=s) (e:=eqJ xs ys) pl pl2 hu (fun j h1 h2=>zmx r r2 fx fy j h1 h2) X.prog X.w X.xe _ ⟨.bl _,H,I,rfl,?_⟩
 have e1:its.toArray.size=xs.length:=by simp [r.length]
 have e2:its2.toArray.size=ys.length:=by simp [r2.length]
 rw [e1,e2,zeg]
 exact q
structure IsCh (K:W.Frag) (H:Hp) (p:Addr) (x:Cl × Int):Prop where
 ex:∃pc,H p=some (.tup [.ref pc,.int x.2])/\IsCl K H pc x.1
theorem IsCh.same {K:W.Frag} {H H':Hp} {p:Addr} {x:Cl × Int} (s:Same H H') (h:IsCh K H p x):IsCh K H' p x:=let ⟨pc,a,b⟩:=h.ex;⟨pc,s _ _ a,b.same s⟩
theorem IsCh.but {K:W.Frag} {H H':Hp} {p q:Addr} {x:Cl × Int} {xs:List V} (s:But q H H') (hq:H q=some (.lst xs)) (h:IsCh K H p x):IsCh K H' p x:=by
 obtain ⟨pc,a,b⟩:=h.ex
 exact ⟨pc,s _ _ (fun z=>by rw [z,hq] at a;cases a) a,b.but s hq⟩
structure IsChs (K:W.Frag) (H:Hp) (l:Addr) (xs:List (Addr × Cl × Int)):Prop where
 at_:H l=some (.lst (xs.map fun q=>V.ref q.1))
 ch:∀q,q∈xs->IsCh K H q.1 q.2
theorem IsChs.same {K:W.Frag} {H H':Hp} {l:Addr} {xs:List (Addr × Cl × Int)} (s:Same H H') (h:IsChs K H l xs):IsChs K H' l xs:=⟨s _ _ h.at_,fun q hq=>(h.ch q hq).same s⟩
theorem IsChs.but {K:W.Frag} {H H':Hp} {l a:Addr} {xs:List (Addr × Cl × Int)} {ys:List V} (s:But a H H') (ha:H a=some (.lst ys)) (ne:l≠a) (h:IsChs K H l xs):IsChs K H' l xs:=⟨s _ _ ne h.at_,fun q hq=>(h.ch q hq).but s ha⟩
def kcOf (H:Hp) (p:Addr):Addr:=match H p with
 | some (.tup (.ref pc::_))=>pc
 | _=>p
theorem IsCh.kc {K:W.Frag} {H:Hp} {p:Addr} {x:Cl × Int} (h:IsCh K H p x):H p=some (.tup [.ref (kcOf H p),.int x.2])/\IsCl K H (kcOf H p) x.1:=by
 obtain ⟨pc,a,b⟩:=h.ex
 have e:kcOf H p=pc:=by
  unfold kcOf
  rw [a]
 rw [e]
 exact ⟨a,b⟩
structure ChOk (B:Int) (x:Cl × Int):Prop where
 ok:x.1.Ok
 l0:0<=x.2
 l1:x.2<=12
 cm:x.1.came<=B
end
end L2
namespace L2
open PySem PySem.Spec PyProof.Rows
section
theorem zeM {α:Type} (p : α->Bool):∀(L:List α) (h:Nat),(∀(j:Nat) a,L[j]?=some a->(p a=true↔j<h))->L.filter p=L.take h
 | [],h,_=>by simp
 | a::L,0,hp=>by
   have h0:=hp 0 a rfl
   rw [filter_cons,if_neg (fun z=>by have:=h0.mp z;omega),zeM p L 0 fun j b e=>?_]
   ·simp
   ·have:=hp (j+1) b e
    constructor
    ·intro z
     have:=this.mp z
     omega
    ·intro z
     omega
 | a::L,h+1,hp=>by
   have h0:=hp 0 a rfl
   rw [filter_cons,if_pos (h0.mpr (by omega)),List.take_succ_cons,zeM p L h fun j b e=>?_]
   have:=hp (j+1) b e
   constructor
   ·intro z
    have:=this.mp z
    omega
   ·intro z
    exact this.mpr (by omega)
def rnk (cs:List Cl) (t:Int) (c:Cl):Nat:=(cs.filter fun o=>decide (o.n≠c.n)&&ahd o c t).length
theorem zoM {cs:List Cl} (g:Good cs) (t:Int):Good (ord cs t):=⟨fun c hc=>g.ok c ((zbZ cs t).mem_iff.mp hc),((zbZ cs t).map _).nodup_iff.mpr g.nd⟩
theorem zkN {cs:List Cl} (g:Good cs) {t:Int} {j:Nat} {c:Cl} (h:(ord cs t)[j]?=some c):rnk cs t c=j:=by
 have jl:j<(ord cs t).length:=(List.getElem?_eq_some_iff.mp h).1
 have e:=zeM (fun o=>decide (o.n≠c.n)&&ahd o c t) (ord cs t) j fun i a hi=>by
  rw [Bool.and_eq_true,decide_eq_true_iff]
  constructor
  ·rintro ⟨n1,a1⟩
   rcases Nat.lt_trichotomy i j with z | z | z
   ·exact z
   ·subst z
    rw [h] at hi
    cases hi
    exact (n1 rfl).elim
   ·exact (zgr a1 (zpz (zjM g t) hi h z)).elim
  ·intro z
   exact ⟨zrV (zoM g t) hi h (by omega),zpz (zjM g t) h hi z⟩
 unfold rnk
 rw [<-((zbZ cs t).filter _).length_eq,e,length_take]
 omega
theorem zoN {cs:List Cl} (g:Good cs) (t:Int) {c:Cl} (hc:c∈cs):(ord cs t)[rnk cs t c]?=some c:=by
 obtain ⟨j,hj,ej⟩:=getElem_of_mem ((zbZ cs t).mem_iff.mpr hc)
 have e:(ord cs t)[j]?=some c:=by rw [getElem?_eq_getElem hj,ej]
 rw [zkN g e]
 exact e
structure RkD (cs:List Cl) (t:Int) (h i:Nat) (kvs:List (Key × V)):Prop where
 len:kvs.length=((cs.take i).filter fun c=>decide (rnk cs t c<h)).length
 val:∀(k:Nat) c,k<i->cs[k]?=some c->rnk cs t c<h->valV kvs (.inl (rnk cs t c:Int))=some (.int c.n)
 key:∀j:Key,valV kvs j≠none->∃(k:Nat) (c:Cl),k<i/\cs[k]?=some c/\j=.inl (rnk cs t c:Int)
def za3 (ws:List Int) (x:Cl × Int):Int:=if x.1.n∈ws then x.2-1 else x.2
def behL (H:Hp) (ws:List Int) (xs:List (Addr × Cl × Int)):List (Addr × Cl × Int):=(xs.map fun k=>(kcOf H k.1,k.2.1,za3 ws k.2)).filter fun k=>decide (0<k.2.2)
structure IsBh (H:Hp) (l:Addr) (ys:List (Addr × Cl × Int)) (bs:List (Addr × List V)):Prop where
 at_:H l=some (.lst (bs.map fun b=>V.ref b.1))
 rw:∀b,b∈bs->H b.1=some (.tup b.2)
 eq:bs.map (·.2)=ys.map fun k=>[V.ref k.1,V.int k.2.2]
theorem IsBh.same {H H':Hp} {l:Addr} {ys:List (Addr × Cl × Int)} {bs:List (Addr × List V)} (s:Same H H') (h:IsBh H l ys bs):IsBh H' l ys bs:=⟨s _ _ h.at_,fun b hb=>s _ _ (h.rw b hb),h.eq⟩
theorem IsBh.len {H:Hp} {l:Addr} {ys:List (Addr × Cl × Int)} {bs:List (Addr × List V)} (h:IsBh H l ys bs):bs.length=ys.length:=by
 have:=congrArg List.length h.eq
 rw [length_map,length_map] at this
 exact this
def zipB (bs:List (Addr × List V)) (ys:List (Addr × Cl × Int)):List (Addr × Cl × Int):=List.zipWith (fun b k=>(b.1,k.2)) bs ys
theorem IsBh.chs {K:W.Frag} {H:Hp} {l:Addr} {ys:List (Addr × Cl × Int)} {bs:List (Addr × List V)} (h:IsBh H l ys bs) (hc:∀k,k∈ys->IsCl K H k.1 k.2.1):
  IsChs K H l (zipB bs ys)/\(zipB bs ys).map (·.2)=ys.map (·.2):=by
 have hl:=h.len
 have e2:(zipB bs ys).map (·.2)=ys.map (·.2):=by
  unfold zipB
  rw [map_zipWith]
  refine List.ext_getElem (by simp [hl]) fun i h1 h2=>?_
  simp
 have e1:((zipB bs ys).map fun q=>V.ref q.1)=bs.map fun b=>V.ref b.1:=by
  unfold zipB
  rw [map_zipWith]
  refine List.ext_getElem (by simp [hl]) fun i h1 h2=>?_
  simp
 refine ⟨⟨by rw [e1];exact h.at_,fun q hq=>?_⟩,e2⟩
 obtain ⟨i,hi,ei⟩:=getElem_of_mem hq
 have hi2:i<bs.length/\i<ys.length:=by
  unfold zipB at hi
  rw [List.length_zipWith] at hi
  omega
 have eq:q=(bs[i].1,ys[i].2):=by
  have e3:(zipB bs ys)[i]?=some (bs[i].1,ys[i].2):=by
   unfold zipB
   rw [List.getElem?_zipWith,getElem?_eq_getElem hi2.1,getElem?_eq_getElem hi2.2]
  rw [getElem?_eq_getElem hi,ei] at e3
  exact Option.some.inj e3
 have eb:bs[i].2=[V.ref ys[i].1,V.int ys[i].2.2]:=by
  have:=congrArg (fun l:List (List V)=>l[i]?) h.eq
  simp [hi2.1,hi2.2] at this
  exact this
 have hb:=h.rw _ (getElem_mem hi2.1)
 rw [eb] at hb
 subst eq
 exact ⟨ys[i].1,hb,hc _ (getElem_mem hi2.2)⟩
end
section
theorem zsb {X:Cx} {K:W.Frag} (hK:X.K=K):OpR X (compareOp .In) (rIn K false):=hK▸zmu
theorem Room.units1 {k:Nat} {A:Around} (r:Room k A):A.units+1<cLine:=by have:=r.un;omega
theorem zqB {K:W.Frag} {H H':Hp} {p:Addr} {x:Cl × Int} (h:IsCh K H p x) (s:Same H H'):kcOf H' p=kcOf H p:=by
 obtain ⟨pc,a,_⟩:=h.ex
 unfold kcOf
 rw [a,s _ _ a]
theorem zm7 {K:W.Frag} {H H':Hp} {l:Addr} {xs:List (Addr × Cl × Int)} (h:IsChs K H l xs) (s:Same H H') (ws:List Int):behL H' ws xs=behL H ws xs:=by
 unfold behL
 congr 1
 exact map_congr_left fun k hk=>by rw [zqB (h.ch k hk) s]
def zgw (t:Int) (k:Addr × Cl × Int):Bool:=decide (0<k.2.2)&&decide (k.2.1.came<=t)
def zdC (H:Hp) (t:Int) (xs:List (Addr × Cl × Int)):List (Addr × Cl):=(xs.filter (zgw t)).map fun k=>(kcOf H k.1,k.2.1)
def csOf (t:Int) (xs:List (Addr × Cl × Int)):List Cl:=(xs.filter (zgw t)).map (·.2.1)
theorem ziT (H:Hp) (t:Int) (xs:List (Addr × Cl × Int)):(zdC H t xs).map (·.2)=csOf t xs:=by
 unfold zdC csOf
 rw [map_map]
 rfl
def zeN (t:Int) (h:Nat) (xs:List (Addr × Cl × Int)):List Int:=((ord (csOf t xs) t).map (·.n)).take h
theorem zm8 {t:Int} {xs:List (Addr × Cl × Int)} (ok:∀q,q∈xs->q.2.1.Ok) (nd:(xs.map (·.2.1.n)).Nodup):Good (csOf t xs):=by
 refine ⟨fun c hc=>?_,?_⟩
 ·obtain ⟨k,hk,rfl⟩:=mem_map.mp hc
  exact ok k (mem_filter.mp hk).1
 ·unfold csOf
  rw [map_map]
  exact nd.sublist (List.Sublist.map _ filter_sublist)
theorem zlA (H:Hp) (t:Int) (xs:List (Addr × Cl × Int)):(zdC H t xs).length<=xs.length:=by
 unfold zdC
 rw [length_map]
 exact length_filter_le _ _
theorem zm9 {K:W.Frag} {H:Hp} {l:Addr} {xs:List (Addr × Cl × Int)} (h:IsChs K H l xs) (t:Int) {q:Addr × Cl} (hq:q∈zdC H t xs):IsCl K H q.1 q.2:=by
 obtain ⟨k,hk,rfl⟩:=mem_map.mp hq
 exact (h.ch k (mem_filter.mp hk).1).kc.2
theorem zjP (H:Hp) (t:Int) (xs:List (Addr × Cl × Int)):(zdC H t xs).map (fun q=>V.ref q.1)=(xs.filter (zgw t)).map fun k=>V.ref (kcOf H k.1):=by
 unfold zdC
 rw [map_map]
 rfl
theorem zkO {H:Hp} {ws:List Int} {xs:List (Addr × Cl × Int)} {k:Addr × Cl × Int} (h:k∈behL H ws xs):∃q,q∈xs/\k=(kcOf H q.1,q.2.1,za3 ws q.2)/\0<za3 ws q.2:=by
 obtain ⟨h1,h2⟩:=mem_filter.mp h
 obtain ⟨q,hq,rfl⟩:=mem_map.mp h1
 exact ⟨q,hq,rfl,of_decide_eq_true h2⟩
theorem zqC {H:Hp} {ws:List Int} {xs:List (Addr × Cl × Int)} (nd:(xs.map (·.2.1.n)).Nodup):((behL H ws xs).map (·.2.1.n)).Nodup:=by
 have e:((xs.map fun k=>(kcOf H k.1,k.2.1,za3 ws k.2)).map (·.2.1.n))=xs.map (·.2.1.n):=by
  rw [map_map]
  rfl
 rw [<-e] at nd
 exact nd.sublist (List.Sublist.map _ filter_sublist)
theorem zoO (H:Hp) (ws:List Int) (xs:List (Addr × Cl × Int)):(behL H ws xs).length<=xs.length:=by
 have:=length_filter_le (fun k:Addr × Cl × Int=>decide (0<k.2.2)) (xs.map fun k=>(kcOf H k.1,k.2.1,za3 ws k.2))
 rw [length_map] at this
 exact this
end
section
def plV:List V->Bool
 | [_,.int i]=>decide (0<i)
 | _=>false
theorem zte {H:Hp} {ws:List Int} {xs:List (Addr × Cl × Int)} {bs:List (Addr × List V)} (eb:bs.map (·.2)=xs.map fun k=>[V.ref (kcOf H k.1),V.int (za3 ws k.2)]):
  (bs.filter fun b=>plV b.2).map (·.2)=(behL H ws xs).map fun k=>[V.ref k.1,V.int k.2.2]:=by
 have e:(bs.filter fun b=>plV b.2).map (·.2)=(bs.map (·.2)).filter plV:=by
  rw [filter_map]
  rfl
 rw [e,eb,filter_map]
 unfold behL
 rw [filter_map,map_map]
 rfl
theorem zfW {α:Type} (xs:List α):(xs.filter fun _=>true)=xs:=filter_eq_self.mpr fun _ _=>rfl
end
section
def ztf (K:W.Frag):R2:=fun x y H Q=>∃l b xs zs,x=.ref l/\y=.ref b/\SqL K H l xs/\SqL K H b zs/\xs.length+zs.length<=sizeLine/\∀p H2,Same H H2->H p=none->H2 p=some (.lst (xs++zs))->Q (.ref p) H2
theorem zdH {X:Cx}:OpR X (binaryOp .Add) (ztf X.K):=by
 intro ai s σ H x y v u Q I rx ry h
 obtain ⟨l,b,xs,zs,rfl,rfl,hx,hy,hz,q⟩:=h
 cases rx
 cases ry
 obtain ⟨its,r,p1,z1⟩:=I.list hx
 obtain ⟨jts,r2,p2,z2⟩:=I.list hy
 obtain ⟨⟨c1,d1,t1,f1⟩,g1,e1,n1,k1⟩:=p1.isList
 obtain ⟨⟨c2,d2,t2,f2⟩,g2,e2,n2,k2⟩:=p2.isList
 simp only at e1 k1 e2 k2
 subst e1 k1 e2 k2
 have ea:its.toArray++jts.toArray=(its++jts).toArray:=by simp
 have l1:=r.length
 have l2:=r2.length
 refine concat_meets ⟨_,g1,rfl⟩ ⟨_,g2,rfl⟩ noFill_list_add seq_list_add F.slot_list_add F.entry_list_add (F.args_list_add_2 _ _) (list_addW l b its.toArray jts.toArray n1 n2 d1 d2 f1 f2 (by rw [size_toArray,size_toArray];omega)) ⟨g1,g2,?_⟩
 rw [ea]
 exact ⟨.ref _,_,I.lnew (t':=s.toks) (r.append r2) (by rw [length_append];omega),rfl,q _ _ (zbn I.fresh _) I.fresh zam⟩
end
end L2
namespace L2
open PySem PySem.Spec PyProof.Rows
section
structure FunD (K:W.Frag) (x qual:Str) (st:Stmt) (f:Addr) (fd:FuncData):Prop where
 ex:∃(oc:Value) (od:Option Addr) (T:Addr) (kV doc pm:Value) (an:Option Addr) (cdv ct:Value) (osl:Array (Option Value)) (o:Obj) (n:Nat),
  fd=W.fnOf x qual (zaq st) (zan st) (zac st) (.ref T) kV doc pm an cdv ct/\K.lookup f=some ⟨oc,od,.func fd,osl⟩/\W.codeIn K cdv qual=true/\K.lookup T=some o/\o.data=.seq #[.none] n
 kp:W.keepIn K (.ref f)=true
theorem zqD {K:W.Frag} {x qual:Str} {st:Stmt} {f T:Addr} {oc:Value} {od an:Option Addr} {osl:Array (Option Value)} {kV doc pm cdv ct:Value} {o:Obj} {n:Nat}
 (l:K.lookup f=some ⟨oc,od,.func (W.fnOf x qual (zaq st) (zan st) (zac st) (.ref T) kV doc pm an cdv ct),osl⟩) (c:W.codeIn K cdv qual=true) (k:W.keepIn K (.ref f)=true)
 (t:K.lookup T=some o) (d:o.data=.seq #[.none] n):FunD K x qual st f (W.fnOf x qual (zaq st) (zan st) (zac st) (.ref T) kV doc pm an cdv ct):=⟨⟨oc,od,T,kV,doc,pm,an,cdv,ct,osl,o,n,rfl,l,c,t,d⟩,k⟩
theorem FunD.ok {P:Program} {w:World} {K:W.Frag} {mg:Str->Option Value} {bf:Heap} {x qual:Str} {st:Stmt} {f:Addr} {fd:FuncData} {N ps:List Str} {k:Nat} {sp:Sp} (F:FunD K x qual st f fd) (S:FnScope N ps (zac st)) (len:∀vs H Q E,sp vs H Q E->vs.length=ps.length)
  (hbody:∀(cdv:Value) (A:Around) (outer:List Env) (s:Shared) (H:Hp) (vs:List V) (Q:VK) (E:XK),Room k (A.deeper (envOfC qual (zac st) s.heap.objs.size f cdv))->sp vs H Q E->
    ∃t,PSs (cxOf CX0 P w K mg bf N qual (zac st) f cdv A outer s H E).nox (zan st) t/\t { nx:=fun _ H'=>Q .non H',rt:=Q } (zfz N vs) H):FnOk P w K mg bf CX0 (k+1) f fd ps sp:=by
 obtain ⟨oc,od,T,kV,doc,pm,an,cdv,ct,osl,o,n,rfl,lk,hcd,_,_⟩:=F.ex
 refine zmk lk hcd S len fun A outer s H vs Q E hr hsp=>?_
 obtain ⟨t,h,q⟩:=hbody cdv A outer s H vs Q E hr hsp
 exact ⟨t,h.nox,q⟩
theorem FunD.binds {K:W.Frag} {x qual:Str} {st:Stmt} {f:Addr} {fd:FuncData} {ps:List Str} (F:FunD K x qual st f fd)
  (h:∀(dV kV doc pm:Value) (an:Option Addr) (cdv ct:Value) (us:List Value),us.length=ps.length->∃k:Option (Array Value)->Sem (List (Str × Value)),bindArgs (W.fnOf x qual (zaq st) (zan st) (zac st) dV kV doc pm an cdv ct) ⟨us,[]⟩=(seqItems? dV >>= k)/\k (some #[.none])=pure (ps.zip us)):za2 K fd ps []:=by
 obtain ⟨oc,od,T,kV,doc,pm,an,cdv,ct,osl,o,n,rfl,lk,hcd,t,d⟩:=F.ex
 intro s us KX hl
 obtain ⟨k,k1,k2⟩:=h (.ref T) kV doc pm an cdv ct us (by simpa using hl)
 exact BindsTo.of_defaults (T:=T) (o:=o) (items := #[.none]) (n:=n) (k:=k) rfl (KX T o t) d k1 (by rw [k2,append_nil])
theorem FunD.bindsD {K:W.Frag} {x qual:Str} {st:Stmt} {f:Addr} {fd:FuncData} {ps:List Str} (F:FunD K x qual st f fd)
  (h:∀(dV kV doc pm:Value) (an:Option Addr) (cdv ct:Value) (us:List Value),(us++[Value.none]).length=ps.length->∃k:Option (Array Value)->Sem (List (Str × Value)),bindArgs (W.fnOf x qual (zaq st) (zan st) (zac st) dV kV doc pm an cdv ct) ⟨us,[]⟩=(seqItems? dV >>= k)/\k (some #[.none])=pure (ps.zip (us++[.none]))):za2 K fd ps [.none]:=by
 obtain ⟨oc,od,T,kV,doc,pm,an,cdv,ct,osl,o,n,rfl,lk,hcd,t,d⟩:=F.ex
 intro s us KX hl
 obtain ⟨k,k1,k2⟩:=h (.ref T) kV doc pm an cdv ct us hl
 exact BindsTo.of_defaults (T:=T) (o:=o) (items := #[.none]) (n:=n) (k:=k) rfl (KX T o t) d k1 k2
structure DfnD (K:W.Frag) (mg:Str->Option Value) (x:Str) (st:Stmt) (ps:List Str) (f:Addr) (fd:FuncData):Prop where
 F:FunD K x x st f fd
 b:za2 K fd ps []
 bd:za2 K fd ps [.none]
 m:mg x=some (.ref f)
structure CalD (P:Program) (w:World) (K:W.Frag) (mg:Str->Option Value) (bf:Heap) (x:Str) (k:Nat) (ps:List Str) (sp:Sp):Prop where
 ex:∃f fd,FnOk P w K mg bf CX0 k f fd ps sp/\za2 K fd ps []/\za2 K fd ps [.none]/\mg x=some (.ref f)/\W.keepIn K (.ref f)=true
theorem DfnD.cal {P:Program} {w:World} {K:W.Frag} {mg:Str->Option Value} {bf:Heap} {x:Str} {st:Stmt} {ps:List Str} {f:Addr} {fd:FuncData} {k:Nat} {sp:Sp}
 (D:DfnD K mg x st ps f fd) (G:FnOk P w K mg bf CX0 k f fd ps sp):CalD P w K mg bf x k ps sp:=⟨⟨f,fd,G,D.b,D.bd,D.m,D.F.kp⟩⟩
section
variable {X:Cx} {k:Nat} {ps:List Str} {sp:Sp} {x:Str} {p pos:Pos} {e:Expr} {es:List Expr} {t:TA}
theorem zna (C:CalD X.prog X.w X.K X.mg X.bf x k ps sp) (hr:Room k X.A) (hg:Gl X x) (ha:PA X (e::es) t) (hdb:(x==("__debug__" : Str))=false:=by decide)
  (he:starEach (e::es) X.env=(false,eval e X.env)::starEach es X.env:=by rfl) (hpl:(backTo pos (starEach es X.env)).any (·.1)=false:=by rfl):
  PE X (.Call (.Name x p) (e::es) [] pos) (zmh sp [.non] E0 t):=by
 obtain ⟨f,fd,G,_,b,m,kp⟩:=C.ex
 exact zmi G hr hg m kp b (.cons rfl .nil) zaT ha hdb he hpl
end
end
end L2
namespace L2
open PySem PySem.Spec PyProof.Rows
section
abbrev Ch:=List (Cl × Int)
def csC (t:Int) (c:Ch):List Cl:=(c.filter fun k=>decide (0<k.2)&&decide (k.1.came<=t)).map (·.1)
def wkC (t:Int) (h:Nat) (c:Ch):List Int:=((ord (csC t c) t).map (·.n)).take h
def bhC (ws:List Int) (c:Ch):Ch:=(c.map fun k=>(k.1,za3 ws k)).filter fun k=>decide (0<k.2)
theorem zsc (t:Int) (xs:List (Addr × Cl × Int)):csOf t xs=csC t (xs.map (·.2)):=by
 unfold csOf csC
 rw [filter_map,map_map]
 rfl
theorem zqE (t:Int) (h:Nat) (xs:List (Addr × Cl × Int)):zeN t h xs=wkC t h (xs.map (·.2)):=by
 unfold zeN wkC
 rw [zsc]
theorem zsd (H:Hp) (ws:List Int) (xs:List (Addr × Cl × Int)):(behL H ws xs).map (·.2)=bhC ws (xs.map (·.2)):=by
 unfold behL bhC
 rw [filter_map,filter_map,map_map,filter_map,map_map]
 rfl
def runN (h:Nat):Nat->Int->Ch->List (Int × List Int) × Ch
 | 0,_,c=>([],c)
 | n+1,t,c=>let r:=runN h n t c;(r.1++[(t+n,wkC (t+n) h r.2)],bhC (wkC (t+n) h r.2) r.2)
def sumC (c:Ch):Nat:=(c.map fun k=>k.2.toNat).sum
theorem zeO {ws:List Int} {c:Ch} {k:Cl × Int} (h:k∈bhC ws c):0<k.2:=of_decide_eq_true (mem_filter.mp h).2
theorem znb (ws:List Int):∀c:Ch,sumC (bhC ws c)<=sumC c
 | []=>Nat.le_refl _
 | k::c=>by
   have ih:=znb ws c
   have e:bhC ws (k::c)=(if decide (0<za3 ws k)=true then [(k.1,za3 ws k)] else [])++bhC ws c:=by
    unfold bhC
    rw [map_cons,filter_cons]
    split<;>rfl
   rw [e]
   have le:za3 ws k<=k.2:=by
    unfold za3
    split<;>omega
   unfold sumC at *
   split
   ·simp
    omega
   ·simp
    omega
theorem zpA {ws:List Int}:∀ {c:Ch} {k:Cl × Int},k∈c->0<k.2->k.1.n∈ws->sumC (bhC ws c)<sumC c
 | [],_,hk,_,_=>absurd hk not_mem_nil
 | j::c,k,hk,pos,hw=>by
   have ih:=znb ws c
   have e:bhC ws (j::c)=(if decide (0<za3 ws j)=true then [(j.1,za3 ws j)] else [])++bhC ws c:=by
    unfold bhC
    rw [map_cons,filter_cons]
    split<;>rfl
   rw [e]
   have le:za3 ws j<=j.2:=by
    unfold za3
    split<;>omega
   rcases mem_cons.mp hk with rfl | hk
   ·have lt:za3 ws k=k.2-1:=by
     unfold za3
     rw [if_pos hw]
    unfold sumC at *
    split
    ·simp
     omega
    ·simp
     omega
   ·have ih2:=zpA hk pos hw
    unfold sumC at *
    split
    ·simp
     omega
    ·simp
     omega
theorem zkP {t:Int} {h:Nat} {c:Ch} (h0:0<h) (hc:c≠[]) (pos:∀k,k∈c->0<k.2) (cm:∀k,k∈c->k.1.came<=1000):sumC (bhC (wkC t h c) c)+(1001-(t+1)).toNat<sumC c+(1001-t).toNat:=by
 by_cases e:csC t c=[]
 ·
  have late:t<1000:=by
   cases c with
   | nil=>exact (hc rfl).elim
   | cons k c=>
     have:k∉(k::c).filter fun k=>decide (0<k.2)&&decide (k.1.came<=t):=fun z=>by
      have:k.1∈csC t (k::c):=mem_map.mpr ⟨k,z,rfl⟩
      rw [e] at this
      cases this
     have p:=pos k mem_cons_self
     have q:=cm k mem_cons_self
     refine Int.not_le.mp fun z=>this (mem_filter.mpr ⟨mem_cons_self,?_⟩)
     rw [decide_eq_true p,decide_eq_true (show k.1.came<=t by omega)]
     rfl
  have:=znb (wkC t h c) c
  omega
 ·have lo:(ord (csC t c) t).length=(csC t c).length:=(zbZ _ _).length_eq
  have lp:0<(csC t c).length:=List.length_pos_iff.mpr e
  obtain ⟨x,xs,eo⟩:=List.exists_cons_of_ne_nil (show ord (csC t c) t≠[] from fun z=>by rw [z] at lo;simp at lo;omega)
  have hm:x.n∈wkC t h c:=by
   unfold wkC
   rw [eo]
   cases h with
   | zero=>omega
   | succ h=>simp
  have mem:x∈csC t c:=(zbZ (csC t c) t).mem_iff.mp (by rw [eo];exact mem_cons_self)
  obtain ⟨k,hk,ek⟩:=mem_map.mp mem
  rw [<-ek] at hm
  have hk:=(mem_filter.mp hk).1
  have:=zpA (ws:=wkC t h c) hk (pos k hk) hm
  omega
end
section
theorem zjQ (c:Ch):bhC [] c=c.filter fun k=>decide (0<k.2):=by
 unfold bhC
 have e:(c.map fun k=>(k.1,za3 [] k))=c:=by
  have:∀k:Cl × Int,(k.1,za3 [] k)=k:=fun k=>by
   unfold za3
   rw [if_neg (by simp)]
  rw [show (fun k:Cl × Int=>(k.1,za3 [] k))=id from funext this,List.map_id]
 rw [e]
theorem zaR (h n:Nat) (t:Int) (c:Ch):runN h (n+1) t c=((runN h n t c).1++[(t+n,wkC (t+n) h (runN h n t c).2)],bhC (wkC (t+n) h (runN h n t c).2) (runN h n t c).2):=rfl
theorem znc (h:Nat) (t:Int) (c:Ch):∀n,(runN h n t c).1.length=n
 | 0=>rfl
 | n+1=>by
   rw [zaR,length_append,znc h t c n]
   rfl
structure IsRun (H:Hp) (l:Addr) (rs:List (Addr × Addr × Int × List Int)):Prop where
 at_:H l=some (.lst (rs.map fun r=>V.ref r.1))
 row:∀r,r∈rs->H r.1=some (.tup [.int r.2.2.1,.ref r.2.1])
 num:∀r,r∈rs->H r.2.1=some (.lst (r.2.2.2.map V.int))
theorem IsRun.same {H H':Hp} {l:Addr} {rs:List (Addr × Addr × Int × List Int)} (s:Same H H') (h:IsRun H l rs):IsRun H' l rs:=⟨s _ _ h.at_,fun r hr=>s _ _ (h.row r hr),fun r hr=>s _ _ (h.num r hr)⟩
theorem IsRun.app {H H':Hp} {l p m:Addr} {rs:List (Addr × Addr × Int × List Int)} {t:Int} {ws:List Int} (h:IsRun H l rs) (k:But l H H') (e:H' l=some (.lst ((rs.map fun r=>V.ref r.1)++[.ref p]))) (hp:H p=some (.tup [.int t,.ref m])) (hm:H m=some (.lst (ws.map V.int)))
  (ne:m≠l) (nl:∀r,r∈rs->r.2.1≠l):IsRun H' l (rs++[(p,m,t,ws)]):=by
 have np:∀q ys,H q=some (.tup ys)->q≠l:=fun q ys g z=>by
  rw [z,h.at_] at g
  cases g
 refine ⟨by rw [e,map_append];rfl,fun r hr=>?_,fun r hr=>?_⟩
 ·rcases mem_append.mp hr with hr | hr
  ·exact k _ _ (np _ _ (h.row r hr)) (h.row r hr)
  ·rw [mem_singleton.mp hr]
   exact k _ _ (np _ _ hp) hp
 ·rcases mem_append.mp hr with hr | hr
  ·exact k _ _ (nl r hr) (h.num r hr)
  ·rw [mem_singleton.mp hr]
   exact k _ _ ne hm
end
end L2
namespace L2
open PySem PySem.Spec PyProof.Rows
section
def Itd (a:Addr) (o:Obj) (kvs:List (Key × V)):It:=
 ⟨fun i H=>H a=some (.frz o (.dK kvs))/\i<kvs.length,fun i H x H'=>H'=H/\∃kv,kvs[i]?=some kv/\x=kV kv.1,fun i H=>H a=some (.frz o (.dK kvs))/\kvs.length<=i⟩
theorem zqF {P:Program} {w:World} {k:Key} {u:Value} (h:(zaP P w).is k u=true):RelV (kV k) u:=by
 rw [zhi] at h
 cases k with
 | inl i=>
   cases u<;>first
    | (exact absurd h Bool.false_ne_true)
    | (have h:(_==_)=true:=h;rw [beq_iff_eq] at h;subst h;exact ⟨_,rfl⟩)
 | inr x=>
   cases u<;>first
    | (exact absurd h Bool.false_ne_true)
    | (have h:(_==_)=true:=h;rw [beq_iff_eq] at h;subst h;exact ⟨_,rfl⟩)
theorem zpB {P:Program} {w:World} {H:Hp} {h:Heap} {a:Addr} {o:Obj} {kvs:List (Key × V)} {es:Array DictEntry} {ep:Nat} (ok:HOk P w H h) (e:H a=some (.frz o (.dK kvs))) (d:o.data=.dict es ep):
  ∃vs,KV kvs vs/\h.DictAt (zaP P w) a vs ep:=by
 obtain ⟨ho,_,_,vs,rel,ob,es',ep',h1,h2,h3,h4⟩:=(show h.get? a=some o/\zaU P w H h a (.dK kvs) from ok a _ e)
 rw [ho] at h1
 cases h1
 rw [d] at h3
 cases h3
 exact ⟨vs,rel,o,es,ho,h2,d,h4⟩
theorem zne {P:Program} {w:World} {K:W.Frag} {tg:Expr} (a it:Addr) (o:Obj) (kvs:List (Key × V)) {es:Array DictEntry} {ep:Nat} (d:o.data=.dict es ep):
  Turn P w K tg (Itd a o kvs) [it] it (fun i h=>h.IsKeyIter it a i kvs.length ep) where
 mem:=by simp
 obj:=fun i h st b hb=>by
  have e:b=it:=by simpa using hb
  subst e
  obtain ⟨o,e,c,d⟩:=st
  exact ⟨o,e,fun v z=>by rw [d] at z;cases z⟩
 keep:=fun i h h' st k=>st.at fun o e=>k it (by simp) o e
 item:=by
  intro X hP hw hK hc i ai s σ H E I hf st hg
  subst hP hw hK
  obtain ⟨hq,hi⟩:=hg
  obtain ⟨vs,rel,dd⟩:=zpB I.hok hq d
  obtain ⟨f0,f1,f2,f3,f4,f5⟩:=hf it (by simp)
  have lv:=rel.length
  obtain ⟨⟨k,x⟩,hx⟩:∃p,vs[i]?=some p:=⟨vs[i]'(by omega),getElem?_eq_getElem (by omega)⟩
  obtain ⟨⟨k',x'⟩,hx'⟩:∃p,kvs[i]?=some p:=⟨kvs[i]'hi,getElem?_eq_getElem hi⟩
  have ek:k'=k:=by
   have:=congrArg (·[i]?) rel.keys
   simp only [getElem?_map,hx,hx',Option.map_some] at this
   exact Option.some.inj this
  subst ek
  rw [lv] at st
  refine wpAny_pyNext_dict_item st dd hx fun key h' hkey st' sb=>?_
  have I1:Inv X ai σ H { s with heap:=h' }:=I.turned (t':=s.toks) (fun b o hb e=>(sb.2 b hb).trans e) f0 f1 f3 f4 f5
  obtain ⟨o',e,c,d'⟩:=id st'
  rw [<-lv] at st'
  exact ⟨key,rfl,zlh (s := { s with heap:=h' }) e c d' (by decide) ⟨kV k',H,I1,zqF hkey,⟨rfl,_,hx',rfl⟩,st',fun b hb=>(hf b hb).1⟩⟩
 done:=by
  intro X hP hw hK hc i ai s σ H E I hf st hg
  subst hP hw hK
  obtain ⟨hq,hi⟩:=hg
  obtain ⟨vs,rel,dd⟩:=zpB I.hok hq d
  obtain ⟨f0,f1,f2,f3,f4,f5⟩:=hf it (by simp)
  have lv:=rel.length
  rw [lv] at st
  exact wpAny_pyNext_dict_end (I.ok.hd hc) st dd (getElem?_eq_none (by omega)) fun h' eb=>⟨rfl,I.turned (t':=s.toks) (fun b o hb e=>eb b o hb e) f0 f1 f3 f4 f5⟩
 self:=fun _ _ _ _ _ st h=>wpAny_pyIter_keyiter st h
section
variable {X:Cx} {tg:Expr}
def ztg (tl:TE):TI:=fun σ H R=>tl σ H fun x H1=>∃a kvs,x=.ref a/\Rd H1 a (.dK kvs)/\∀o H2,But a H1 H2->H2 a=some (.frz o (.dK kvs))->R (Itd a o kvs) H2
theorem zqG {l:Expr} {tl:TE} (hl:PE X l tl):PI X tg l (ztg tl):=by
 with_unfolding_all
  intro ai s σ H R I h
  refine thn (hl ai s σ H _ I h) fun v s1 ⟨x,H1,I1,r1,q1⟩=>?_
  obtain ⟨a,kvs,e,hq,q⟩:=q1
  subst e
  cases r1
  obtain ⟨z,y,vs,rel,o,es,ep,ho,oc,od,r⟩:=zjD I1.hok hq
  have lv:=rel.length
  refine wpAny_pyIter_dict y (show s1.heap.DictAt (zaP X.prog X.w) a vs ep from ⟨o,es,ho,oc,od,r⟩) ?_
  have I2:∃H2,But a H1 H2/\H2 a=some (.frz o (.dK kvs))/\Inv X ai σ H2 s1:=by
   rcases hq with hq | ⟨o',hq⟩
   ·exact ⟨_,fun b u hb e=>by rw [zah hb];exact e,zam,I1.write (x:=a) (e:=a) (o:=.frz o (.dK kvs)) (h':=s1.heap) (t':=s1.toks) (by rw [hq];trivial) (.inl rfl) (fun _ _ _ q=>q) ⟨o,ho⟩ ⟨ho,z,y,vs,rel,o,es,ep,ho,oc,od,r⟩⟩
   ·obtain ⟨ho',_⟩:=(show s1.heap.get? a=some o'/\_ from I1.hok a _ hq)
    rw [ho] at ho'
    cases ho'
    exact ⟨H1,fun _ _ _ e=>e,hq,I1⟩
  obtain ⟨H2,k2,h2,I2⟩:=I2
  refine ⟨s1.heap.objs.size,[s1.heap.objs.size],_,_,H2,rfl,I2.kept (t':=s1.toks) fun b o e=>Heap.get?_push_of_some _ e,zne a _ o kvs od,?_,fun b hb=>?_,q o H2 k2 h2⟩
  ·show Heap.IsKeyIter _ _ _ _ _ _
   rw [lv]
   exact ⟨_,Heap.get?_push_size _ rfl,rfl,rfl⟩
  ·have e:b=s1.heap.objs.size:=by simpa using hb
   subst e
   exact I2.fpOk (Nat.le_refl _) (I2.hok.fresh (Nat.le_refl _))
end
theorem znf {a:Addr} {ob:Obj} {kvs:List (Key × V)} {js:List Nat} {tc:TT} {te:TE} {σ:St} {H1:Hp} {Q:VK} (p:Nat->Bool) (f:Nat->V) (hl:H1 a=some (.frz ob (.dK kvs)))
  (ht:∀i kv Hh (Q':Bool->Hp->Prop),kvs[i]?=some kv->Same H1 Hh->(∀Hh',Same Hh Hh'->Q' (p i) Hh')->tc (some (kV kv.1)::caps σ js) Hh Q')
  (he:∀i kv Hh (Q':VK),kvs[i]?=some kv->p i=true->Same H1 Hh->(∀Hh',Same Hh Hh'->Q' (f i) Hh')->te (some (kV kv.1)::caps σ js) Hh Q')
  (hz:kvs.length<sizeLine) (q:∀D H2,Same H1 H2->H1 D=none->H2 D=some (.lst (((List.range kvs.length).filter p).map f))->Q (.ref D) H2):
  zfs (Itd a ob kvs) js tc te σ H1 Q:=by
 intro D H2 s2 hD h2
 refine ⟨fun i m acc H3=>m=kvs.length-i/\i<=kvs.length/\acc=((List.range i).filter p).map f/\Same H1 H3/\H3 D=some (.lst acc),⟨_,rfl,Nat.zero_le _,by simp,s2,h2⟩,?_⟩
 rintro i m acc H3 ⟨rfl,hi,ea,s3,h3⟩
 have hl3:=s3 _ _ hl
 have hll:acc.length<=kvs.length:=by
  rw [ea,length_map]
  refine Nat.le_trans (length_filter_le _ _) ?_
  rw [length_range]
  exact hi
 refine ⟨h3,by omega,?_⟩
 by_cases hlt:i<kvs.length
 ·refine .inr ⟨⟨hl3,hlt⟩,fun y H4 z=>?_⟩
  obtain ⟨e,kv,ey2,rfl⟩:=z
  subst e
  refine ht i kv _ _ ey2 s3 fun H5 s5=>?_
  have h5:=s5 _ _ h3
  have s35:=s3.trans s5
  have tk:(List.range (i+1)).filter p=(List.range i).filter p++(if p i=true then [i] else []):=by
   rw [range_succ,filter_append]
   congr 1
   cases h:p i<;>simp [h]
  cases hp:p i with
  | true=>
    refine iteT (he i kv _ _ ey2 hp s35 fun H6 s6=>⟨s6 _ _ h5,fun H7 k7 h7=>⟨kvs.length-(i+1),by omega,rfl,hlt,?_,fun b o e=>?_,h7⟩⟩)
    ·rw [tk,hp,if_pos rfl,map_append,<-ea]
     rfl
    ·by_cases hb:b=D
     ·subst hb
      rw [hD] at e
      cases e
     ·exact k7 b o hb (s6 b o (s35 b o e))
  | false=>
    refine iteF ⟨kvs.length-(i+1),by omega,rfl,hlt,?_,s35,h5⟩
    rw [tk,hp,if_neg Bool.false_ne_true,append_nil]
    exact ea
 ·have e:i=kvs.length:=by omega
  subst e
  refine .inl ⟨⟨hl3,Nat.le_refl _⟩,?_⟩
  rw [ea] at h3
  exact q D _ s3 hD h3
section
variable {X:Cx}
def rInD:R2:=fun x y H Q=>∃(a:Addr) (o:Option V),y=.ref a/\DGet H a x o/\Q (.bl o.isSome) H
theorem zse (hu:X.A.units+1<cLine):OpR X (compareOp .In) rInD:=by
 intro ai s σ H x y v u Q I rx ry h
 obtain ⟨a,o,rfl,g,q⟩:=h
 cases ry
 exact d_in hu I g rx fun s' I'=>⟨.bl _,H,I',rfl,q⟩
end
end
end L2
namespace L2
open PySem PySem.Spec PyProof.Rows
section
def dI (L:List (Int × Int)):List (Key × V):=L.map fun p=>(.inl p.1,V.int p.2)
def valI (L:List (Int × Int)) (k:Int):Option Int:=(L.find? fun p=>decide (p.1=k)).map (·.2)
def putI (L:List (Int × Int)) (k v:Int):List (Int × Int):=if (L.any fun p=>decide (p.1=k))=true then L.map (fun p=>if p.1=k then (p.1,v) else p) else L++[(k,v)]
theorem zng (L:List (Int × Int)) (k:Int):valV (dI L) (.inl k)=(valI L k).map V.int:=by
 induction L with
 | nil=>rfl
 | cons p L ih=>
   unfold dI valI at *
   rw [map_cons]
   by_cases e:p.1=k
   ·rw [zbf (by rw [e]),List.find?_cons_of_pos (by simp [e])]
    rfl
   ·rw [zba (fun z=>e (Sum.inl.inj z)),List.find?_cons_of_neg (by simp [e])]
    exact ih
theorem zsf (L:List (Int × Int)) (k:Int):((dI L).any fun kv=>decide (kv.1=.inl k))=L.any fun p=>decide (p.1=k):=by
 induction L with
 | nil=>rfl
 | cons p L ih=>
   unfold dI at *
   rw [map_cons,any_cons,any_cons,ih]
   congr 1
   by_cases e:p.1=k
   ·simp [e]
   ·rw [decide_eq_false e]
    exact decide_eq_false fun z=>e (Sum.inl.inj z)
theorem zpC (L:List (Int × Int)) (k v:Int):putK (dI L) (.inl k) (.int v)=dI (putI L k v):=by
 unfold putK putI
 rw [zsf]
 by_cases c:(L.any fun p=>decide (p.1=k))=true
 ·rw [if_pos c,if_pos c]
  unfold dI
  rw [map_map,map_map]
  refine map_congr_left fun p _=>?_
  show (if (Sum.inl p.1:Key)=.inl k then _ else _)=_
  by_cases e:p.1=k
  ·rw [if_pos (by rw [e])]
   show _=(fun q:Int × Int=>((Sum.inl q.1:Key),V.int q.2)) (if p.1=k then (p.1,v) else p)
   rw [if_pos e]
  ·rw [if_neg (fun z=>e (Sum.inl.inj z))]
   show _=(fun q:Int × Int=>((Sum.inl q.1:Key),V.int q.2)) (if p.1=k then (p.1,v) else p)
   rw [if_neg e]
 ·rw [if_neg c,if_neg c]
  unfold dI
  rw [map_append]
  rfl
theorem zpD (L:List (Int × Int)):(dI L).length=L.length:=length_map _
theorem zoP (L:List (Int × Int)) (k v:Int):(putI L k v).length<=L.length+1:=by
 unfold putI
 split
 ·rw [length_map]
  omega
 ·rw [length_append]
  exact Nat.le_refl _
theorem zfX {L:List (Int × Int)} {p:Int × Int} (h:p∈L):∃v,valI L p.1=some v:=by
 unfold valI
 cases e:L.find? fun q=>decide (q.1=p.1) with
 | some q=>exact ⟨_,rfl⟩
 | none=>
   have:=List.find?_eq_none.mp e p h
   simp at this
def zc4 (t:Int):List Int->List (Int × Int)->List (Int × Int)
 | [],L=>L
 | n::ns,L=>zc4 t ns (putI L n t)
def zbo:List (Int × List Int)->List (Int × Int)->List (Int × Int)
 | [],L=>L
 | r::rs,L=>zbo rs (zc4 r.1 r.2 L)
theorem zhs (t n:Int):∀(ns:List Int) (L:List (Int × Int)),zc4 t (ns++[n]) L=putI (zc4 t ns L) n t
 | [],L=>rfl
 | m::ns,L=>zhs t n ns (putI L m t)
theorem zht (r:Int × List Int):∀(rs:List (Int × List Int)) (L:List (Int × Int)),zbo (rs++[r]) L=zc4 r.1 r.2 (zbo rs L)
 | [],L=>rfl
 | q::rs,L=>zht r rs (zc4 q.1 q.2 L)
theorem zgx (t:Int):∀(ns:List Int) (L:List (Int × Int)),(zc4 t ns L).length<=L.length+ns.length
 | [],L=>Nat.le_refl _
 | n::ns,L=>by
   have a:=zgx t ns (putI L n t)
   have b:=zoP L n t
   show (zc4 t ns (putI L n t)).length<=_
   rw [length_cons]
   omega
theorem ziU {B:Nat}:∀(rs:List (Int × List Int)) (L:List (Int × Int)),(∀r,r∈rs->r.2.length<=B)->(zbo rs L).length<=L.length+B*rs.length
 | [],L,_=>Nat.le_refl _
 | r::rs,L,h=>by
   have a:=ziU rs (zc4 r.1 r.2 L) fun q hq=>h q (mem_cons_of_mem _ hq)
   have b:=zgx r.1 r.2 L
   have c:=h r mem_cons_self
   show (zbo rs (zc4 r.1 r.2 L)).length<=_
   rw [length_cons,Nat.mul_succ]
   omega
def ziV (L T:List (Int × Int)) (k:Int):Bool:=match valI T k with
 | some v=>decide (v<(valI L k).getD 0)
 | none=>false
def zeP (L T:List (Int × Int)):List Int:=(L.map (·.1)).filter (ziV L T)
theorem znh (L T:List (Int × Int)):(L.filter fun p=>ziV L T p.1).map (fun p=>V.int p.1)=(zeP L T).map V.int:=by
 unfold zeP
 rw [filter_map,map_map]
 rfl
theorem zoQ {L T:List (Int × Int)} {k:Int} (h:k∈zeP L T):∃v u,valI T k=some v/\valI L k=some u/\v<u:=by
 obtain ⟨h1,h2⟩:=mem_filter.mp h
 obtain ⟨p,hp,rfl⟩:=mem_map.mp h1
 obtain ⟨u,hu⟩:=zfX hp
 unfold ziV at h2
 cases e:valI T p.1 with
 | none=>rw [e] at h2;cases h2
 | some v=>
   rw [e] at h2
   rw [hu] at h2
   exact ⟨v,u,rfl,hu,of_decide_eq_true h2⟩
theorem zhu {H:Hp} {a:Addr} {L:List (Int × Int)} (h:Rd H a (.dK (dI L))) (k:Int):DGet H a (.int k) ((valI L k).map V.int):=.inl ⟨_,.inl k,h,rfl,(zng L k).symm⟩
theorem Rd.same {H H':Hp} {a:Addr} {u:HO} (s:Same H H') (h:Rd H a u):Rd H' a u:=h.imp (s _ _) fun ⟨o,e⟩=>⟨o,s _ _ e⟩
end
end L2
namespace L2
open PySem PySem.Spec PyProof.Rows
section
section
variable {X:Cx} {ai:List (Addr × Obj)} {σ:St} {H:Hp} {s:Shared}
end
section
variable {X:Cx}
end
end
end L2
namespace L2
open PySem PySem.Spec PyProof.Rows
section
structure GdC (c:Ch):Prop where
 ok:∀k,k∈c->k.1.Ok
 nd:(c.map (·.1.n)).Nodup
theorem zni {ws:List Int} {c:Ch} {k:Cl × Int} (h:k∈bhC ws c):∃j,j∈c/\k=(j.1,za3 ws j)/\0<za3 ws j:=by
 obtain ⟨h1,h2⟩:=mem_filter.mp h
 obtain ⟨j,hj,e⟩:=mem_map.mp h1
 subst e
 exact ⟨j,hj,rfl,of_decide_eq_true h2⟩
theorem zpE {ws:List Int} {c:Ch} {j:Cl × Int} (hj:j∈c) (h:0<za3 ws j):(j.1,za3 ws j)∈bhC ws c:=
 mem_filter.mpr ⟨mem_map.mpr ⟨j,hj,rfl⟩,decide_eq_true h⟩
theorem zcG (ws:List Int) (c:Ch):((bhC ws c).map (·.1)).Sublist (c.map (·.1)):=by
 unfold bhC
 have e:(c.map (·.1))=(c.map fun k=>(k.1,za3 ws k)).map (·.1):=by
  rw [map_map]
  rfl
 rw [e]
 exact filter_sublist.map _
theorem GdC.bh {c:Ch} (g:GdC c) (ws:List Int):GdC (bhC ws c):=by
 refine ⟨fun k hk=>?_,?_⟩
 ·obtain ⟨j,hj,e,_⟩:=zni hk
  rw [e]
  exact g.ok j hj
 ·have s:=(zcG ws c).map (·.n)
  rw [map_map,map_map] at s
  exact g.nd.sublist s
theorem GdC.cl {c:Ch} (g:GdC c) {k j:Cl × Int} (hk:k∈c) (hj:j∈c) (e:k.1.n=j.1.n):k=j:=by
 have:∀ {l:Ch},(l.map (·.1.n)).Nodup->∀ {k j:Cl × Int},k∈l->j∈l->k.1.n=j.1.n->k=j:=by
  intro l
  induction l with
  | nil=>
    intro _ k j hk
    cases hk
  | cons x l ih=>
    intro nd k j hk hj e
    rw [map_cons,nodup_cons] at nd
    rcases mem_cons.mp hk with ek | hk'
    ·rcases mem_cons.mp hj with ej | hj'
     ·rw [ek,ej]
     ·exact (nd.1 (mem_map.mpr ⟨j,hj',by rw [<-ek];exact e.symm⟩)).elim
    ·rcases mem_cons.mp hj with ej | hj'
     ·exact (nd.1 (mem_map.mpr ⟨k,hk',by rw [<-ej];exact e⟩)).elim
     ·exact ih nd.2 hk' hj' e
 exact this g.nd hk hj e
theorem GdC.good {c:Ch} (g:GdC c) (t:Int):Good (csC t c):=by
 refine ⟨fun d hd=>?_,?_⟩
 ·obtain ⟨k,hk,rfl⟩:=mem_map.mp hd
  exact g.ok k (mem_filter.mp hk).1
 ·unfold csC
  rw [map_map]
  exact g.nd.sublist (filter_sublist.map _)
theorem zdI {t:Int} {c:Ch} {d:Cl}:d∈csC t c↔∃x:Int,(d,x)∈c/\0<x/\d.came<=t:=by
 unfold csC
 constructor
 ·intro h
  obtain ⟨k,hk,rfl⟩:=mem_map.mp h
  obtain ⟨h1,h2⟩:=mem_filter.mp hk
  rw [Bool.and_eq_true,decide_eq_true_iff,decide_eq_true_iff] at h2
  exact ⟨k.2,h1,h2.1,h2.2⟩
 ·rintro ⟨x,h1,h2,h3⟩
  refine mem_map.mpr ⟨(d,x),mem_filter.mpr ⟨h1,?_⟩,rfl⟩
  rw [decide_eq_true h2,decide_eq_true h3]
  rfl
theorem zgy {t:Int} {h:Nat} {c:Ch} (g:GdC c) {j:Int}:j∈wkC t h c↔∃d,d∈csC t c/\d.n=j/\rnk (csC t c) t d<h:=by
 unfold wkC
 constructor
 ·intro hj
  obtain ⟨i,hi,ei⟩:=getElem_of_mem hj
  rw [length_take,length_map] at hi
  have e1:(((ord (csC t c) t).map (·.n)).take h)[i]?=some j:=by
   rw [getElem?_eq_getElem (by rw [length_take,length_map];exact hi),ei]
  rw [List.getElem?_take,if_pos (by omega),getElem?_map] at e1
  cases ed:(ord (csC t c) t)[i]? with
  | none=>rw [ed] at e1;cases e1
  | some d=>
    rw [ed] at e1
    refine ⟨d,(zbZ _ _).mem_iff.mp (mem_of_getElem? ed),Option.some.inj e1,?_⟩
    rw [zkN (g.good t) ed]
    omega
 ·rintro ⟨d,hd,rfl,hr⟩
  have e:=zoN (g.good t) t hd
  refine mem_of_getElem? (i:=rnk (csC t c) t d) ?_
  rw [List.getElem?_take,if_pos hr,getElem?_map,e]
  rfl
inductive Hist (h:Nat) (b:Int) (c0:Ch):Nat->List (Int × List Int)->Ch->Prop
 | zero:Hist h b c0 0 [] c0
 | succ {n:Nat} {rs:List (Int × List Int)} {c:Ch} {h':Nat}:Hist h b c0 n rs c->h<=h'->Hist h b c0 (n+1) (rs++[(b+n,wkC (b+n) h' c)]) (bhC (wkC (b+n) h' c) c)
theorem zfw {h:Nat} {b:Int} {d:Ch} (g:GdC d):∀n,GdC (runN h n b d).2
 | 0=>g
 | n+1=>by
   rw [zaR]
   exact (zfw g n).bh _
theorem znj {h:Nat} {b:Int} {d:Ch} {n:Nat} (e:(runN h n b d).2=[]):∀m,(runN h (n+m) b d).2=[]
 | 0=>e
 | m+1=>by
   rw [show n+(m+1)=n+m+1 from rfl,zaR]
   show bhC _ (runN h (n+m) b d).2=[]
   rw [znj e m]
   rfl
theorem ziW {h:Nat} {b:Int} {d:Ch} {j:Int}:∀(q m:Nat),j∈(runN h m b d).2.map (·.1.n)->(∀k,k∈(runN h m b d).2->0<k.2)->(runN h (m+q) b d).2=[]->∃i,m<=i/\i<m+q/\j∈wkC (b+i) h (runN h i b d).2
 | 0,m,hj,_,e=>by
   rw [Nat.add_zero] at e
   rw [e] at hj
   cases hj
 | q+1,m,hj,pos,e=>by
   by_cases w:j∈wkC (b+m) h (runN h m b d).2
   ·exact ⟨m,Nat.le_refl _,by omega,w⟩
   ·obtain ⟨k,hk,ek⟩:=mem_map.mp hj
    have hj':j∈(runN h (m+1) b d).2.map (·.1.n):=by
     rw [zaR]
     have lk:za3 (wkC (b+m) h (runN h m b d).2) k=k.2:=if_neg (by rw [ek];exact w)
     exact mem_map.mpr ⟨_,zpE hk (by rw [lk];exact pos k hk),ek⟩
    have pos':∀k,k∈(runN h (m+1) b d).2->0<k.2:=by
     rw [zaR]
     exact fun k hk=>zeO hk
    obtain ⟨i,a1,a2,a3⟩:=ziW q (m+1) hj' pos' (by rw [show m+1+q=m+(q+1) by omega];exact e)
    exact ⟨i,by omega,by omega,a3⟩
theorem zhM {h:Nat} {b:Int} {d:Ch} {i:Nat}:∀ {n:Nat},i<n->(b+i,wkC (b+i) h (runN h i b d).2)∈(runN h n b d).1
 | n+1,hi=>by
   rw [zaR]
   by_cases e:i=n
   ·subst e
    exact mem_append.mpr (.inr (mem_singleton.mpr rfl))
   ·exact mem_append.mpr (.inl (zhM (by omega)))
theorem znk {h:Nat} {b:Int} {d:Ch}:∀n,(runN h n b d).1.Pairwise (fun r q=>r.1<q.1)/\∀r,r∈(runN h n b d).1->r.1<b+n
 | 0=>⟨.nil,fun r hr=>by cases hr⟩
 | n+1=>by
   obtain ⟨p,u⟩:=znk (h:=h) (b:=b) (d:=d) n
   rw [zaR]
   refine ⟨List.pairwise_append.mpr ⟨p,List.pairwise_singleton _ _,fun r hr q hq=>?_⟩,fun r hr=>?_⟩
   ·rw [mem_singleton.mp hq]
    exact u r hr
   ·rcases mem_append.mp hr with hr | hr
    ·have:=u r hr
     omega
    ·rw [mem_singleton.mp hr]
     show b+(n:Int)<b+((n+1:Nat):Int)
     omega
theorem zoR {L:List (Int × Int)} {k v j:Int}:valI (putI L k v) j=if j=k then some v else valI L j:=by
 have h:=zfR (dI L) (.inl k) (.inl j) (V.int v)
 rw [zpC,zng,zng] at h
 by_cases e:j=k
 ·rw [if_pos (by rw [e])] at h
  rw [if_pos e]
  cases z:valI (putI L k v) j with
  | none=>rw [z] at h;cases h
  | some u=>rw [z] at h;cases h;rfl
 ·rw [if_neg (fun z=>e (Sum.inl.inj z))] at h
  rw [if_neg e]
  cases z:valI (putI L k v) j with
  | none=>
    rw [z] at h
    cases y:valI L j with
    | none=>rfl
    | some u=>rw [y] at h;cases h
  | some w=>
    rw [z] at h
    cases y:valI L j with
    | none=>rw [y] at h;cases h
    | some u=>rw [y] at h;cases h;rfl
theorem zc5 {t j:Int}:∀ {ns:List Int} {L:List (Int × Int)},valI (zc4 t ns L) j=if j∈ns then some t else valI L j
 | [],L=>by simp [zc4]
 | n::ns,L=>by
   show valI (zc4 t ns (putI L n t)) j=_
   rw [zc5 (ns:=ns),zoR]
   by_cases a:j∈ns
   ·rw [if_pos a,if_pos (mem_cons_of_mem _ a)]
   ·rw [if_neg a]
    by_cases e:j=n
    ·rw [if_pos e,if_pos (by rw [e];exact mem_cons_self)]
    ·rw [if_neg e,if_neg (fun z=>(mem_cons.mp z).elim e a)]
theorem zem {j v:Int}:∀ {rs:List (Int × List Int)} {L:List (Int × Int)},valI (zbo rs L) j=some v->valI L j=some v\/∃r,r∈rs/\r.1=v/\j∈r.2
 | [],L,h=>.inl h
 | r::rs,L,h=>by
   rcases zem (rs:=rs) h with h | ⟨q,hq,e,hj⟩
   ·rw [zc5] at h
    by_cases a:j∈r.2
    ·rw [if_pos a] at h
     exact .inr ⟨r,mem_cons_self,Option.some.inj h,a⟩
    ·rw [if_neg a] at h
     exact .inl h
   ·exact .inr ⟨q,mem_cons_of_mem _ hq,e,hj⟩
theorem zdv {j:Int}:∀ {rs:List (Int × List Int)} {L:List (Int × Int)} {v:Int},rs.Pairwise (fun r q=>r.1<q.1)->(valI L j=some v/\(∀r,r∈rs->v<=r.1))\/(∃r,r∈rs/\r.1=v/\j∈r.2)->∃u,valI (zbo rs L) j=some u/\v<=u
 | [],L,v,_,h=>by
   rcases h with ⟨h,_⟩ | ⟨r,hr,_⟩
   ·exact ⟨v,h,Int.le_refl _⟩
   ·cases hr
 | r::rs,L,v,p,h=>by
   rw [pairwise_cons] at p
   show ∃u,valI (zbo rs (zc4 r.1 r.2 L)) j=some u/\v<=u
   rcases h with ⟨h,le⟩ | ⟨q,hq,e,hj⟩
   ·have lr:=le r mem_cons_self
    by_cases a:j∈r.2
    ·obtain ⟨u,h1,h2⟩:=zdv (rs:=rs) (L:=zc4 r.1 r.2 L) (v:=r.1) p.2 (.inl ⟨by rw [zc5,if_pos a],fun q hq=>Int.le_of_lt (p.1 q hq)⟩)
     exact ⟨u,h1,by omega⟩
    ·exact zdv p.2 (.inl ⟨by rw [zc5,if_neg a];exact h,fun q hq=>le q (mem_cons_of_mem _ hq)⟩)
   ·rcases mem_cons.mp hq with z | hq
    ·subst z
     refine zdv p.2 (.inl ⟨by rw [zc5,if_pos hj,e],fun q hq=>?_⟩)
     rw [<-e]
     exact Int.le_of_lt (p.1 q hq)
    ·exact zdv p.2 (.inr ⟨q,hq,e,hj⟩)
section
variable {X:Cx} {ai:List (Addr × Obj)} {σ:St} {H:Hp} {s:Shared}
end
end
end L2
namespace L2
open PySem PySem.Spec PyProof.Rows
section
theorem znl:bootBuiltins "repr" = some (.builtin "repr"):=by decide +kernel
theorem ziX {α β:Type} {F : α -> β->Prop}:∀ {l₁:List α} {l₂:List β},l₁.length=l₂.length->(∀(j:Nat) a b,l₁[j]?=some a->l₂[j]?=some b->F a b)->Paired F l₁ l₂
 | [],[],_,_=>.nil
 | a::l₁,b::l₂,h,f=>.cons (f 0 a b rfl rfl) (ziX (by simpa using h) fun j x y hx hy=>f (j+1) x y hx hy)
theorem zeQ {α β:Type} {F : α -> β->Prop}:∀ {l₁:List α} {l₂:List β},Paired F l₁ l₂->∀ {j:Nat} {a : α} {b : β},l₁[j]?=some a->l₂[j]?=some b->F a b
 | _,_,.nil,j,a,b,h,_=>by simp at h
 | _,_,.cons x r,0,a,b,h1,h2=>by
   cases h1
   cases h2
   exact x
 | _,_,.cons x r,j+1,a,b,h1,h2=>zeQ r (j:=j) h1 h2
theorem Room.units4 {k:Nat} {A:Around} (r:Room k A):A.units+4<cLine:=by have:=r.un;omega
inductive Shw (K:W.Frag) (H:Hp):V->Str->Prop
 | non:Shw K H .non "None"
 | bl (b:Bool):Shw K H (.bl b) (if b then "True" else "False")
 | int (i:Int) (h:i.natAbs.log2<1920):Shw K H (.int i) (toString i)
 | str (x:Str) (h:(reprText x).length<=sizeLine):Shw K H (.str x) (reprText x)
 | lst {a:Addr} (i:Int) (h:SqL K H a [.int i]) (hs:(PyData.list [.int i]).showable=true) (hz:(PyData.list [.int i]).shown.length<=sizeLine):Shw K H (.ref a) (PyData.list [.int i]).shown
 | tup {a:Addr} (i:Int) (h:SqT K H a [.int i]) (hs:(PyData.tuple [.int i]).showable=true) (hz:(PyData.tuple [.int i]).shown.length<=sizeLine):Shw K H (.ref a) (PyData.tuple [.int i]).shown
section
variable {X:Cx}
theorem znm (hg:X.A.guards=some []) (hu:X.A.units+4<cLine):zcE X (.builtin "repr") (fun xs H Q=>∃v x,xs=[v]/\Shw X.K H v x/\Q (.str x) H):=by
 intro ai s σ H xs us Q I r h
 obtain ⟨v,x,rfl,sh,q⟩:=h
 obtain ⟨u,rfl,ru⟩:=zeE r
 cases sh with
 | non=>
   cases (show u=Value.none from ru)
   exact P.repr_of_none ⟨.str _,H,I.kept (t':=s.toks+1) fun _ _ e=>e,⟨_,rfl⟩,q⟩
 | bl b=>
   cases (show u=Value.bool b from ru)
   exact P.repr_of_bool ⟨.str _,H,I.kept (t':=s.toks+1) fun _ _ e=>e,⟨_,rfl⟩,q⟩
 | int i hi=>
   obtain ⟨t,rfl⟩:=ru
   exact P.repr_of_int hi ⟨.str _,H,I.kept (t':=s.toks+1) fun _ _ e=>e,⟨_,rfl⟩,q⟩
 | str y hy=>
   obtain ⟨t,rfl⟩:=ru
   exact P.repr_of_str ⟨.str _,H,I.kept (t':=s.toks+1) fun _ _ e=>e,⟨_,rfl⟩,q⟩ hy
 | @lst a i hq hs hz=>
   cases (show u=Value.ref a from ru)
   obtain ⟨its,rv,p,_⟩:=I.list hq
   obtain ⟨w,rfl,t,rfl⟩:=zeE rv
   obtain ⟨o,h1,h2,n,h3⟩:=p.isList
   exact repr_of_reads' (Reads.list h1 h2 h3 (ReadsAll.cons (Reads.int i t) ReadsAll.nil)) hs (fun z=>by simp [PyData.hasDict,PyData.hasDictAll] at z) hg (by simp [PyData.depth,PyData.depthAll];omega) (fun _ _ e=>e)
    (fun h' u tk hk=>⟨.str _,H,I.kept (t':=tk) hk,⟨_,rfl⟩,q⟩) hz
 | @tup a i hq hs hz=>
   cases (show u=Value.ref a from ru)
   obtain ⟨its,rv,p,_⟩:=I.tuple hq
   obtain ⟨w,rfl,t,rfl⟩:=zeE rv
   obtain ⟨o,h1,h2,n,h3⟩:=p
   exact repr_of_reads' (Reads.tuple h1 h2 h3 (ReadsAll.cons (Reads.int i t) ReadsAll.nil)) hs (fun z=>by simp [PyData.hasDict,PyData.hasDictAll] at z) hg (by simp [PyData.depth,PyData.depthAll];omega) (fun _ _ e=>e)
    (fun h' u tk hk=>⟨.str _,H,I.kept (t':=tk) hk,⟨_,rfl⟩,q⟩) hz
def zsg (K:W.Frag):List V->Hp->VK->Prop:=fun xs H Q=>∃v x,xs=[v]/\Shw K H v x/\Q (.str x) H
theorem zhv {K:W.Frag} (hg:X.A.guards=some []) (hu:X.A.units+4<cLine) (hK:X.K=K):zcE X (.builtin "repr") (zsg K):=hK▸znm hg hu
end
section
variable {X:Cx} {tg:Expr}
end
section
variable {X:Cx}
end
theorem Shw.same {K:W.Frag} {H H':Hp} {v:V} {x:Str} (s:Same H H') (h:Shw K H v x):Shw K H' v x:=by
 cases h with
 | non=>exact .non
 | bl b=>exact .bl b
 | int i hi=>exact .int i hi
 | str y hy=>exact .str y hy
 | lst i h1 h2 h3=>exact .lst i (s.seq h1) h2 h3
 | tup i h1 h2 h3=>exact .tup i (h1.imp (Rd.same s) id) h2 h3
end
end L2
namespace L2
open PySem PySem.Spec PyProof.Rows
section
abbrev Cel:=Addr × Obj × V
def zsh (p:Cel):HO:=.ext fun h=>h.get? p.1=some p.2.1
structure CellOk (p:Cel):Prop where
 ex:∃u,p.2.1.data=.cell (some u)/\RelV p.2.2 u
structure FnV (P:Program) (w:World) (K:W.Frag) (mg:Str->Option Value) (bf:Heap) (k:Nat) (H:Hp) (f:Addr) (sp:Sp):Prop where
 obj:∃o fd,H f=some (.frz o (.own f))/\o.data=.func fd
 run:∀(A:Around) (outer:List Env) (s:Shared) (H1:Hp) (us:List Value) (vs:List V) (Q:VK),Room k A->Env0 P w K mg bf A outer s H1->Same H H1->Vals vs us->sp vs H1 Q E0->
  codeAny (model P w) A (.call (.ref f) ⟨us,[]⟩) (fun r s'=>∃u,r=.ok (.ret u)/\CE outer P w H1 s Q u s') s
section
variable {X:Cx} {k i:Nat} {x:Str} {p pos:Pos} {e:Expr} {es:List Expr} {t:TA}
end
structure LScope (scope:Scope) (x:Str) (N:List Str):Prop where
 kind:scope.kind=.function
 nocell:∀y∈scope.names,y.2≠.cell
 own:scope.names.lookup x=some .local
 head:N[0]?=some x
 apart:∀y,scope.names.lookup y=some .local->(y,NameKind.free)∉scope.names
structure CloV (H:Hp) (q:Str) (ar:Arguments) (body:Expr) (scope:Scope) (f:Addr) (cl:List (Str × Addr)) (N:List Str) (cs:List Cel):Prop where
 ex:∃pm c ct oc us t o,H f=some (.frz o (.own f))/\o.data=.func (W.kla_fn "<lambda>" q ar body scope cl pm (.ref c) ct)/\H c=some (.frz oc (.own c))/\oc.data=.fields us/\us[1]?=some (.str q t)
 inj:∀y z c,cl.lookup y=some c->cl.lookup z=some c->y=z
 has:∀x,(x,NameKind.free)∈scope.names->∃c,cl.lookup x=some c
 cov:∀x c,cl.lookup x=some c->∃p,p∈cs/\p.1=c
 len:N.length=cs.length+1
 cap:∀(k:Nat) (p:Cel) (y:Str),N[k+1]?=some y->cs[k]?=some p->cl.lookup y=some p.1/\(y,NameKind.free)∈scope.names
 cel:∀p,p∈cs->H p.1=some (zsh p)/\CellOk p
 nd:(cs.map (·.1)).Nodup
theorem zdJ {α:Type} (R:Nat -> α->Prop):∀n,(∀k,k<n->∃a,R k a)->∃l:List α,l.length=n/\∀k a,l[k]?=some a->R k a
 | 0,_=>⟨[],rfl,fun k a h=>by simp at h⟩
 | n+1,h=>by
   obtain ⟨l,e,r⟩:=zdJ R n fun k hk=>h k (by omega)
   obtain ⟨a,ha⟩:=h n (by omega)
   refine ⟨l++[a],by rw [length_append,e];rfl,fun k b hb=>?_⟩
   by_cases z:k<n
   ·rw [getElem?_append_left (by omega)] at hb
    exact r k b hb
   ·rw [getElem?_append_right (by omega),e] at hb
    cases y:k-n with
    | zero=>
      rw [y] at hb
      cases hb
      rw [show k=n by omega]
      exact ha
    | succ j=>rw [y] at hb;cases hb
end
end L2
namespace L2
open PySem PySem.Spec PyProof.Rows PySem.W
end L2
namespace PySem
open Sem (wp)
namespace F
theorem entry_dict_loop:entryFor table "dict.update.loop" = some Builtin.«dict.update.loop» := entryFor_of_tree (by kernel_rfl)
theorem plain_dict_loop:plainId "dict.update.loop" = true:=by decide +kernel
theorem miss_list_keys:typeLookup (.type "list") "keys" = pure none:=by rw [typeLookup_type,builtinLookup_eq_fast];kernel_rfl
end F
theorem ziY {prog:Program} {w:World} {A:Around} {E:Value->Shared->Prop} {s:Shared} {a:Addr} {o:Obj} {xs:Array Value} {k:Nat} {Q:Option Value->Shared->Prop}
  (hx:s.heap.get? a=some o) (hc:o.cls=.type "list") (hdat:o.data=.seq xs k) (hd:o.dict=none) (hA:A.handled=none)
  (h:∀h' tk,(∀b o,s.heap.get? b=some o->h'.get? b=some o)->Q none { s with heap:=h',toks:=tk }):
  wpAny (model prog w) A (getAttr? (.ref a) "keys") Q E s:=by
 obtain ⟨c,dct,dat,sl⟩:=o
 cases (show c=_ from hc);cases (show dat=_ from hdat);cases (show dct=_ from hd)
 rcases s with ⟨h0,gs,dr,n0,oz⟩
 have isL:∀tk',(⟨h0,gs,dr,tk',oz⟩:Shared).TypeIs (.ref a) "list" := fun _=>⟨_,hx,rfl⟩
 have v1:=sub_AttributeError;have v5:=am_list_getattr_none
 have v3:=F.slot_list_getattribute.lookup;have v4:=F.slot_list_getattribute.bind (.ref a)
 unfold getAttr? getAttrBy?;unfold getAttrBy
 repeat (any_goals (first | assumption | exact isL _ | ((with_reducible show wpAny _ _ (call (Value.builtin "list.__getattribute__") _ _) _ _ _);refine call_meets F.slot_list_getattribute (isL _) am_entry_list_getattribute (F.args_list_getattribute_2 _ _) (meets_getattribute_miss_list a xs k sl "keys" _ F.miss_list_keys (by decide +kernel) (by decide +kernel)) ⟨hx,hA,fun h' tk' e hx'=>?_⟩) | wp_step))
 rcases hx'.there with ⟨_,_,he⟩
 have hE:∀tk'',(⟨h',gs,dr,tk'',oz⟩:Shared).TypeIs (.ref e) "AttributeError" := fun _=>⟨_,he,rfl⟩
 (show wpAny _ _ (getattributeRaised _ _ _ _ _ _ _) _ _ _);unfold getattributeRaised
 repeat (any_goals (first | assumption | exact hE _ | wp_step))
 exact h h' tk' hx'.keeps
section
variable {prog:Program} {w:World} {K:Type} [DecidableEq K] {knd:KeyKind prog w K} {A:Around} {R:Result->Shared->Prop}
def zeR (kvs:List (K × Value)):List (Addr × K × Value × Value)->List (K × Value)
 | []=>kvs
 | p::ps=>zeR (stored kvs p.2.1 p.2.2.2) ps
theorem zlB (kvs:List (K × Value)) (k:K) (v:Value):(stored kvs k v).length<=kvs.length+1:=by
 unfold stored
 split<;>simp
theorem zeS (d l it:Addr) (hh:A.handled=none) (ps:List (Addr × K × Value × Value)) (n1:it≠d) (n2:it≠l) (n3:d≠l) (n4:∀p,p∈ps->p.1≠it/\p.1≠d) (hk:∀p,p∈ps->knd.is p.2.1 p.2.2.1=true):
  ∀(m i:Nat) (s:Shared) (kvs:List (K × Value)),ps.length-i=m->i<=ps.length->s.heap.IsListIter it l i->s.heap.IsList l (ps.map fun p=>Value.ref p.1).toArray->(∀p,p∈ps->s.heap.IsTuple p.1 #[p.2.2.1,p.2.2.2])->s.heap.DictOf knd d kvs->kvs.length+(ps.length-i)<=sizeLine->
   (∀h' tk,(∀b o,b≠it->b≠d->s.heap.get? b=some o->h'.get? b=some o)->h'.DictOf knd d (zeR kvs (ps.drop i))->R (.ok (.ret .none)) { s with heap:=h',toks:=tk })->
   codeAny (model prog w) A (.builtin "dict.update.loop" ⟨[.ref d,.ref it,rawInt i,.none],[]⟩) R s:=by
 intro m
 induction m with
 | zero=>
   intro i s kvs hm hi hit hl hp hd hz hR
   have e:i=ps.length:=by omega
   subst e
   refine codeAny_builtin F.entry_dict_loop ?_
   rw [Around.under_plainId F.plain_dict_loop _]
   show wpAny _ A.in1 (pyNext (.ref it) >>= _) _ _ s
   refine wpAny_bind (wpAny_pyNext_list_end hh hit hl (by simp) fun h' eb=>?_)
   show wpAny _ A.in1 (Builtin.Dict.addKeywords d [] >>= fun _=>ret Value.none) _ _ _
   refine wpAny_bind (wpAny_pure ?_)
   refine wpAny_pure (hR h' s.toks (fun b o h1 h2 e=>eb b o h1 e) ?_)
   rw [List.drop_length]
   obtain ⟨o,es,ep,ho,r⟩:=hd
   exact ⟨o,es,ep,eb d o n1.symm ho,r⟩
 | succ m ih=>
   intro i s kvs hm hi hit hl hp hd hz hR
   have il:i<ps.length:=by omega
   have ei:ps[i]?=some ps[i]:=getElem?_eq_getElem il
   have hpm:ps[i]∈ps:=getElem_mem il
   have ed:ps.drop i=ps[i]::ps.drop (i+1):=List.drop_eq_getElem_cons il
   generalize ps[i]=p at ei hpm ed
   refine codeAny_builtin F.entry_dict_loop ?_
   rw [Around.under_plainId F.plain_dict_loop _]
   show wpAny _ A.in1 (pyNext (.ref it) >>= _) _ _ s
   refine wpAny_bind (wpAny_pyNext_list_item hit hl (x:=.ref p.1) (by simp [ei]) fun h' hit' sb=>?_)
   have kp:∀b o,b≠it->s.heap.get? b=some o->h'.get? b=some o:=fun b o hb e=>(sb.2 b hb).trans e
   have htup:h'.IsTuple p.1 #[p.2.2.1,p.2.2.2]:=let ⟨o,e,r⟩:=hp p hpm;⟨o,kp _ o (n4 p hpm).1 e,r⟩
   have hd':h'.DictOf knd d kvs:=let ⟨o,es,ep,ho,r⟩:=hd;⟨o,es,ep,kp d o n1.symm ho,r⟩
   obtain ⟨ot,ht1,ht2,nt,ht3⟩:=id htup
   show wpAny _ A.in1 (holding [Value.ref p.1] _ >>= _) _ _ _
   refine wpAny_bind (wpAny_holding ?_)
   refine wpAny_bind (wpAny_tryCatch ?_)
   unfold Builtin.Dict.pairItems
   refine wpAny_bind (wpAny_typeOf (T := "tuple") ⟨ot,ht1,ht2⟩ ?_)
   rw [if_pos (by decide)]
   obtain ⟨oc,od,dt,osl⟩:=ot
   cases (show dt=.seq #[p.2.2.1,p.2.2.2] nt from ht3)
   refine wpAny_bind (m:=seqItems? (.ref p.1)) ?_
   unfold seqItems?
   refine wpAny_bind (wpAny_load ht1 (wpAny_pure (wpAny_pure ?_)))
   show wpAny _ A.in1 (holding [p.2.2.1,p.2.2.2] (dictSet d p.2.2.1 p.2.2.2)) _ _ _
   refine wpAny_holding (wpAny_dictSet_pairs (hk p hpm) hd' (fun h2 hd2 sb2=>?_) (by omega))
   have kp2:∀b o,b≠it->b≠d->s.heap.get? b=some o->h2.get? b=some o:=fun b o h1 h3 e=>(sb2.2 b h3).trans (kp b o h1 e)
   refine wpAny_pure ⟨plainId_quiet F.plain_dict_loop _,?_⟩
   refine ih (i+1) _ (stored kvs p.2.1 p.2.2.2) (by omega) il ?_ ?_ (fun q hq=>?_) hd2 (by have:=zlB kvs p.2.1 p.2.2.2;omega) fun h3 tk h4 h5=>?_
   ·obtain ⟨o,e,r⟩:=hit'
    exact ⟨o,(sb2.2 it n1).trans e,r⟩
   ·obtain ⟨o,e,r⟩:=hl
    exact ⟨o,kp2 l o n2.symm n3.symm e,r⟩
   ·obtain ⟨o,e,r⟩:=hp q hq
    exact ⟨o,kp2 q.1 o (n4 q hq).1 (n4 q hq).2 e,r⟩
   ·refine hR h3 tk (fun b o h1 h2' e=>h4 b o h1 h2' (kp2 b o h1 h2' e)) ?_
    rw [ed]
    exact h5
theorem zgz {E:Value->Shared->Prop} {s:Shared} {l:Addr} {ol:Obj} {nl:Nat} (hh:A.handled=none) (ps:List (Addr × K × Value × Value)) {Q:Value->Shared->Prop} (g1:s.heap.get? l=some ol) (g2:ol.cls=.type "list") (g3:ol.data=.seq (ps.map fun p=>Value.ref p.1).toArray nl) (g4:ol.dict=none)
  (hp:∀p,p∈ps->s.heap.IsTuple p.1 #[p.2.2.1,p.2.2.2]) (hk:∀p,p∈ps->knd.is p.2.1 p.2.2.1=true) (hz:ps.length<=sizeLine)
  (h:∀h' tk,(∀b o,s.heap.get? b=some o->h'.get? b=some o)->h'.DictOf knd s.heap.objs.size (zeR [] ps)->Q (.ref s.heap.objs.size) { s with heap:=h',toks:=tk }):
  wpAny (model prog w) A (call (.type "dict") [.ref l]) Q E s:=by
 refine callType_codes (Q₁:=fun x t=>x=.ref s.heap.objs.size/\t = { s with heap:=s.heap.push { cls:=.type "dict",data:=.dict #[] } }) F.kt_called_dict (F.kt_typeCall_dict_1 _) F.entry_dict_init (kt_code_dict_new _ ⟨rfl,rfl⟩) ?_
 rintro obj s₁ ⟨rfl,rfl⟩
 have neu:(s.heap.push { cls:=.type "dict",data:=.dict #[] }).DictOf knd s.heap.objs.size []:=Heap.DictOf.new _
 have old1:∀b o,s.heap.get? b=some o->(s.heap.push { cls:=.type "dict",data:=.dict #[] }).get? b=some o:=fun b o e=>Heap.get?_push_of_some _ e
 refine ⟨neu.typeIs,F.args_dict_init_2 _ _,?_⟩
 unfold Builtin.«dict.__init__»;refine wpAny_bind ?_
 unfold Builtin.Dict.selfAndRest;refine wpAny_bind (wpAny_notOrdered_dict neu.typeIs ?_)
 show wpAny _ _ (pure (s.heap.objs.size,[Value.ref l])) _ _ _
 refine wpAny_pure ?_
 show wpAny _ _ (Builtin.Dict.updateFrom "dict.__init__" s.heap.objs.size (.ref l) [] .none) _ _ _
 unfold Builtin.Dict.updateFrom;refine wpAny_bind (wpAny_typeOf (T := "list") ⟨ol,old1 _ _ g1,g2⟩ ?_)
 rw [if_pos (by decide)]
 refine wpAny_bind (ziY (old1 _ _ g1) g2 g3 g4 hh fun h1 tk1 k1=>?_)
 rw [if_pos (by rfl)]
 refine wpAny_bind (wpAny_rule ?_)
 have old2:∀b o,s.heap.get? b=some o->h1.get? b=some o:=fun b o e=>k1 b o (old1 b o e)
 have hl2:h1.IsList l (ps.map fun p=>Value.ref p.1).toArray:=⟨ol,old2 _ _ g1,g2,nl,g3⟩
 refine wpAny_bind (wpAny_pyIter_list hl2 ?_)
 have lt:s.heap.objs.size<h1.objs.size:=by
  obtain ⟨o,es,ep,ho,_⟩:=neu
  exact Heap.lt_size (k1 _ o ho)
 have old3:∀b o,h1.get? b=some o->(h1.push { cls:=.type "list_iterator",data:=.fields #[.ref l,.int 0 0] }).get? b=some o:=fun b o e=>Heap.get?_push_of_some _ e
 have ltl:l<s.heap.objs.size:=Heap.lt_size g1
 have ltp:∀p,p∈ps->p.1<s.heap.objs.size:=fun p hpp=>let ⟨o,e,_⟩:=hp p hpp;Heap.lt_size e
 refine wpAny_pure ⟨plainId_quiet F.plain_dict_loop _,zeS (A:=A.in1) (knd:=knd) s.heap.objs.size l h1.objs.size hh ps (Nat.ne_of_gt lt) (Nat.ne_of_gt (Nat.lt_trans ltl lt)) (Nat.ne_of_gt ltl) (fun p hpp=>⟨Nat.ne_of_lt (Nat.lt_trans (ltp p hpp) lt),Nat.ne_of_lt (ltp p hpp)⟩) hk ps.length 0 _ [] rfl (Nat.zero_le _) ⟨_,Heap.get?_push_size _ rfl,rfl,rfl⟩ ⟨ol,old3 _ _ (old2 _ _ g1),g2,nl,g3⟩ (fun p hpp=>?_) ?_ (by simpa using hz) fun h' tk kp hd=>?_⟩
 ·obtain ⟨o,e,r⟩:=hp p hpp
  exact ⟨o,old3 _ _ (old2 _ _ e),r⟩
 ·obtain ⟨o,es,ep,ho,r⟩:=neu
  exact ⟨o,es,ep,old3 _ _ (k1 _ _ ho),r⟩
 ·refine ⟨rfl,h h' tk (fun b o e=>?_) hd⟩
  have lb:=Heap.lt_size e
  exact kp b o (Nat.ne_of_lt (Nat.lt_trans lb lt)) (Nat.ne_of_lt lb) (old3 _ _ (old2 _ _ e))
end
end PySem
namespace L2
open PySem PySem.Spec PyProof.Rows
section
def zcA (kvs:List (Key × V)):List (Key × V)->List (Key × V)
 | []=>kvs
 | p::ps=>zcA (putK kvs p.1 p.2) ps
theorem KV.all {kvs:List (Key × V)} {vs:List (Key × Value)} {qs:List (Addr × Key × Value × Value)} {ps:List (Key × V)} (r:KV kvs vs) (h:Paired (fun (p:Key × V) (q:Addr × Key × Value × Value)=>p.1=q.2.1/\RelV p.2 q.2.2.2) ps qs):KV (zcA kvs ps) (zeR vs qs):=by
 induction h generalizing kvs vs with
 | nil=>exact r
 | cons x _ ih=>
   obtain ⟨e,rv⟩:=x
   show KV (zcA (putK _ _ _) _) (zeR (stored _ _ _) _)
   rw [<-e]
   exact ih (r.put _ rv)
theorem zlC {X:Cx} (hh:X.A.handled=none):zcE X (.type "dict") (fun xs H Q=>∃(l:Addr) (bs:List (Addr × Key × V)),xs=[V.ref l]/\H l=some (.lst (bs.map fun b=>V.ref b.1))/\(∀b,b∈bs->H b.1=some (.tup [kV b.2.1,b.2.2]))/\
  ∀d H2,Same H H2->H d=none->H2 d=some (.dK (zcA [] (bs.map (·.2))))->Q (.ref d) H2):=by
 intro ai s σ H xs us Q I r h
 obtain ⟨l,bs,rfl,hl,hb,q⟩:=h
 obtain ⟨u,rfl,ru⟩:=zeE r
 cases (show u=Value.ref l from ru)
 obtain ⟨hz,its,n,rv,g⟩:=(show _ from I.hok l _ hl)
 have hn:H s.heap.objs.size=none:=I.hok.fresh (Nat.le_refl _)
 have R:∀i,i<bs.length->∃q:Addr × Key × Value × Value,∃b,bs[i]?=some b/\q.1=b.1/\s.heap.IsTuple q.1 #[q.2.2.1,q.2.2.2]/\(zaP X.prog X.w).is q.2.1 q.2.2.1=true/\b.2.1=q.2.1/\RelV b.2.2 q.2.2.2:=fun i hi=>by
  have eb:bs[i]?=some bs[i]:=getElem?_eq_getElem hi
  have hm:=getElem_mem hi
  generalize bs[i]=b at eb hm
  obtain ⟨_,ws,rw',p⟩:=(show _ from I.hok b.1 _ (hb b hm))
  obtain ⟨u1,u2,rfl,r1,r2⟩:=zoj rw'
  have hkey:(zaP X.prog X.w).is b.2.1 u1=true:=by
   rw [zhi]
   cases hk:b.2.1 with
   | inl i=>
     rw [hk] at r1
     obtain ⟨t,rfl⟩:=r1
     exact beq_self_eq_true _
   | inr x=>
     rw [hk] at r1
     obtain ⟨t,rfl⟩:=r1
     exact beq_self_eq_true _
  exact ⟨(b.1,b.2.1,u1,u2),b,eb,rfl,p,hkey,rfl,r2⟩
 obtain ⟨qs,lq,rq⟩:=zdJ _ bs.length R
 have eits:its=qs.map fun p=>Value.ref p.1:=by
  have l1:its.length=bs.length:=by
   have:=rv.length
   rw [length_map] at this
   exact this.symm
  refine List.ext_getElem? fun i=>?_
  rw [getElem?_map]
  cases e:qs[i]? with
  | none=>
    have:=List.getElem?_eq_none_iff.mp e
    rw [getElem?_eq_none (by omega)]
    rfl
  | some q'=>
    obtain ⟨b,e1,e2,_⟩:=rq i q' e
    have il:i<its.length:=by
     have:=(List.getElem?_eq_some_iff.mp e).1
     omega
    have ei:=getElem?_eq_getElem il
    have:=zeQ rv (show (bs.map fun b=>V.ref b.1)[i]?=some (V.ref b.1) by rw [getElem?_map,e1];rfl) ei
    rw [ei]
    show some its[i]=some (Value.ref q'.1)
    rw [show its[i]=Value.ref b.1 from this,e2]
 have mem:∀q',q'∈qs->s.heap.IsTuple q'.1 #[q'.2.2.1,q'.2.2.2]/\(zaP X.prog X.w).is q'.2.1 q'.2.2.1=true:=fun q' hq=>by
  obtain ⟨i,hi,ei⟩:=getElem_of_mem hq
  have e:=getElem?_eq_getElem hi
  rw [ei] at e
  obtain ⟨_,_,_,a3,a4,_⟩:=rq i q' e
  exact ⟨a3,a4⟩
 have zq:qs.length<=sizeLine:=by
  rw [length_map] at hz
  omega
 refine zgz (knd:=zaP X.prog X.w) hh qs g rfl (by rw [<-eits]) rfl (fun q' hq=>(mem q' hq).1) (fun q' hq=>(mem q' hq).2) zq fun h' tk kp hd=>?_
 have rel:KV (zcA [] (bs.map (·.2))) (zeR [] qs):=KV.all .nil (ziX (by rw [length_map,lq]) fun j p q' hp hq=>by
  obtain ⟨b,e1,_,_,_,a5,a6⟩:=rq j q' hq
  rw [getElem?_map,e1] at hp
  cases hp
  exact ⟨a5,a6⟩)
 have zl:(zcA [] (bs.map (·.2))).length<=sizeLine:=by
  have:∀(ps:List (Key × V)) (kvs:List (Key × V)),(zcA kvs ps).length<=kvs.length+ps.length:=by
   intro ps
   induction ps with
   | nil=>intro kvs;exact Nat.le_refl _
   | cons p ps ih=>
     intro kvs
     have h1:=ih (putK kvs p.1 p.2)
     have h2:(putK kvs p.1 p.2).length<=kvs.length+1:=by
      unfold putK
      split
      ·rw [length_map]
       omega
      ·rw [length_append]
       exact Nat.le_refl _
     show (zcA (putK kvs p.1 p.2) ps).length<=_
     rw [length_cons]
     omega
  have:=this (bs.map (·.2)) []
  rw [length_map,length_nil] at this
  omega
 exact ⟨.ref _,_,I.laid (a:=s.heap.objs.size) (o:=.dK (zcA [] (bs.map (·.2)))) (h':=h') (t':=tk) kp (Nat.le_refl _) (zpr zl (beq_eq_false_iff_ne.mpr (Ne.symm (Nat.ne_of_lt I.big))) rel hd),rfl,q _ _ (zbn hn _) hn zam⟩
theorem zhw:∀(ps kvs:List (Key × V)),((kvs++ps).map (·.1)).Nodup->zcA kvs ps=kvs++ps
 | [],kvs,_=>by simp [zcA]
 | p::ps,kvs,nd=>by
   have no:valV kvs p.1=none:=by
    cases e:valV kvs p.1 with
    | none=>rfl
    | some v=>
      rw [map_append,List.nodup_append] at nd
      have hm:p.1∈kvs.map (·.1):=by
       clear nd
       induction kvs with
       | nil=>rw [zon] at e;cases e
       | cons q kvs ih=>
         by_cases z:q.1=p.1
         ·rw [map_cons,z]
          exact mem_cons_self
         ·rw [zba z] at e
          exact mem_cons_of_mem _ (ih e)
      exact (nd.2.2 _ hm _ mem_cons_self rfl).elim
   show zcA (putK kvs p.1 p.2) ps=_
   rw [zoo _ no,zhw ps (kvs++[(p.1,p.2)]) (by rw [List.append_assoc];exact nd),List.append_assoc]
   rfl
theorem zsi {L:List (Int × Int)} (nd:(L.map (·.1)).Nodup):zcA [] (dI L)=dI L:=by
 rw [zhw]
 ·rfl
 ·show ((dI L).map (·.1)).Nodup
  unfold dI
  rw [map_map]
  have:(L.map ((fun x:Key × V=>x.1) ∘ fun p:Int × Int=>((Sum.inl p.1:Key),V.int p.2)))=(L.map (·.1)).map (fun i=>(Sum.inl i:Key)):=by
   rw [map_map]
   rfl
  rw [this,List.nodup_iff_pairwise_ne,List.pairwise_map]
  exact (List.nodup_iff_pairwise_ne.mp nd).imp fun h z=>h (Sum.inl.inj z)
end
end L2
namespace PySem
open Sem (wp)
section
variable {prog:Program} {w:World} {A:Around} {E:Value->Shared->Prop} {s:Shared}
end
end PySem
namespace PySem
open Sem (wp)
open AutoSeq1 (wpAny_loadPart')
set_option maxHeartbeats 8000000 in
section
variable {prog:Program} {w:World} {A:Around} {E:Value->Shared->Prop} {s:Shared}
end
end PySem
namespace L2
open PySem PySem.Spec PyProof.Rows
section
section
variable {M:Model} {A:Around} {E:Value->Shared->Prop} {s:Shared} {env:Env}
end
structure Zap (z TI TO i1 i2:Addr):Prop where
 n1:TI≠z
 n2:TO≠z
 n3:i1≠z
 n4:i2≠z
 n5:TI≠TO
 n6:TI≠i1
 n7:TI≠i2
 n8:TO≠i1
 n9:TO≠i2
 n0:i1≠i2
end
end L2
namespace L2
open PySem PySem.Spec PyProof.Rows
section
end
end L2
namespace L2
open PySem PySem.Spec PyProof.Rows
section
structure RowOk (ds:List Cl) (lf:Int->Int) (h:Nat) (t:Int) (ws:List Int):Prop where
 len:ws.length<=h
 nd:ws.Nodup
 inn:∀w,w∈ws->∃d,d∈ds/\d.n=w/\1<=lf w/\d.came<=t
 srt:∀(i:Nat) d e,ws[i]?=some d.n->ws[i+1]?=some e.n->d∈ds->e∈ds->ahd d e t=true
 rest:∀d,d∈ds->d.n∉ws->0<lf d.n->d.came<=t->ws.length=h/\∀e,e∈ds->ws.getLast?=some e.n->ahd e d t=true
def dn (ws:List Int) (L:List (Int × Int)):List (Int × Int):=L.map fun p=>(p.1,if p.1∈ws then p.2-1 else p.2)
end
end L2
namespace PySem
open Sem (wp)
section
variable {prog:Program} {w:World} {A:Around} {E:Value->Shared->Prop} {s:Shared}
end
end PySem
namespace PySem
open Sem (wp)
section
variable {prog:Program} {w:World} {A:Around} {E:Value->Shared->Prop} {s:Shared}
end
end PySem
namespace L2
open PySem PySem.Spec PyProof.Rows
section
section
variable {X:Cx}
end
end
section
section
variable {X:Cx}
end
end
end L2
namespace L2
open PySem PySem.Spec PyProof.Rows
section
section
variable {X:Cx}
def zth (K:W.Frag):V->Option Int->Option Int->Hp->VK->Prop:=fun x lo hi H Q=>∃a xs,x=.ref a/\SqT K H a xs/\
 ¬(HT.sIx xs.length 0 lo=0/\HT.sIx xs.length xs.length hi=xs.length)/\∀p H2,Same H H2->H p=none->H2 p=some (.tup (cutV xs lo hi))->Q (.ref p) H2
theorem zqH {K:W.Frag} (hK:X.K=K):SlR X (zth K):=by
 subst hK
 intro ai s σ H v u vl vu lo hi sl Q I rx hs pl pu h
 obtain ⟨a,xs,e,hx,ne,q⟩:=h
 exact zry ai s σ H v u vl vu lo hi sl Q I rx hs pl pu ⟨a,xs,e,hx,ne,fun p n=>q p _ (zbn n _) n zam⟩
end
end
section
section
variable {X:Cx} {tg:Expr}
end
end
end L2
namespace L2
open PySem PySem.Spec PyProof.Rows
section
structure MOk (CX:CXT) (P:Program) (w:World) (K:W.Frag) (mg:Str->Option Value) (bf:Heap) (k:Nat) (C:Addr) (m:Str) (sp:Sp):Prop where
 cl:Cls K C
 ex:∃f fd ps,Meth K C m f/\FnOk P w K mg bf CX k f fd ps sp/\za2 K fd ps []
def tMth (P:Program) (w:World) (K:W.Frag) (mg:Str->Option Value) (bf:Heap) (CX:CXT) (k:Nat) (m:Str) (E:XK) (ta:TE) (t:TA):TE:=fun σ H Q=>ta σ H fun x H1=>
 ∃a C dx fs sp,x=.ref a/\H1 a=some (.ins C dx fs)/\fs.lookup m=none/\MOk CX P w K mg bf k C m sp/\t σ H1 fun vs H2=>sp (x::vs) H2 Q E
section
variable {X:Cx} {CX:CXT} {k:Nat} {E:XK} {m:Str} {pos apos:Pos} {e o:Expr} {es:List Expr} {ta:TE} {t:TA}
theorem zbh {pl:Sem Bool} (he:PE X o ta) (hr:Room k X.A) (hx:zcx CX X E) (ha:PA X (e::es) t)
  (hst:starEach (e::es) X.env=(false,eval e X.env)::starEach es X.env:=by rfl) (hpl:(backTo pos (starEach es X.env)).any (·.1)=false:=by rfl)
  (ht:eval (.Call (.Attribute o m apos) (e::es) [] pos) X.env=(do
    let ov <-eval o X.env
    standAt apos.atName
    let (f,first) <-holding [ov] (getMethod ov m pl)
    callWith pos f first (backTo pos (starEach (e::es) X.env)) (backToKw pos (keywordEach [] X.env))):=by rfl):
  PE X (.Call (.Attribute o m apos) (e::es) [] pos) (tMth X.prog X.w X.K X.mg X.bf CX k m E ta t):=by
 with_unfolding_all
  intro ai s σ H Q I h
  refine W.methodCall_KW (pl:=pl) (thn (he ai s σ H _ I h) fun u s1 ⟨x,H1,I1,rx,a,C,dx,fs,sp,ex,ea,l,M,q⟩=>?_) ht
  subst ex
  obtain rfl:u=Value.ref a:=rx
  obtain ⟨f,fd,ps,hm,F,hb⟩:=M.ex
  refine zeF I1 ea M.cl hm l ?_
  refine W.callWith_K (first:=[.ref a]) (h₀:=X.bf) I.ok.mod.kin hm.kp (thn (ha pos ai s1 σ H1 _ I1 q) fun us s2 ⟨vs,H2,I2,r,q2⟩=>⟨I2.kIn,?_⟩) hst hpl
  exact zkv (us:=.ref a::us) (vs:=.ref a::vs) (dvs:=[]) F hr hb .nil hx I2 (.cons rfl r) (by rw [append_nil];exact q2)
theorem zaG {pl:Sem Bool} (he:PE X o ta) (hr:Room k X.A) (hx:zcx CX X E)
  (ht:eval (.Call (.Attribute o m apos) [] [] pos) X.env=(do
    let ov <-eval o X.env
    standAt apos.atName
    let (f,first) <-holding [ov] (getMethod ov m pl)
    callWith pos f first (backTo pos (starEach [] X.env)) (backToKw pos (keywordEach [] X.env))):=by rfl):
  PE X (.Call (.Attribute o m apos) [] [] pos) (tMth X.prog X.w X.K X.mg X.bf CX k m E ta tNil):=by
 with_unfolding_all
  intro ai s σ H Q I h
  refine W.methodCall_KW (pl:=pl) (thn (he ai s σ H _ I h) fun u s1 ⟨x,H1,I1,rx,a,C,dx,fs,sp,ex,ea,l,M,q⟩=>?_) ht
  subst ex
  obtain rfl:u=Value.ref a:=rx
  obtain ⟨f,fd,ps,hm,F,hb⟩:=M.ex
  refine zeF I1 ea M.cl hm l ?_
  exact W.callWith_K0 (first:=[.ref a]) I1.kIn hm.kp (zkv (us:=[.ref a]) (vs:=[.ref a]) (dvs:=[]) F hr hb .nil hx I1 (.cons rfl .nil) q)
end
structure FunE (K:W.Frag) (x qual:Str) (st:Stmt) (f:Addr) (fd:FuncData) (u:Value):Prop where
 ex:∃(oc:Value) (od:Option Addr) (T:Addr) (kV doc pm:Value) (an:Option Addr) (cdv ct:Value) (osl:Array (Option Value)) (o:Obj) (n:Nat),
  fd=W.fnOf x qual (zaq st) (zan st) (zac st) (.ref T) kV doc pm an cdv ct/\K.lookup f=some ⟨oc,od,.func fd,osl⟩/\W.codeIn K cdv qual=true/\K.lookup T=some o/\o.data=.seq #[u] n
 kp:W.keepIn K (.ref f)=true
theorem zqI {K:W.Frag} {x qual:Str} {st:Stmt} {f T:Addr} {oc:Value} {od an:Option Addr} {osl:Array (Option Value)} {kV doc pm cdv ct u:Value} {o:Obj} {n:Nat}
 (l:K.lookup f=some ⟨oc,od,.func (W.fnOf x qual (zaq st) (zan st) (zac st) (.ref T) kV doc pm an cdv ct),osl⟩) (c:W.codeIn K cdv qual=true) (k:W.keepIn K (.ref f)=true)
 (t:K.lookup T=some o) (d:o.data=.seq #[u] n):FunE K x qual st f (W.fnOf x qual (zaq st) (zan st) (zac st) (.ref T) kV doc pm an cdv ct) u:=⟨⟨oc,od,T,kV,doc,pm,an,cdv,ct,osl,o,n,rfl,l,c,t,d⟩,k⟩
theorem FunE.ok {P:Program} {w:World} {K:W.Frag} {mg:Str->Option Value} {bf:Heap} {x qual:Str} {st:Stmt} {f:Addr} {fd:FuncData} {u:Value} {N ps:List Str} {k:Nat} {sp:Sp} (F:FunE K x qual st f fd u) (S:FnScope N ps (zac st)) (len:∀vs H Q E,sp vs H Q E->vs.length=ps.length)
  (hbody:∀(cdv:Value) (A:Around) (outer:List Env) (s:Shared) (H:Hp) (vs:List V) (Q:VK) (E:XK),Room k (A.deeper (envOfC qual (zac st) s.heap.objs.size f cdv))->sp vs H Q E->
    ∃t,PSs (cxOf CX0 P w K mg bf N qual (zac st) f cdv A outer s H E).nox (zan st) t/\t { nx:=fun _ H'=>Q .non H',rt:=Q } (zfz N vs) H):FnOk P w K mg bf CX0 (k+1) f fd ps sp:=by
 obtain ⟨oc,od,T,kV,doc,pm,an,cdv,ct,osl,o,n,rfl,lk,hcd,_,_⟩:=F.ex
 refine zmk lk hcd S len fun A outer s H vs Q E hr hsp=>?_
 obtain ⟨t,h,q⟩:=hbody cdv A outer s H vs Q E hr hsp
 exact ⟨t,h.nox,q⟩
theorem FunE.binds {K:W.Frag} {x qual:Str} {st:Stmt} {f:Addr} {fd:FuncData} {u:Value} {ps:List Str} (F:FunE K x qual st f fd u)
  (h:∀(dV kV doc pm:Value) (an:Option Addr) (cdv ct:Value) (us:List Value),us.length=ps.length->∃k:Option (Array Value)->Sem (List (Str × Value)),bindArgs (W.fnOf x qual (zaq st) (zan st) (zac st) dV kV doc pm an cdv ct) ⟨us,[]⟩=(seqItems? dV >>= k)/\k (some #[u])=pure (ps.zip us)):za2 K fd ps []:=by
 obtain ⟨oc,od,T,kV,doc,pm,an,cdv,ct,osl,o,n,rfl,lk,hcd,t,d⟩:=F.ex
 intro s us KX hl
 obtain ⟨k,k1,k2⟩:=h (.ref T) kV doc pm an cdv ct us (by simpa using hl)
 exact BindsTo.of_defaults (T:=T) (o:=o) (items := #[u]) (n:=n) (k:=k) rfl (KX T o t) d k1 (by rw [k2,append_nil])
theorem FunE.bindsD {K:W.Frag} {x qual:Str} {st:Stmt} {f:Addr} {fd:FuncData} {u:Value} {ps:List Str} (F:FunE K x qual st f fd u)
  (h:∀(dV kV doc pm:Value) (an:Option Addr) (cdv ct:Value) (us:List Value),(us++[u]).length=ps.length->∃k:Option (Array Value)->Sem (List (Str × Value)),bindArgs (W.fnOf x qual (zaq st) (zan st) (zac st) dV kV doc pm an cdv ct) ⟨us,[]⟩=(seqItems? dV >>= k)/\k (some #[u])=pure (ps.zip (us++[u]))):za2 K fd ps [u]:=by
 obtain ⟨oc,od,T,kV,doc,pm,an,cdv,ct,osl,o,n,rfl,lk,hcd,t,d⟩:=F.ex
 intro s us KX hl
 obtain ⟨k,k1,k2⟩:=h (.ref T) kV doc pm an cdv ct us hl
 exact BindsTo.of_defaults (T:=T) (o:=o) (items := #[u]) (n:=n) (k:=k) rfl (KX T o t) d k1 k2
def zkQ (K:W.Frag) (names:List Str):Sp:=fun vs H Q _=>∃(x C dx:Addr) (args:List V),vs=.ref x::args/\H x=some (.ins C dx [])/\Cls K C/\(∀f,f∈names->zal K C f)/\args.length=names.length/\
 ∀H',But x H H'->H' x=some (.ins C dx (names.zip args))->Q .non H'
structure Mak (P:Program) (w:World) (K:W.Frag) (mg:Str->Option Value) (bf:Heap) (x:Str) (C:Addr) (k:Nat) (names:List Str) (dv:V):Prop where
 cl:Cls K C
 no:∀f,f∈names->zal K C f
 ex:∃f fd ps u,Mk K C f/\FnOk P w K mg bf CX0 k f fd ps (zkQ K names)/\za2 K fd ps []/\(RelV dv u->za2 K fd ps [u])/\RelV dv u/\mg x=some (.ref C)
def tMak (C:Addr) (names:List Str) (dvs:List V) (t:TA):TE:=fun σ H Q=>t σ H fun vs H1=>(vs++dvs).length=names.length/\∀a dx H2,Same H1 H2->H1 a=none->H2 a=some (.ins C dx (names.zip (vs++dvs)))->Q (.ref a) H2
section
variable {X:Cx} {k:Nat} {x:Str} {C:Addr} {names:List Str} {dv:V} {p pos:Pos} {e:Expr} {es:List Expr} {t:TA}
theorem ziZ {H:Hp} {vs:List V} {Q:VK} (cl:Cls X.K C) (no:∀f,f∈names->zal X.K C f) (l:vs.length=names.length) (q:∀a dx H2,Same H H2->H a=none->H2 a=some (.ins C dx (names.zip vs))->Q (.ref a) H2):
  ∀y dx,H y=none->H dx=none->dx≠y->zkQ X.K names (.ref y::vs) (upd (upd H dx (.own y)) y (.ins C dx [])) (fun v H2=>v=.non/\Q (.ref y) H2) E0:=fun y dx ny nd ne=>
 ⟨y,C,dx,vs,rfl,zam,cl,no,l,fun H' k h=>⟨rfl,q y dx H' (fun b o e=>by
   have b1:b≠y:=fun z=>by rw [z,ny] at e;cases e
   have b2:b≠dx:=fun z=>by rw [z,nd] at e;cases e
   refine k b o b1 ?_
   rw [zah b1,zah b2]
   exact e) ny h⟩⟩
theorem znn (M:Mak X.prog X.w X.K X.mg X.bf x C k names dv) (hr:Room (k+1) X.A) (hg:Gl X x) (ha:PA X (e::es) t) (hdb:(x==("__debug__" : Str))=false:=by decide)
  (he:starEach (e::es) X.env=(false,eval e X.env)::starEach es X.env:=by rfl) (hpl:(backTo pos (starEach es X.env)).any (·.1)=false:=by rfl):PE X (.Call (.Name x p) (e::es) [] pos) (tMak C names [] t):=by
 obtain ⟨f,fd,ps,u,mk,F,b,_,_,m⟩:=M.ex
 with_unfolding_all
  intro ai s σ H Q I h
  refine wpAny_Call_Name_kw (zcm I hg m ?_ hdb)
  refine W.callWith_K (h₀:=X.bf) I.ok.mod.kin mk.kp (thn (ha pos ai s σ H _ I h) fun us s1 ⟨vs,H1,I1,r,l,q⟩=>⟨I1.kIn,?_⟩) he hpl
  exact zkw mk F hr b .nil zaT I1 r (ziZ M.cl M.no l q)
theorem zno (M:Mak X.prog X.w X.K X.mg X.bf x C k names dv) (hr:Room (k+1) X.A) (hg:Gl X x) (ha:PA X (e::es) t) (hdb:(x==("__debug__" : Str))=false:=by decide)
  (he:starEach (e::es) X.env=(false,eval e X.env)::starEach es X.env:=by rfl) (hpl:(backTo pos (starEach es X.env)).any (·.1)=false:=by rfl):PE X (.Call (.Name x p) (e::es) [] pos) (tMak C names [dv] t):=by
 obtain ⟨f,fd,ps,u,mk,F,_,b,ru,m⟩:=M.ex
 with_unfolding_all
  intro ai s σ H Q I h
  refine wpAny_Call_Name_kw (zcm I hg m ?_ hdb)
  refine W.callWith_K (h₀:=X.bf) I.ok.mod.kin mk.kp (thn (ha pos ai s σ H _ I h) fun us s1 ⟨vs,H1,I1,r,l,q⟩=>⟨I1.kIn,?_⟩) he hpl
  exact zkw mk F hr (b ru) (.cons ru .nil) zaT I1 r (ziZ M.cl M.no l q)
end
structure Own (K:W.Frag) (C:Addr):Prop where
 cl:Cls K C
 ha:W.findIn K (.ref C) "__class__" = some (some (.builtin "object.__class__"))
 hn:W.specialIn K (.builtin "object.__class__") "__get__" = some (some (.builtin "getset_descriptor.__get__"))
 htk:W.takesIn K (.builtin "object.__class__")=some true
 hm:W.mroIn K C (.type "object")=some true
theorem Own.ty {K:W.Frag} {C a dx:Addr} {H:Hp} {fs:List (Str × V)} (o:Own K C) (e:H a=some (.ins C dx fs)):TyOf K H (.ref a) (.ref C):=.ins e o.cl o.ha o.hn o.htk o.hm
structure Mfn (K:W.Frag) (x qual:Str) (st:Stmt) (ps:List Str) (f:Addr) (fd:FuncData):Prop where
 F:Fun K x qual st f fd
 b:za2 K fd ps []
structure MfnE (K:W.Frag) (x qual:Str) (st:Stmt) (ps:List Str) (f:Addr) (fd:FuncData) (u:Value):Prop where
 F:FunE K x qual st f fd u
 b:za2 K fd ps []
 bd:za2 K fd ps [u]
theorem MfnE.mak {P:Program} {w:World} {K:W.Frag} {mg:Str->Option Value} {bf:Heap} {x qual cn:Str} {st:Stmt} {ps names:List Str} {f C:Addr} {fd:FuncData} {u:Value} {k:Nat} {dv:V}
  (D:MfnE K x qual st ps f fd u) (G:FnOk P w K mg bf CX0 k f fd ps (zkQ K names)) (cl:Cls K C) (no:∀f,f∈names->zal K C f) (mk:Mk K C f) (m:mg cn=some (.ref C)) (r:RelV dv u):Mak P w K mg bf cn C k names dv:=
 ⟨cl,no,f,fd,ps,u,mk,G,D.b,fun _=>D.bd,r,m⟩
def zti (K:W.Frag) (ta tv:TE) (f:Str):TS:=fun D σ H=>tv σ H fun y H1=>ta σ H1 fun x H2=>∃a C dx fs,x=.ref a/\H2 a=some (.ins C dx fs)/\Cls K C/\zal K C f/\fs.length<1000/\
 ∀H3,But a H2 H3->H3 a=some (.ins C dx (putF f y fs))->D.nx σ H3
section
variable {X:Cx} {o value:Expr} {f:Str} {pos pos':Pos} {ta tv:TE}
theorem zaO (ha:PE X o ta) (hv:PE X value tv) (hs:swapsWith value (some (.Attribute o f pos')) pos.line X.env=pure false:=by rfl):PS X (.Assign [.Attribute o f pos'] value pos) (zti X.K ta tv f):=by
 with_unfolding_all
  intro ai s σ H D I h
  refine plainObj_wpAny_Assign_Attribute (thn (hv ai s σ H _ I h) fun u s1 ⟨y,H1,I1,ry,q⟩=>thn (ha ai s1 σ H1 _ I1 q) fun ov s2 ⟨x,H2,I2,rx,a,C,dx,fs,ex,ea,c,n,l,q2⟩=>?_) hs
  subst ex
  obtain rfl:ov=Value.ref a:=rx
  exact zlm I2 ea c n l ry fun s3 I3=>⟨σ,_,I3,q2 _ (But.upd a H2 _) zam⟩
end
section
variable {X:Cx} {k:Nat} {ps:List Str} {sp:Sp} {x:Str} {p pos:Pos}
theorem zqJ (C:Cal X.prog X.w X.K X.mg X.bf x k ps sp) (hr:Room k X.A) (hg:Gl X x) (hdb:(x==("__debug__" : Str))=false:=by decide):PE X (.Call (.Name x p) [] [] pos) (zmh sp [] E0 tNil):=by
 obtain ⟨f,fd,G,b,m,kp⟩:=C.ex
 exact zom G hr hg m kp b .nil zaT hdb
end
theorem zb7:∀ {xs:List V},xs.all zbO=true->eqVs xs xs=true
 | [],_=>rfl
 | x::xs,h=>by
   rw [all_cons,Bool.and_eq_true] at h
   show (eqV x x&&eqVs xs xs)=true
   rw [zkJ h.1,zb7 h.2]
   rfl
theorem zjR {lo:Int} {n:Nat} {js:List Nat} {tc:TT} {te:TE} {σ:St} {H1:Hp} {Q:VK} (R:V->Prop)
  (ht:∀i Hh (Q':Bool->Hp->Prop),i<n->Q' true Hh->tc (some (.int (lo+i))::caps σ js) Hh Q')
  (he:∀i Hh (Q':VK),i<n->Same H1 Hh->(∀v Hh',Same Hh Hh'->R v->Q' v Hh')->te (some (.int (lo+i))::caps σ js) Hh Q')
  (hz:n<sizeLine) (q:∀D H2 vs,Same H1 H2->H1 D=none->H2 D=some (.lst vs)->vs.length=n->(∀v,v∈vs->R v)->Q (.ref D) H2):
  zfs (Itr lo n) js tc te σ H1 Q:=by
 intro D H2 s2 hD h2
 refine ⟨fun i m acc H3=>m=n-i/\i<=n/\acc.length=i/\(∀v,v∈acc->R v)/\Same H1 H3/\H3 D=some (.lst acc),⟨_,rfl,Nat.zero_le _,rfl,fun v hv=>(not_mem_nil hv).elim,s2,h2⟩,?_⟩
 rintro i m acc H3 ⟨rfl,hi,ea,hR,s3,h3⟩
 refine ⟨h3,by omega,?_⟩
 by_cases hlt:i<n
 ·refine .inr ⟨hlt,fun y H4 z=>?_⟩
  obtain ⟨e,ey⟩:=z
  subst e ey
  refine ht i _ _ hlt (iteT ?_)
  refine he i _ _ hlt s3 fun v H6 s6 hv=>⟨s6 _ _ h3,fun H7 k7 h7=>⟨n-(i+1),by omega,rfl,hlt,by rw [length_append,ea];rfl,fun x hx=>?_,fun b o hb=>?_,h7⟩⟩
  ·rcases mem_append.mp hx with hx | hx
   ·exact hR x hx
   ·rw [mem_singleton.mp hx]
    exact hv
  ·exact k7 b o (fun z=>by rw [z,hD] at hb;cases hb) (s6 b o (s3 b o hb))
 ·have e:i=n:=by omega
  subst e
  exact .inl ⟨Nat.le_refl _,q D _ acc s3 hD h3 ea hR⟩
end
end L2
namespace L2
open PySem PySem.Spec PyProof.Rows
section
section
variable {κ:Type} [DecidableEq κ]
def metK (val:Nat -> κ):Nat->List κ
 | 0=>[]
 | i+1=>if val i∈metK val i then metK val i else metK val i++[val i]
theorem zjS (val:Nat -> κ):∀i,(metK val i).length<=i
 | 0=>Nat.le_refl _
 | i+1=>by
   have ih:=zjS val i
   show (if val i∈metK val i then metK val i else metK val i++[val i]).length<=i+1
   split
   ·omega
   ·rw [length_append]
    show _+1<=i+1
    omega
theorem zen (val:Nat -> κ):∀i k,k∈metK val i↔∃j,j<i/\val j=k
 | 0,k=>⟨fun h=>(not_mem_nil h).elim,fun ⟨j,h,_⟩=>absurd h (Nat.not_lt_zero j)⟩
 | i+1,k=>by
   have ih:=zen val i
   show k∈(if val i∈metK val i then metK val i else metK val i++[val i])↔_
   constructor
   ·intro h
    split at h
    ·obtain ⟨j,a,b⟩:=(ih k).mp h
     exact ⟨j,by omega,b⟩
    ·rcases mem_append.mp h with h | h
     ·obtain ⟨j,a,b⟩:=(ih k).mp h
      exact ⟨j,by omega,b⟩
     ·exact ⟨i,Nat.lt_succ_self i,(mem_singleton.mp h).symm⟩
   ·rintro ⟨j,a,b⟩
    by_cases e:j=i
    ·subst e
     split
     ·rename_i c
      rw [<-b]
      exact c
     ·exact mem_append.mpr (.inr (by rw [b];exact mem_singleton.mpr rfl))
    ·have m:=(ih k).mpr ⟨j,by omega,b⟩
     split
     ·exact m
     ·exact mem_append.mpr (.inl m)
theorem zkR (val:Nat -> κ):∀i,(∀a b,a<i->b<i->val a=val b->a=b)->(metK val i).length=i
 | 0,_=>rfl
 | i+1,h=>by
   have ih:=zkR val i fun a b x y=>h a b (by omega) (by omega)
   show (if val i∈metK val i then metK val i else metK val i++[val i]).length=i+1
   rw [if_neg fun c=>?_,length_append,ih]
   ·rfl
   ·obtain ⟨j,a,b⟩:=(zen val i (val i)).mp c
    have:=h j i (by omega) (by omega) b
    omega
theorem zi0 (val:Nat -> κ) {a b:Nat} (ab:a<b) (e:val a=val b):∀i,b<i->(metK val i).length<i
 | 0,h=>absurd h (Nat.not_lt_zero b)
 | i+1,h=>by
   show (if val i∈metK val i then metK val i else metK val i++[val i]).length<i+1
   by_cases eb:b=i
   ·subst eb
    rw [if_pos ((zen val b (val b)).mpr ⟨a,ab,e⟩)]
    have:=zjS val b
    omega
   ·have ih:=zi0 val ab e i (by omega)
    split
    ·omega
    ·rw [length_append]
     show _+1<i+1
     omega
abbrev nset (led:Bool):Obj := { cls:=.type "set",dict:=none,data:=.set #[] 0 (.fresh 0 0 led) }
variable {prog:Program} {w:World} {knd:KeyKind prog w κ}
theorem SetOf.conv {h:Heap} {a:Addr} {S S' : κ->Bool} {n n':Nat} (hS:h.SetOf knd a S n) (e:∀k,S k=S' k) (en:n=n'):h.SetOf knd a S' n':=by
 cases (show S=S' from funext e)
 cases en
 exact hS
theorem zoS {A:Around} {R:Result->Shared->Prop} {it:Addr} {fp wr:List Addr} {G:Array GenState->Array GenState->Prop} {n:Nat} {P:Nat->Value->Prop} {St:Nat->Shared->Prop}
  (W:WalksS prog w A.in1 it fp wr G n P St) (d:Addr) (hd:d∉fp) (val:Nat -> κ) (hv:∀i v,P i v->knd.is (val i) v=true/\v.scannable=true) (hb:n+1<scanBound):∀(k i:Nat) (s:Shared),n-i=k->i<=n->St i s->
    s.heap.SetOf knd d (fun y=>decide (y∈metK val i)) (metK val i).length->
    (∀s',Moved (d::wr) G s s'->s'.heap.SetOf knd d (fun y=>decide (y∈metK val n)) (metK val n).length->R (.ok (.ret .none)) s')->
    codeAny (model prog w) A (.builtin "set.update.loop" ⟨[.ref d,.ref it],[]⟩) R s:=by
 have dw:d∉wr:=fun z=>hd (W.sub _ z)
 have sb:∀b∈wr,b∈d::wr:=fun b z=>mem_cons_of_mem _ z
 intro k
 induction k with
 | zero=>
   intro i s e1 e2 st hS q
   obtain rfl:i=n:=by omega
   refine codeAny_builtin PyProof.Rows.F.entry_set_update_loop ?_
   rw [Around.under_plainId PyProof.Rows.F.plain_set_update_loop _]
   refine wpAny_bind (m:=pyNext (.ref it)) (W.done s _ _ st fun s' mv=>?_)
   refine wpAny_pure (a:=Fin.done (.ret Value.none)) (q s' (mv.mono sb) ?_)
   obtain ⟨o,es,ep,t,ho,rest⟩:=hS
   exact ⟨o,es,ep,t,mv.heap d _ dw ho,rest⟩
 | succ k ih=>
   intro i s e1 e2 st hS q
   have lt:i<n:=by omega
   refine codeAny_builtin PyProof.Rows.F.entry_set_update_loop ?_
   rw [Around.under_plainId PyProof.Rows.F.plain_set_update_loop _]
   refine wpAny_bind (m:=pyNext (.ref it)) (W.item i s _ _ lt st fun v s' hp st' mv=>?_)
   obtain ⟨hk,hs⟩:=hv i v hp
   have hS':s'.heap.SetOf knd d (fun y=>decide (y∈metK val i)) (metK val i).length:=by
    obtain ⟨o,es,ep,tb,ho,rest⟩:=hS
    exact ⟨o,es,ep,tb,mv.heap d _ dw ho,rest⟩
   refine wpAny_bind (m:=holding [v] (setAdd d v)) (wpAny_holding ?_)
   unfold setAdd
   refine wpAny_holding (wpAny_bind (knd.pyHash (k:=val i) hk ?_))
   have room:(metK val i).length+1<scanBound:=by
    have:=zjS val i
    omega
   refine wpAny_setAddHashed_of (knd:=knd) (s := { s' with toks:=s'.toks+1 }) hk hs hS' room fun h' z2 hS2=>?_
   have hS3:h'.SetOf knd d (fun y=>decide (y∈metK val (i+1))) (metK val (i+1)).length:=by
    refine SetOf.conv hS2 (fun y=>?_) ?_
    ·have:(y∈metK val (i+1))↔(y∈metK val i\/y=val i):=by
      rw [zen,zen]
      constructor
      ·rintro ⟨j,a,b⟩
       by_cases c:j=i
       ·exact .inr (by rw [<-b,c])
       ·exact .inl ⟨j,by omega,b⟩
      ·rintro (⟨j,a,b⟩ | c)
       ·exact ⟨j,by omega,b⟩
       ·exact ⟨i,Nat.lt_succ_self i,c.symm⟩
     rw [<-Bool.decide_or]
     exact decide_eq_decide.mpr this.symm
    ·show _=(if val i∈metK val i then metK val i else metK val i++[val i]).length
     by_cases c:val i∈metK val i
     ·simp [c]
     ·simp [c]
   refine wpAny_pure ⟨plainId_quiet PyProof.Rows.F.plain_set_update_loop _,ih (i+1) _ (by omega) lt (W.frame _ s' _ _ st' (Nat.le_succ _) fun b hb' o e=>?_) hS3 fun s'' mv2 hS4=>?_⟩
   ·rw [z2.2 b fun z=>hd (by rw [<-z];exact hb')]
    exact e
   ·refine q s'' (Moved.trans W.gtrans ((mv.mono sb).then_heap (Nat.le_succ _) fun b o hb' e=>?_) mv2) hS4
    rw [z2.2 b fun z=>hb' (by rw [z];exact mem_cons_self)]
    exact e
theorem znp {A:Around} {E:Value->Shared->Prop} {s:Shared} {l:Addr} {items:Array Value} {Q:Value->Shared->Prop} (hh:A.handled=none) (hl:s.heap.IsList l items) (val:Nat -> κ) (hv:∀i v,items[i]?=some v->knd.is (val i) v=true/\v.scannable=true)
  (hb:items.size+1<scanBound) (h:∀(h':Heap) (tk:Nat),h'.SetOf knd s.heap.objs.size (fun y=>decide (y∈metK val items.size)) (metK val items.size).length->(∀b o,b<s.heap.objs.size->s.heap.get? b=some o->h'.get? b=some o)->Q (.ref s.heap.objs.size) { s with heap:=h',toks:=tk }):
  wpAny (model prog w) A (call (.type "set") [.ref l]) Q E s:=by
 have cs:=PySem.F.called_set
 obtain ⟨c,tl,hmro⟩:=cs.mro
 have hmade:=cs.made
 have hsub:=cs.sub
 refine wpAny_call (codeAny_of_tree ?_)
 refine wpAny_pure (a:=Fin.again _) ⟨Code.quiet_builtin _ (by decide +kernel),codeAny_builtin PySem.F.entry_type_call ?_⟩
 rw [Around.under_plain (weight_type_call_type "set" [.ref l] []) rfl]
 have h1:=cs.notType
 have h2:=cs.canCreate
 have hct:=PySem.F.typeCall_set_1 (.ref l)
 repeat (any_goals (first | assumption | wp_step))
 refine codeAny_mono (code_set_new_1 (.ref l) (E:=E) (Q₁:=fun obj s1=>∃led:Bool,obj=.ref s.heap.objs.size/\s1 = { s with heap:=s.heap.push (nset led) }) fun led=>⟨led,rfl,rfl⟩) fun r s1 hr=>?_
 match r,hr with
 | .error e,hr=>exact hr
 | .ok (.ret obj),hr=>
   obtain ⟨led,rfl,rfl⟩:=hr
   have hS:(s.heap.push (nset led)).get? s.heap.objs.size=some (nset led):=Heap.get?_push_size _ rfl
   have hT:Shared.TypeIs { s with heap:=s.heap.push (nset led) } (.ref s.heap.objs.size) "set" := ⟨_,hS,rfl⟩
   have hli:=cs.init.lookup
   have hbi:=cs.init.bind (.ref s.heap.objs.size)
   repeat (any_goals (first | assumption | wp_step))
   refine codeAny_mono (codeAny_call_builtin (R:=wants (fun r s2=>r=.none/\∃h' tk,s2 = { s with heap:=h',toks:=tk }/\h'.SetOf knd s.heap.objs.size (fun y=>decide (y∈metK val items.size)) (metK val items.size).length/\(∀b o,b<s.heap.objs.size->s.heap.get? b=some o->h'.get? b=some o)) E) cs.init.plain PySem.F.entry_set_init (check_set_init_1 hT ?_)) fun r2 s2 hr2=>?_
   ·obtain ⟨ol,hol,hcl,nl,hdl⟩:=hl
    obtain ⟨ocls,odict,odata,oslots⟩:=ol
    dsimp only at hcl hdl
    subst hcl hdl
    have hol':(s.heap.push (nset led)).get? l=some { cls:=.type "list",dict:=odict,data:=.seq items nl,slots:=oslots }:=Heap.get?_push_of_some _ hol
    have hsls:=PySem.F.sub_list_set
    have hslf:=PySem.F.sub_list_frozenset
    have hne:(Value.type "list" == Value.type "dict")=false:=by decide
    have hl1:(s.heap.push (nset led)).IsList l items:=⟨_,hol',rfl,nl,rfl⟩
    unfold Builtin.«set.__init__» noKeywords Builtin.Frozenset.updateFrom
    generalize hPI:pyIter=PI
    wp_walk
    subst hPI
    refine wpAny_pyIter_list hl1 (wpAny_bind (wpAny_runValue ?_))
    have lS:l<s.heap.objs.size:=Heap.lt_size hol
    have hh3:A.in1.in1.in1.handled=none:=by simp [hh]
    have zz:(s.heap.push (nset led)).objs.size=s.heap.objs.size+1:=Heap.size_push ..
    refine zoS (knd:=knd) ((Walks.list hh3 _ l (by rw [zz];exact Nat.ne_of_lt (Nat.lt_succ_of_lt lS)) items).toS) s.heap.objs.size (by
     rw [zz]
     simp only [mem_cons,not_mem_nil,or_false,not_or]
     exact ⟨Nat.ne_of_lt (Nat.lt_succ_self _),Nat.ne_of_gt lS⟩) val hv hb (items.size-0) 0 _ (by omega) (Nat.zero_le _) ⟨⟨_,Heap.get?_push_size _ rfl,rfl,rfl⟩,(hl1.push _)⟩ ?S0 ?R0
    case S0=>
     refine SetOf.conv ((setObjOf_fresh (knd:=knd) led).setOf (Heap.get?_push_of_some _ hS) (by unfold scanBound;omega)) (fun y=>?_) rfl
     exact (decide_eq_false fun z=>not_mem_nil z).symm
    case R0=>
     intro s' hm hS'
     obtain ⟨h',g',d',tk',os'⟩:=s'
     cases (show g'=s.gens from hm.gens)
     cases (show d'=s.drawn from hm.drawn)
     cases (show os'=s.os from hm.os)
     refine wpAny_pure (wpAny_pure (a:=Fin.done (.ret Value.none)) ⟨rfl,h',tk',rfl,hS',fun b o hb e=>?_⟩)
     refine hm.heap b o ?_ (Heap.get?_push_of_some _ (Heap.get?_push_of_some _ e))
     rw [zz]
     simp only [mem_cons,not_mem_nil,or_false,not_or]
     exact ⟨Nat.ne_of_lt hb,Nat.ne_of_lt (Nat.lt_succ_of_lt hb)⟩
   ·match r2,hr2 with
    | .error e,hr2=>exact hr2
    | .ok (.ret r),hr2=>
      obtain ⟨rfl,h',tk,rfl,hS',hk'⟩:=hr2
      repeat (any_goals (first | assumption | wp_step))
      exact h _ _ hS' hk'
end
end
end L2
namespace L2
open PySem PySem.Spec PyProof.Rows
section
theorem zsj:bootBuiltins "set" = some (.type "set"):=by decide +kernel
def ztj (K:W.Frag) (ta:TA):TE:=fun σ H Q=>ta σ H fun vs H1=>∃(l:Addr) (zs:List Str),vs=[.ref l]/\SqL K H1 l (zs.map V.str)/\zs.length<=100/\Q (.int (metK (fun i=>zs.getD i Str.empty) zs.length).length) H1
section
variable {X:Cx} {a:Expr} {ta:TA} {p p2 pos pos2:Pos}
theorem znq (hc:X.calm=true) (hgl:Gl X "len") (hml:X.mg "len" = none) (hg:Gl X "set") (hm:X.mg "set" = none) (ha:PA X [a] ta)
  (hs:starEach [a] X.env=[(false,eval a X.env)]:=by rfl)
  (hs2:starEach [Expr.Call (.Name "set" p2) [a] [] pos2] X.env=[(false,eval (.Call (.Name "set" p2) [a] [] pos2) X.env)]:=by rfl):
  PE X (.Call (.Name "len" p) [.Call (.Name "set" p2) [a] [] pos2] [] pos) (ztj X.K ta):=by
 with_unfolding_all
  intro ai s σ H Q I h
  refine Call_ (zfr I hgl hml boot_len (PyProof.Rows.callWith_builtin1 ?_ hs2 rfl))
  rw [hs2]
  refine Calls.spliced_cons ?_
  refine Call_ (zfr I hg hm zsj (PyProof.Rows.callWith_type1 (thn (ha pos2 ai s σ H _ I h) fun us s1 ⟨vs,H1,I1,r1,q1⟩=>?_) hs rfl))
  obtain ⟨l,zs,rfl,hq,hz,q⟩:=q1
  obtain ⟨u,rfl,ru⟩:=zeE r1
  cases (show u=Value.ref l from ru)
  obtain ⟨its,rv,pl,_⟩:=I1.list hq
  have ln:its.length=zs.length:=by
   have:=rv.length
   rw [length_map] at this
   exact this.symm
  have sb:(102:Nat)<scanBound:=by decide
  refine znp (knd:=strKind X.prog X.w) (I1.ok.hd hc) pl.isList (fun i=>zs.getD i Str.empty) (fun i v hi=>?_) (by rw [size_toArray];omega) fun h' tk hS kp=>?_
  ·have hi':its[i]?=some v:=by simpa using hi
   have hlt:i<zs.length:=by
    have:=(List.getElem?_eq_some_iff.mp hi').1
    omega
   have ez:zs[i]?=some zs[i]:=getElem?_eq_getElem hlt
   have:=zeQ rv (show (zs.map V.str)[i]?=some (V.str zs[i]) by rw [getElem?_map,ez];rfl) hi'
   obtain ⟨t,rfl⟩:=this
   have eg:zs.getD i Str.empty=zs[i]:=by rw [getD_eq_getElem?_getD,ez];rfl
   rw [eg]
   exact ⟨strKind_is _ _ _ _,rfl⟩
  refine Calls.spliced_nil ?_
  have I2:Inv X ai σ H1 { s1 with heap:=h',toks:=tk }:=I1.kept fun b o e=>kp b o (Heap.lt_size e) e
  obtain ⟨o,es,ep,t,ho,hex,hd,rest⟩:=hS
  have hf':=rest.2.2.2.1
  have en:es.size=(metK (fun i=>zs.getD i Str.empty) zs.length).length:=by
   have e:=rest.2.2.2.2
   rw [show its.toArray.size=zs.length by rw [size_toArray,ln]] at e
   exact e
  have h63:(es.size:Int)<2 ^ 63:=by
   have hb:=rest.2.2.1
   have:scanBound<=1000000000:=by decide
   omega
  refine call_len_set (a:=s1.heap.objs.size) ho hex hd hf' h63 ⟨.int _,H1,I2.tok _,⟨_,by rw [en]⟩,q⟩
end
def zfY (CX:CXT) (X:Cx) (E:XK) (σ:St):Prop:=∀(ai:List (Addr × Obj)) (H:Hp) (s:Shared) (e:Value) (s':Shared),Inv X ai σ H s->CX X.stack H s E e s'->X.xe e s'
theorem zcx.at {CX:CXT} {X:Cx} {E:XK} (h:zcx CX X E) (σ:St):zfY CX X E σ:=fun ai H s e s' I c=>h ai σ H s e s' I c
theorem zpF {X:Cx} {ai:List (Addr × Obj)} {σ:St} {W:XK}:zfY (CX1 X.prog X.w) (zei X ai σ W) W σ:=fun _ _ _ _ _ I c=>zlv I c
section
variable {X:Cx} {CX:CXT} {k:Nat} {f C:Addr} {fd:FuncData} {ps:List Str} {sp spi:Sp} {E:XK} {x m:Str} {p pos apos:Pos} {e o:Expr} {es:List Expr} {ta:TE} {t:TA}
theorem zi1 {ai:List (Addr × Obj)} {σ:St} {H:Hp} {s:Shared} {Q:VK} {us:List Value} {vs:List V} (M:Mk X.K C f) (F:FnOk X.prog X.w X.K X.mg X.bf CX k f fd ps sp) (hr:Room (k+1) X.A) (hb:za2 X.K fd ps [])
  (hx:zfY CX X E σ) (I:Inv X ai σ H s) (r:Vals vs us)
  (h:∀x dx,H x=none->H dx=none->dx≠x->sp (.ref x::vs) (upd (upd H dx (.own x)) x (.ins C dx [])) (fun v H2=>v=.non/\Q (.ref x) H2) E):
  wpAny (model X.prog X.w) X.A (call (.ref C) us) (EP X ai σ Q) X.xe s:=by
 have hq:=h (s.heap.objs.size+1) s.heap.objs.size (I.hok.fresh (Nat.le_succ _)) (I.hok.fresh (Nat.le_refl _)) (Nat.ne_of_lt (Nat.lt_succ_self _))
 have I2:=Inv.made (C:=C) I
 have r2:Vals (V.ref (s.heap.objs.size+1)::vs) (Value.ref (s.heap.objs.size+1)::us):=.cons rfl r
 have hl:(Value.ref (s.heap.objs.size+1)::us++[]).length=ps.length:=by
  have e:=r2.length
  rw [F.len _ _ _ _ hq] at e
  rw [append_nil]
  exact e.symm
 have hbb:=hb _ (Value.ref (s.heap.objs.size+1)::us) I2.kIn hl
 rw [append_nil] at hbb
 refine wpAny_call (zku (f:=f) I.kIn M.makes M.init (beq_iff_eq.mp M.fn) (codeAny_mono (F.run _ X.stack _ _ ⟨Value.ref (s.heap.objs.size+1)::us,[]⟩ (Value.ref (s.heap.objs.size+1)::us) _ _ E (hr.make C us [])
  (I2.env0.make C us []) hbb r2 hq) fun r s' hq'=>?_))
 match r,hq' with
 | .error e,hq'=>exact hx ai _ _ e s' I2 hq'
 | .ok (.ret u),hq'=>
   obtain ⟨v,H',I3,rv,ev,q3⟩:=I2.after hq'
   subst ev
   exact ⟨rv,⟨V.ref (s.heap.objs.size+1),H',I3,rfl,q3⟩⟩
theorem zqK {ai:List (Addr × Obj)} {σ:St} {H:Hp} {s:Shared} {Q:VK} {us:List Value} {vs:List V} (F:FnOk X.prog X.w X.K X.mg X.bf CX k f fd ps sp) (hr:Room k X.A) (hb:za2 X.K fd ps []) (hx:zfY CX X E σ)
  (I:Inv X ai σ H s) (r:Vals vs us) (h:sp vs H Q E):wpAny (model X.prog X.w) X.A (call (.ref f) us) (EP X ai σ Q) X.xe s:=by
 have hl:(us++[]).length=ps.length:=by rw [append_nil,<-r.length];exact F.len _ _ _ _ h
 have hbb:=hb s us I.kIn hl
 rw [append_nil] at hbb
 refine wpAny_call (codeAny_mono (F.run X.A X.stack s H ⟨us,[]⟩ us vs Q E hr I.env0 hbb r h) fun r s' hq=>?_)
 match r,hq with
 | .error e,hq=>exact hx ai H s e s' I hq
 | .ok (.ret u),hq=>exact I.after hq
structure MakG (CX:CXT) (P:Program) (w:World) (K:W.Frag) (mg:Str->Option Value) (bf:Heap) (x:Str) (C:Addr) (k:Nat) (sp:Sp):Prop where
 ex:∃f fd ps spi,Mk K C f/\FnOk P w K mg bf CX k f fd ps spi/\za2 K fd ps []/\mg x=some (.ref C)/\
  ∀vs H Q E,sp vs H Q E->∀y dx,H y=none->H dx=none->dx≠y->spi (.ref y::vs) (upd (upd H dx (.own y)) y (.ins C dx [])) (fun v H2=>v=.non/\Q (.ref y) H2) E
def zsk (sp:Sp) (E:XK) (t:TA):TE:=fun σ H Q=>t σ H fun vs H1=>sp vs H1 Q E
theorem zgA (M:MakG CX X.prog X.w X.K X.mg X.bf x C k sp) (hr:Room (k+1) X.A) (hg:Gl X x) (hx:zcx CX X E) (ha:PA X (e::es) t) (hdb:(x==("__debug__" : Str))=false:=by decide)
  (he:starEach (e::es) X.env=(false,eval e X.env)::starEach es X.env:=by rfl) (hpl:(backTo pos (starEach es X.env)).any (·.1)=false:=by rfl):PE X (.Call (.Name x p) (e::es) [] pos) (zsk sp E t):=by
 obtain ⟨f,fd,ps,spi,mk,F,b,m,im⟩:=M.ex
 with_unfolding_all
  intro ai s σ H Q I h
  refine wpAny_Call_Name_kw (zcm I hg m ?_ hdb)
  refine W.callWith_K (h₀:=X.bf) I.ok.mod.kin mk.kp (thn (ha pos ai s σ H _ I h) fun us s1 ⟨vs,H1,I1,r,q⟩=>⟨I1.kIn,?_⟩) he hpl
  exact zi1 mk F hr b (hx.at σ) I1 r (im _ _ _ _ q)
theorem zqL {ai:List (Addr × Obj)} {σ:St} {W:XK} (M:MakG (CX1 X.prog X.w) X.prog X.w X.K X.mg X.bf x C k sp) (hr:Room (k+1) X.A) (hg:Gl X x) (ha:PA (zei X ai σ W) (e::es) t) (hdb:(x==("__debug__" : Str))=false:=by decide)
  (he:starEach (e::es) X.env=(false,eval e X.env)::starEach es X.env:=by rfl) (hpl:(backTo pos (starEach es X.env)).any (·.1)=false:=by rfl):PE1 (zei X ai σ W) σ (.Call (.Name x p) (e::es) [] pos) (zsk sp W t):=by
 obtain ⟨f,fd,ps,spi,mk,F,b,m,im⟩:=M.ex
 with_unfolding_all
  intro pins' s H Q I h
  refine wpAny_Call_Name_kw (zcm I hg m ?_ hdb)
  refine PySem.W.callWith_K (h₀:=X.bf) I.ok.mod.kin mk.kp (thn (ha pos pins' s σ H _ I h) fun us s1 ⟨vs,H1,I1,r,q⟩=>⟨I1.kIn,?_⟩) he hpl
  exact zi1 (X:=zei X ai σ W) mk F hr b zpF I1 r (im _ _ _ _ q)
theorem zhN {ai:List (Addr × Obj)} {σ:St} {W:XK} {pl:Sem Bool} (he:PE (zei X ai σ W) o ta) (hr:Room k X.A) (ha:PA (zei X ai σ W) (e::es) t)
  (hst:starEach (e::es) X.env=(false,eval e X.env)::starEach es X.env:=by rfl) (hpl:(backTo pos (starEach es X.env)).any (·.1)=false:=by rfl)
  (ht:eval (.Call (.Attribute o m apos) (e::es) [] pos) X.env=(do
    let ov <-eval o X.env
    standAt apos.atName
    let (f,first) <-holding [ov] (getMethod ov m pl)
    callWith pos f first (backTo pos (starEach (e::es) X.env)) (backToKw pos (keywordEach [] X.env))):=by rfl):
  PE1 (zei X ai σ W) σ (.Call (.Attribute o m apos) (e::es) [] pos) (tMth X.prog X.w X.K X.mg X.bf (CX1 X.prog X.w) k m W ta t):=by
 with_unfolding_all
  intro pins' s H Q I h
  refine PySem.W.methodCall_KW (pl:=pl) (thn (he pins' s σ H _ I h) fun u s1 ⟨x,H1,I1,rx,a,C,dx,fs,sp,ex,ea,l,M,q⟩=>?_) ht
  subst ex
  obtain rfl:u=Value.ref a:=rx
  obtain ⟨f,fd,ps,hm,F,hb⟩:=M.ex
  refine zeF I1 ea M.cl hm l ?_
  refine PySem.W.callWith_K (first:=[.ref a]) (h₀:=X.bf) I.ok.mod.kin hm.kp (thn (ha pos pins' s1 σ H1 _ I1 q) fun us s2 ⟨vs,H2,I2,r,q2⟩=>⟨I2.kIn,?_⟩) hst hpl
  exact zqK (X:=zei X ai σ W) (us:=.ref a::us) (vs:=.ref a::vs) F hr hb zpF I2 (.cons rfl r) q2
end
end
end L2
namespace L2
open PySem PySem.Spec PyProof.Rows
section
section
variable {X:Cx} {CX:CXT} {k:Nat} {E:XK} {m:Str} {pos apos:Pos} {e o:Expr} {es:List Expr} {ta:TE} {t:TA}
theorem zkS {P:Program} {w:World} {K:W.Frag} {mg:Str->Option Value} {bf:Heap} {pl:Sem Bool} (h1:X.prog=P) (h2:X.w=w) (h3:X.K=K) (h4:X.mg=mg) (h5:X.bf=bf) (he:PE X o ta) (hr:Room k X.A) (hx:zcx CX X E)
  (ht:eval (.Call (.Attribute o m apos) [] [] pos) X.env=(do
    let ov <-eval o X.env
    standAt apos.atName
    let (f,first) <-holding [ov] (getMethod ov m pl)
    callWith pos f first (backTo pos (starEach [] X.env)) (backToKw pos (keywordEach [] X.env))):=by rfl):
  PE X (.Call (.Attribute o m apos) [] [] pos) (tMth P w K mg bf CX k m E ta tNil):=by
 subst h1 h2 h3 h4 h5
 exact zaG he hr hx ht
theorem zbP {K:W.Frag} {f:Str} (h3:X.K=K) (he:PE X o ta) (hb:attributeBase o f X.env (eval o X.env)=eval o X.env):PE X (.Attribute o f pos) (tFld K ta f):=by
 subst h3
 exact zap he hb
end
open PySem.SeqAt in
theorem zjT {A:Around} {s:Shared} {d:Addr} {es:Array DictEntry} {ep:Nat} {dd:Option Addr} {sl:Array (Option Value)} (b:Str) (u:Tok) (ho:s.heap.get? d=some { cls:=.type "dict",dict:=dd,data:=.dict es ep,slots:=sl }) (hu:A.units<cLine):RcAt A s (.str b u) (.ref d) false:=fun prog w E Q h=>by
 have m1:Meets (Builtin.«str.__eq__» ⟨[.str b u,.ref d],[]⟩) (fun _ R s=>s.heap.get? d=some { cls:=.type "dict",dict:=dd,data:=.dict es ep,slots:=sl }/\R (.ok (.ret .notImplemented)) s):=
  .of_wp fun prog w A R s h=>by
   obtain ⟨hp,g,d',tk,os⟩:=s
   obtain ⟨hl,h⟩:=h
   wp_walk using AutoSeq1.wpAny_loadPart' hl,wpAny_load hl
   exact ⟨_,rfl,h⟩
 have f1:isSubtype (.type "str") (.type "dict")=pure false:=by rw [isSubtype_type];kernel_rfl
 have f2:isSubtype (.type "dict") (.type "str")=pure false:=by rw [isSubtype_type];kernel_rfl
 have m2:Meets (Builtin.«dict.__eq__» ⟨[.ref d,.str b u],[]⟩) (fun _ R s=>s.heap.get? d=some { cls:=.type "dict",dict:=dd,data:=.dict es ep,slots:=sl }/\R (.ok (.ret .notImplemented)) s):=
  .of_wp fun prog w A R s h=>by
   obtain ⟨hp,g,d',tk,os⟩:=s
   obtain ⟨hl,h⟩:=h
   wp_walk using AutoSeq1.wpAny_loadPart' hl,wpAny_load hl
   exact ⟨_,rfl,h⟩
 exact rc_eq_decline_or (k:=false) (typeIs_str s b u) ⟨_,ho,rfl⟩ (by decide) f2 PySem.F.slot_str_eq PySem.F.slot_dict_eq_refl
  (fun _ hq=>call_meets PySem.F.slot_str_eq (typeIs_str s b u) PySem.F.entry_str_eq (PySem.F.args_str_eq_2 _ _) m1 ⟨ho,hq⟩)
  (fun _ hq=>call_meets PySem.F.slot_dict_eq_refl ⟨_,ho,rfl⟩ PySem.F.entry_dict_eq (PySem.F.args_dict_eq_2 _ _) m2 ⟨ho,hq⟩)
  (fun _ hq=>wpAny_of_eq (rfl:isSame (.str b u) (.ref d)=pure false) hq) (.inr hu) h
def rEqS:R2:=fun x y H Q=>∃z,x=.str z/\((∃z',y=.str z'/\Q (.bl (decide (z=z'))) H)\/(y=.non/\Q (.bl false) H)\/(∃b,y=.bl b/\Q (.bl false) H)\/(∃i,y=.int i/\Q (.bl false) H) \/
 ∃p o,y=.ref p/\H p=some o/\((∃xs,o=.tup xs)\/(∃xs,o=.lst xs)\/∃kvs,o=.dK kvs)/\Q (.bl false) H)
theorem zsl {X:Cx} (hu:X.A.units<cLine):OpR X (compareOp .Eq) rEqS:=by
 intro ai s σ H x y v u Q I rx ry h
 obtain ⟨z,rfl,h⟩:=h
 obtain ⟨t,rfl⟩:=rx
 rcases h with ⟨z',rfl,q⟩ | ⟨rfl,q⟩ | ⟨b,rfl,q⟩ | ⟨i,rfl,q⟩ | ⟨p,o,rfl,ho,hk,q⟩
 ·exact zio ai s σ H (.str z) (.str z') _ u Q I ⟨t,rfl⟩ ry ⟨rfl,by
   have:decide (V.str z=V.str z')=decide (z=z'):=by simp
   rw [this]
   exact q⟩
 ·cases (show u=Value.none from ry)
  exact SeqAt.RcAt.str_none z t X.prog X.w X.xe _ ⟨.bl false,H,I,rfl,q⟩
 ·cases (show u=Value.bool b from ry)
  exact SeqAt.RcAt.str_bool z t b X.prog X.w X.xe _ ⟨.bl false,H,I,rfl,q⟩
 ·obtain ⟨t',rfl⟩:=ry
  exact SeqAt.RcAt.str_int z t i t' X.prog X.w X.xe _ ⟨.bl false,H,I,rfl,q⟩
 ·cases (show u=Value.ref p from ry)
  rcases hk with ⟨xs,rfl⟩ | ⟨xs,rfl⟩ | ⟨kvs,rfl⟩
  ·obtain ⟨_,its,_,pl⟩:=(show zaU X.prog X.w H s.heap p (.tup xs) from I.hok p _ ho)
   exact SeqAt.RcAt.str_tuple z t pl hu X.prog X.w X.xe _ ⟨.bl false,H,I,rfl,q⟩
  ·obtain ⟨_,its,n,_,g⟩:=(show zaU X.prog X.w H s.heap p (.lst xs) from I.hok p _ ho)
   exact SeqAt.RcAt.str_list z t ⟨_,g,rfl,n,rfl⟩ hu X.prog X.w X.xe _ ⟨.bl false,H,I,rfl,q⟩
  ·obtain ⟨_,_,vs,_,ob,es,ep,e,⟨c1,c2,c3⟩,hd,_⟩:=(show zaU X.prog X.w H s.heap p (.dK kvs) from I.hok p _ ho)
   obtain ⟨cls,dd,data,sl⟩:=ob
   dsimp only at c1 hd
   subst c1 hd
   exact zjT z t e hu X.prog X.w X.xe _ ⟨.bl false,H,I,rfl,q⟩
end
end L2
namespace L2
open PySem PySem.Spec PyProof.Rows
section
def rIsP (K:W.Frag):List V->Hp->VK->Prop:=fun xs H Q=>∃x t b p cs,xs=[x,.ref p]/\H p=some (.tup cs)/\cs.all zqt=true/\TyX K H x t/\W.kitAny K t (cs.map clsV)=some b/\Q (.bl b) H
theorem zhx {X:Cx} {K:W.Frag} (hK:X.K=K):zcE X (.builtin "isinstance") (rIsP K):=hK▸zmO
end
end L2
namespace L2
open PySem PySem.Spec PyProof.Rows
section
end
end L2
namespace PySem
section
variable {M:Model} {A:Around} {E:Value->Shared->Prop} {s:Shared}
end
end PySem
namespace L2
open PySem PySem.Spec PyProof.Rows
section
structure FliesA (h:Heap) (H:Hp) (low:Nat) (a C T:Addr) (dx:Option Addr) (vs:Array Value):Prop where
 at_:H a=some (XcO a C dx vs)
 tr:vs[1]?=some (.ref T)
 new:low<=T
 free:H T=none
 ne:T≠a
 dict:∀y,dx=some y->∃fs,H y=some (.xd fs)
 recd:∃oT ts fl,h.get? T=some oT/\oT.data=.fields ts/\ts[3]?=some fl
section
variable {X:Cx} {ai:List (Addr × Obj)} {σ:St} {H:Hp} {s:Shared} {a C T:Addr} {dx:Option Addr} {vs:Array Value}
end
section
variable {P:Program} {w:World} {K:W.Frag} {mg:Str->Option Value} {bf:Heap} {N:List Str} {qual:Str} {scope:Scope} {f:Addr} {cd:Value} {A:Around} {outer:List Env} {s₀:Shared} {H₀:Hp} {E:XK}
end
end
end L2
namespace L2
open PySem PySem.Spec PyProof.Rows
section
structure LamD (X:Cx) (H:Hp) (q nm:Str) (ar:Arguments) (body:List Stmt) (scope:Scope) (f:Addr) (cl:List (Str × Addr)):Prop where
 ex:∃doc pm c ct oc us t o,H f=some (.frz o (.own f))/\o.data=.func (W.fnX nm q ar body scope cl .none .none doc pm none (.ref c) ct)/\H c=some (.frz oc (.own c))/\oc.data=.fields us/\us[1]?=some (.str q t)
 c1:∀x c,cl.lookup x=some c->X.env.cells.lookup x=some c
 c2:∀x,(x,NameKind.free)∈scope.names->∃c,cl.lookup x=some c
 c3:∀x c,cl.lookup x=some c->(x,NameKind.free)∈scope.names
section
variable {X:Cx} {ai:List (Addr × Obj)} {σ:St} {H:Hp} {s:Shared}
end
structure CloD (H:Hp) (q nm:Str) (ar:Arguments) (body:List Stmt) (scope:Scope) (f:Addr) (cl:List (Str × Addr)) (N:List Str) (cs:List Cel):Prop where
 ex:∃doc pm c ct oc us t o,H f=some (.frz o (.own f))/\o.data=.func (W.fnX nm q ar body scope cl .none .none doc pm none (.ref c) ct)/\H c=some (.frz oc (.own c))/\oc.data=.fields us/\us[1]?=some (.str q t)
 inj:∀y z c,cl.lookup y=some c->cl.lookup z=some c->y=z
 has:∀x,(x,NameKind.free)∈scope.names->∃c,cl.lookup x=some c
 cov:∀x c,cl.lookup x=some c->∃p,p∈cs/\p.1=c
 len:N.length=cs.length+1
 cap:∀(k:Nat) (p:Cel) (y:Str),N[k+1]?=some y->cs[k]?=some p->cl.lookup y=some p.1/\(y,NameKind.free)∈scope.names
 cel:∀p,p∈cs->H p.1=some (zsh p)/\CellOk p
 nd:(cs.map (·.1)).Nodup
end
end L2
namespace L2
open PySem PySem.Spec PyProof.Rows
section
structure CalD1 (P:Program) (w:World) (K:W.Frag) (mg:Str->Option Value) (bf:Heap) (x:Str) (k:Nat) (ps:List Str) (sp:Sp):Prop where
 ex:∃f fd,FnOk P w K mg bf (CX1 P w) k f fd ps sp/\za2 K fd ps []/\za2 K fd ps [.none]/\mg x=some (.ref f)/\W.keepIn K (.ref f)=true
end
end L2
namespace L2
open PySem PySem.Spec PyProof.Rows PySem.W
end L2
namespace L2
open PySem PySem.Spec PyProof.Rows PySem.W
structure Odr (prog:Program) (w:World) (A:Around) (E:Value->Shared->Prop) (s:Shared) (k0:SortKind) (G:Keyed->Prop) (L:Keyed->Keyed->Bool):Prop where
 ask:∀(x y:Keyed) (st:SortSt) (Q:Option Bool->SortSt->Prop),G x->G y->kindOf st=k0->Q (some (L x y)) st->wpS (model prog w) A E s (lt' x y) Q st
 tr:∀x y z,G x->G y->G z->L x y=true->L y z=true->L x z=true
 as:∀x y,G x->G y->L x y=true->L y x=false
section
variable {prog:Program} {w:World} {A:Around} {E:Value->Shared->Prop} {s:Shared} {k0:SortKind} {G:Keyed->Prop} {L:Keyed->Keyed->Bool}
end
end L2
namespace L2
open PySem PySem.Spec PyProof.Rows PySem.W
section
variable {prog:Program} {w:World} {A:Around} {E:Value->Shared->Prop} {s:Shared} {k0:SortKind} {G:Keyed->Prop} {L:Keyed->Keyed->Bool}
def Inc (L:Keyed->Keyed->Bool) (l:List Keyed):Prop:=l.Pairwise fun x y=>L x y=true
structure Two (G:Keyed->Prop) (L:Keyed->Keyed->Bool) (xs ys:List Keyed):Prop where
 gx:∀x,x∈xs->G x
 gy:∀y,y∈ys->G y
 ix:Inc L xs
 iy:Inc L ys
 tot:∀x y,x∈xs->y∈ys->L x y=true\/L y x=true
 tr:∀x y z,G x->G y->G z->L x y=true->L y z=true->L x z=true
 as:∀x y,G x->G y->L x y=true->L y x=false
structure Mrg (L:Keyed->Keyed->Bool) (xs ys out:List Keyed) (i j:Nat):Prop where
 inc:Inc L out
 pm:out.Perm (xs.take i++ys.take j)
 lo:∀o z,o∈out->(z∈xs.drop i\/z∈ys.drop j)->L o z=true
end
end L2
namespace L2
open PySem PySem.Spec PyProof.Rows PySem.W
section
variable {prog:Program} {w:World} {A:Around} {E:Value->Shared->Prop} {s:Shared} {k0:SortKind} {G:Keyed->Prop} {L:Keyed->Keyed->Bool}
end
end L2
namespace L2
open PySem PySem.Spec PyProof.Rows PySem.W
section
variable {prog:Program} {w:World} {A:Around} {E:Value->Shared->Prop} {s:Shared} {k0:SortKind} {G:Keyed->Prop} {L:Keyed->Keyed->Bool}
structure Hrg (L:Keyed->Keyed->Bool) (xs ys R:List Keyed) (i j:Nat):Prop where
 inc:Inc L R
 pm:R.Perm (xs.drop i++ys.drop j)
 hi:∀o z,o∈R->(z∈xs.take i\/z∈ys.take j)->L z o=true
end
end L2
namespace L2
open PySem PySem.Spec PyProof.Rows PySem.W
section
variable {prog:Program} {w:World} {A:Around} {E:Value->Shared->Prop} {s:Shared} {k0:SortKind} {G:Keyed->Prop} {L:Keyed->Keyed->Bool}
structure Whl (G:Keyed->Prop) (L:Keyed->Keyed->Bool) (l0 l:List Keyed):Prop where
 g:∀x,x∈l->G x
 d:l.Pairwise fun x y=>L x y=true\/L y x=true
 pm:l.Perm l0
end
end L2
namespace L2
open PySem PySem.Spec PyProof.Rows PySem.W
section
variable {prog:Program} {w:World} {A:Around} {E:Value->Shared->Prop} {s:Shared} {k0:SortKind} {G:Keyed->Prop} {L:Keyed->Keyed->Bool}
end
end L2
namespace L2
open PySem PySem.Spec PyProof.Rows PySem.W
section
variable {prog:Program} {w:World} {A:Around} {E:Value->Shared->Prop} {s:Shared} {k0:SortKind} {G:Keyed->Prop} {L:Keyed->Keyed->Bool}
end
end L2
namespace L2
open PySem PySem.Spec PyProof.Rows PySem.W
section
variable {prog:Program} {w:World} {A:Around} {E:Value->Shared->Prop} {s:Shared} {k0:SortKind} {G:Keyed->Prop} {L:Keyed->Keyed->Bool}
end
end L2
namespace L2
open PySem PySem.Spec PyProof.Rows PySem.W
section
variable {prog:Program} {w:World} {A:Around} {E:Value->Shared->Prop} {s:Shared}
end
end L2
namespace L2
open PySem PySem.Spec PyProof.Rows PySem.W
section
variable {X:Cx}
end
end L2
namespace L2
open PySem PySem.Spec PyProof.Rows
section
theorem zqM {κ:Type} [DecidableEq κ] (kvs:List (κ × V)) (k : κ) (v:V):(putK kvs k v).length<=kvs.length+1:=by
 unfold putK
 split
 ·rw [length_map]
  omega
 ·rw [length_append]
  exact Nat.le_refl _
end
end L2
namespace L2
open PySem PySem.Spec PyProof.Rows
section
structure TOk (b:Bool) (t:SetTable):Prop where
 ri:t.place.toList.Pairwise (· < ·)
 du:t.dummies = #[]
 le:t.led=b
end
end L2
namespace L2
open PySem PySem.Spec PyProof.Rows
section
section
variable {prog:Program} {w:World} {A:Around} {E:Value->Shared->Prop} {s:Shared}
end
end
end L2
namespace L2
open PySem PySem.Spec PyProof.Rows
section
section
variable {prog:Program} {w:World} {A:Around} {R:Result->Shared->Prop} {I:Addr} {fp wr:List Addr} {G:Array GenState->Array GenState->Prop} {n:Nat} {P:Nat->Value->Prop} {St:Nat->Shared->Prop}
end
section
variable {prog:Program} {w:World} {A:Around} {E:Value->Shared->Prop} {s:Shared}
end
end
end L2
namespace L2
open PySem PySem.Spec PyProof.Rows
section
section
variable {prog:Program} {w:World} {A:Around} {E:Value->Shared->Prop} {s:Shared}
end
end
end L2
namespace L2
open PySem PySem.Spec PyProof.Rows PySem.W
end L2
namespace L2
open PySem PySem.Spec PyProof.Rows
section
section
variable {prog:Program} {w:World} {A:Around} {E:Value->Shared->Prop} {s:Shared}
end
end
end L2
namespace L2
open PySem PySem.Spec PyProof.Rows
section
section
variable {prog:Program} {w:World} {A:Around} {E:Value->Shared->Prop} {s:Shared}
structure SetWk (prog:Program) (w:World) (s s1:Shared) (a I:Addr) (fp:List Addr) (n:Nat) (vs:List Value) (St:Nat->Heap->Prop):Prop where
 wk:∀A':Around,A'.handled=none->Walks prog w A' I fp [I] n (fun i v=>vs[i]?=some v) St
 at0:St 0 s1.heap
 lt:∀b∈fp,b<s1.heap.objs.size
 inI:I∈fp
 kp:∀b o,s.heap.get? b=some o->s1.heap.get? b=some o
 ge:∀b∈fp,b=a\/s.heap.objs.size<=b
 sm:s1 = { s with heap:=s1.heap,drawn:=s1.drawn }
 gI:s.heap.objs.size<=I
end
end
end L2
namespace L2
open PySem PySem.Spec PyProof.Rows
section
section
variable {prog:Program} {w:World} {A:Around} {E:Value->Shared->Prop} {s:Shared}
end
end
end L2
namespace L2
open PySem PySem.Spec PyProof.Rows
section
section
variable {X:Cx} {e:Expr} {te:TE} {p p2 pos pos2:Pos}
end
end
end L2
namespace L2
open PySem PySem.Spec PyProof.Rows
section
end
end L2
namespace L2
open PySem PySem.Spec PyProof.Rows
section
section
variable {X:Cx} {a b:Expr} {rest:List Expr} {pos:Pos} {ta tb:TE}
end
end
end L2
namespace L2
open PySem PySem.Spec PyProof.Rows
section
def itG {α β:Type} (xs:List α) (g : α -> β) (d : β) (i:Nat) : β:=match xs[i]? with
 | some x=>g x
 | none=>d
theorem zhO {α β:Type} (P : α->Bool) (g : α -> β) (d : β):∀xs:List α,((List.range xs.length).filter (tak xs P)).map (itG xs g d)=(xs.filter P).map g
 | []=>rfl
 | x::xs=>by
   rw [length_cons,range_succ_eq_map,filter_cons,filter_map]
   have e1:(tak (x::xs) P ∘ Nat.succ)=tak xs P:=rfl
   have e2:∀l:List Nat,(l.map Nat.succ).map (itG (x::xs) g d)=l.map (itG xs g d):=fun l=>by
    rw [map_map]
    rfl
   rw [e1,filter_cons]
   have e3:tak (x::xs) P 0=P x:=rfl
   rw [e3]
   cases P x with
   | true=>
     rw [if_pos rfl,if_pos rfl,map_cons,map_cons,e2,zhO P g d xs]
     rfl
   | false=>
     rw [if_neg Bool.false_ne_true,if_neg Bool.false_ne_true,e2,zhO P g d xs]
def Tups (H H':Hp):Prop:=∀b xs,H b=some (.tup xs)->H' b=some (.tup xs)
theorem Same.tups {H H':Hp} (s:Same H H'):Tups H H':=fun b xs e=>s b _ e
theorem zkT {α:Type} {K:PySem.W.Frag} {a:Addr} {xs:List V} {js:List Nat} {tc:TT} {te:TE} {σ:St} {H1:Hp} {Q:VK} (p:Nat->Bool) (f:Nat -> α) (W:Hp->Addr -> α->Prop) (mono:∀H H' u c,Tups H H'->W H u c->W H' u c) (hl:SqL K H1 a xs)
  (ht:∀i x Hh (Q':Bool->Hp->Prop),xs[i]?=some x->Same H1 Hh->(∀Hh',Same Hh Hh'->Q' (p i) Hh')->tc (some x::caps σ js) Hh Q')
  (he:∀i x Hh (Q':VK),xs[i]?=some x->p i=true->Same H1 Hh->(∀b Hh',Same Hh Hh'->W Hh' b (f i)->Q' (.ref b) Hh')->te (some x::caps σ js) Hh Q')
  (hz:xs.length<sizeLine) (q:∀D H2 (bs:List (Addr × α)),Same H1 H2->H1 D=none->H2 D=some (.lst (bs.map fun b=>V.ref b.1))->bs.map (·.2)=((List.range xs.length).filter p).map f->(∀b,b∈bs->W H2 b.1 b.2)->Q (.ref D) H2):
  zfs (Itl K a) js tc te σ H1 Q:=by
 intro D H2 s2 hD h2
 refine ⟨fun i m acc H3=>m=xs.length-i/\i<=xs.length/\∃bs:List (Addr × α),acc=(bs.map fun b=>V.ref b.1)/\bs.map (·.2)=((List.range i).filter p).map f/\(∀b,b∈bs->W H3 b.1 b.2)/\Same H1 H3/\H3 D=some (.lst acc),⟨_,rfl,Nat.zero_le _,[],rfl,by simp,fun b hb=>by simp at hb,s2,h2⟩,?_⟩
 rintro i m acc H3 ⟨rfl,hi,bs,ea,eb,hb,s3,h3⟩
 have hl3:SqL K H3 a xs:=s3.seq hl
 have hll:acc.length<=xs.length:=by
  have e:=congrArg List.length eb
  rw [length_map,length_map] at e
  rw [ea,length_map,e]
  refine Nat.le_trans (length_filter_le _ _) ?_
  rw [length_range]
  exact hi
 refine ⟨h3,by omega,?_⟩
 by_cases hlt:i<xs.length
 ·have hx:xs[i]?=some xs[i]:=getElem?_eq_getElem hlt
  refine .inr ⟨⟨xs,_,hl3,hx⟩,fun y H4 z=>?_⟩
  obtain ⟨e,ey⟩:=z
  have ey2:=ey xs hl3
  subst e
  refine ht i y _ _ ey2 s3 fun H5 s5=>?_
  have h5:=s5 _ _ h3
  have s35:=s3.trans s5
  have tk:(List.range (i+1)).filter p=(List.range i).filter p++(if p i=true then [i] else []):=by
   rw [range_succ,filter_append]
   congr 1
   cases h:p i<;>simp [h]
  cases hp:p i with
  | true=>
    refine iteT (he i y _ _ ey2 hp s35 fun b6 H6 s6 g6=>⟨s6 _ _ h5,fun H7 k7 h7=>⟨xs.length-(i+1),by omega,rfl,hlt,bs++[(b6,f i)],?_,?_,fun b hb'=>?_,fun b o e=>?_,h7⟩⟩)
    ·rw [ea,map_append]
     rfl
    ·rw [map_append,eb,tk,hp,if_pos rfl,map_append]
     rfl
    ·have nD:Tups H6 H7:=fun c t g=>k7 _ _ (fun z=>by
      rw [z,s6 _ _ h5] at g
      cases g) g
     rcases mem_append.mp hb' with h | h
     ·exact mono _ _ _ _ nD (mono _ _ _ _ ((s5.trans s6).tups) (hb b h))
     ·rw [mem_singleton.mp h]
      exact mono _ _ _ _ nD g6
    ·by_cases hbD:b=D
     ·subst hbD
      rw [hD] at e
      cases e
     ·exact k7 b o hbD (s6 b o (s35 b o e))
  | false=>
    refine iteF ⟨xs.length-(i+1),by omega,rfl,hlt,bs,ea,?_,fun b h=>mono _ _ _ _ s5.tups (hb b h),s35,h5⟩
    rw [eb,tk,hp,if_neg Bool.false_ne_true,append_nil]
 ·have e:i=xs.length:=by omega
  subst e
  refine .inl ⟨⟨xs,hl3,Nat.le_refl _⟩,?_⟩
  rw [ea] at h3
  exact q D _ bs s3 hD h3 eb hb
theorem zlD {X:Cx} {K:W.Frag} (hK:X.K=K) (hu:X.A.units<cLine):OpR X (compareOp .Eq) (rEqT K):=hK▸ziF hu
end
end L2
namespace L2
open PySem PySem.Spec PyProof.Rows
section
def zeT (P:Cl->Prop) (c d:Ch):Prop:=∀x v,P x->((x,v)∈c↔(x,v)∈d)
theorem zeT.symm {P:Cl->Prop} {c d:Ch} (h:zeT P c d):zeT P d c:=fun x v p=>(h x v p).symm
def Shut (P:Cl->Prop) (c:Ch):Prop:=∀t o x,P x->o∈c.map (·.1)->ahd o x t=true->P o
theorem Shut.bh {P:Cl->Prop} {c:Ch} {ws:List Int} (h:Shut P c):Shut P (bhC ws c):=fun t o x p ho ha=>h t o x p ((zcG ws c).subset ho) ha
theorem zkU {P:Cl->Prop} {c d:Ch} (h:zeT P c d) {t:Int} {x:Cl} (p:P x) (m:x∈csC t c):x∈csC t d:=by
 obtain ⟨v,h1,h2,h3⟩:=zdI.mp m
 exact zdI.mpr ⟨v,(h x v p).mp h1,h2,h3⟩
theorem zlE {P:Cl->Prop} {c d:Ch} (g:GdC c) (sc:Shut P c) (h:zeT P c d) {t:Int} {x:Cl} (p:P x):rnk (csC t c) t x<=rnk (csC t d) t x:=by
 unfold rnk
 have nd:(((csC t c).filter fun o=>decide (o.n≠x.n)&&ahd o x t).map (·.n)).Nodup:=(g.good t).nd.sublist (filter_sublist.map _)
 have:=zm5 (m:=((csC t d).filter fun o=>decide (o.n≠x.n)&&ahd o x t).map (·.n)) nd fun y hy=>by
  obtain ⟨o,ho,e⟩:=mem_map.mp hy
  obtain ⟨h1,h2⟩:=mem_filter.mp ho
  have h3:=(Bool.and_eq_true _ _).mp h2
  obtain ⟨v,m,_,_⟩:=zdI.mp h1
  have po:=sc t o x p (mem_map.mpr ⟨_,m,rfl⟩) h3.2
  exact mem_map.mpr ⟨o,mem_filter.mpr ⟨zkU h po h1,h2⟩,e⟩
 rw [length_map,length_map] at this
 exact this
theorem zhP {P:Cl->Prop} {c d:Ch} (gc:GdC c) (gd:GdC d) (sd:Shut P d) (h:zeT P c d) {t:Int} {n:Nat} {x:Cl} {v:Int} (p:P x) (hx:(x,v)∈c) (w:x.n∈wkC t n c):x.n∈wkC t n d:=by
 obtain ⟨y,hy,ey,hr⟩:=(zgy gc).mp w
 obtain ⟨u,hu,_,_⟩:=zdI.mp hy
 have e1:=gc.cl hu hx ey
 have e2:y=x:=congrArg Prod.fst e1
 subst e2
 have r:=zlE (t:=t) gd sd h.symm p
 exact (zgy gd).mpr ⟨y,zkU h p hy,rfl,by omega⟩
theorem zlF {P:Cl->Prop} {c d:Ch} (gc:GdC c) (gd:GdC d) (sc:Shut P c) (sd:Shut P d) (h:zeT P c d) (t:Int) (n:Nat):zeT P (bhC (wkC t n c) c) (bhC (wkC t n d) d):=by
 have go:∀ {c d:Ch},GdC c->GdC d->Shut P c->Shut P d->zeT P c d->∀x v,P x->(x,v)∈bhC (wkC t n c) c->(x,v)∈bhC (wkC t n d) d:=fun {c d} gc gd sc sd h x v p m=>by
  obtain ⟨j,hj,e,pos⟩:=zni m
  have ex:x=j.1:=congrArg Prod.fst e
  have ev:v=za3 (wkC t n c) j:=congrArg Prod.snd e
  subst ex
  have hj':=(h j.1 j.2 p).mp hj
  have el:za3 (wkC t n d) (j.1,j.2)=za3 (wkC t n c) j:=by
   unfold za3
   by_cases w:j.1.n∈wkC t n c
   ·rw [if_pos w,if_pos (zhP gc gd sd h p hj w)]
   ·rw [if_neg w,if_neg fun z=>w (zhP gd gc sc h.symm p hj' z)]
  rw [ev,<-el]
  exact zpE hj' (by rw [el];exact pos)
 exact fun x v p=>⟨go gc gd sc sd h x v p,go gd gc sd sc h.symm x v p⟩
theorem zi2 {P:Cl->Prop} {c d:Ch} (gc:GdC c) (gd:GdC d) (sc:Shut P c) (sd:Shut P d) (h:zeT P c d) (b:Int) (n:Nat):∀N,zeT P (runN n N b c).2 (runN n N b d).2/\Shut P (runN n N b c).2/\Shut P (runN n N b d).2
 | 0=>⟨h,sc,sd⟩
 | N+1=>by
   obtain ⟨a,a1,a2⟩:=zi2 gc gd sc sd h b n N
   rw [zaR,zaR]
   exact ⟨zlF (zfw gc N) (zfw gd N) a1 a2 a _ _,a1.bh,a2.bh⟩
theorem zhQ {h:Nat} {b:Int} {d:Ch} {r:Int × List Int}:∀ {N:Nat},r∈(runN h N b d).1->∃m:Nat,m<N/\r=(b+m,wkC (b+m) h (runN h m b d).2)
 | 0,hr=>by cases hr
 | N+1,hr=>by
   rw [zaR] at hr
   rcases mem_append.mp hr with hr | hr
   ·obtain ⟨m,h1,h2⟩:=zhQ hr
    exact ⟨m,by omega,h2⟩
   ·exact ⟨N,by omega,mem_singleton.mp hr⟩
theorem zeo {h:Nat} {b:Int} {d:Ch}:∀N,((runN h N b d).2.map (·.1)).Sublist (d.map (·.1))
 | 0=>List.Sublist.refl _
 | N+1=>by
   rw [zaR]
   exact (zcG _ _).trans (zeo N)
theorem zhy {P:Cl->Prop} {c d:Ch} (gc:GdC c) (gd:GdC d) (sc:Shut P c) (sd:Shut P d) (h:zeT P c d) {b:Int} {n N N':Nat} (ec:(runN n N b c).2=[]) {x:Cl} (p:P x) (hx:x∈d.map (·.1)) {u:Int} (hu:valI (zbo (runN n N' b d).1 []) x.n=some u):
  ∃w,valI (zbo (runN n N b c).1 []) x.n=some w/\u<=w:=by
 rcases zem hu with z | ⟨r,hr,er,hj⟩
 ·cases z
 obtain ⟨m,_,e⟩:=zhQ hr
 subst e
 have hj:x.n∈wkC (b+m) n (runN n m b d).2:=hj
 obtain ⟨a,a1,a2⟩:=zi2 gc gd sc sd h b n m
 obtain ⟨y,hy,ey,_⟩:=(zgy (zfw gd m)).mp hj
 obtain ⟨v,hv,v0,_⟩:=zdI.mp hy
 have hyd:y∈d.map (·.1):=(zeo m).subset (mem_map.mpr ⟨_,hv,rfl⟩)
 have exy:y=x:=by
  obtain ⟨k,hk,ek⟩:=mem_map.mp hyd
  obtain ⟨j,hj',ej⟩:=mem_map.mp hx
  have:=gd.cl hk hj' (by rw [ek,ej];exact ey)
  rw [<-ek,<-ej,this]
 subst exy
 have hc:(y,v)∈(runN n m b c).2:=(a y v p).mpr hv
 have w:=zhP (zfw gd m) (zfw gc m) a1 a.symm p hv hj
 have mN:m<N:=Nat.lt_of_not_le fun z=>by
  have:=znj ec (m-N)
  rw [show N+(m-N)=m by omega] at this
  rw [this] at hc
  cases hc
 obtain ⟨w',h1,h2⟩:=zdv (L:=[]) (znk N).1 (.inr ⟨_,zhM mN,rfl,w⟩)
 exact ⟨w',h1,by rw [<-er];exact h2⟩
structure Twin (c d:Cl):Prop where
 wt:c.wt=d.wt
 wb:c.wb=d.wb
 st:c.st=d.st
 sb:c.sb=d.sb
theorem zoT {c d:Cl} (h:Twin c d) (o:d.Ok) (t:Int):ahd c d t=tie c d:=by
 have e:gap c d t=(d.came-c.came)*(d.st*d.wb*(d.wb*d.sb)):=by
  unfold gap wtop wbot
  rw [h.wt,h.wb,h.st,h.sb,Int.add_mul,Int.add_mul]
  rw [show (t-c.came)*d.st*d.wb*(d.wb*d.sb)=(t-c.came)*(d.st*d.wb*(d.wb*d.sb)) by rw [Int.mul_assoc (t-c.came),Int.mul_assoc (t-c.came)],
   show (t-d.came)*d.st*d.wb*(d.wb*d.sb)=(t-d.came)*(d.st*d.wb*(d.wb*d.sb)) by rw [Int.mul_assoc (t-d.came),Int.mul_assoc (t-d.came)]]
  generalize d.st*d.wb*(d.wb*d.sb)=m
  rw [Int.sub_mul,Int.sub_mul,Int.sub_mul]
  omega
 have m0:0<=d.st*d.wb*(d.wb*d.sb):=Int.mul_nonneg (Int.mul_nonneg o.s0 (by have:=o.w2;omega)) (Int.mul_nonneg (by have:=o.w2;omega) (by have:=o.s2;omega))
 generalize d.st*d.wb*(d.wb*d.sb)=m at e m0
 unfold ahd
 rw [e]
 by_cases z:(d.came-c.came)*m=0
 ·rw [if_pos z]
 ·rw [if_neg z]
  have mp:0<m:=by
   rcases Int.lt_or_eq_of_le m0 with y | y
   ·exact y
   ·exact (z (by rw [<-y,Int.mul_zero])).elim
  unfold tie
  rw [Bool.eq_iff_iff,decide_eq_true_iff,decide_eq_true_iff]
  constructor
  ·intro y
   have:=Int.pos_of_mul_pos_left y mp
   exact .inl (by omega)
  ·rintro (y | ⟨y,_⟩)
   ·exact Int.mul_pos (by omega) mp
   ·exact (z (by rw [y,Int.sub_self,Int.zero_mul])).elim
theorem zsm {c d e:Cl} (h1:tie c d=true) (h2:tie d e=true):tie c e=true:=by
 unfold tie at *
 rw [decide_eq_true_iff] at *
 omega
theorem zoU {L:List (Int × Int)} {n w:Int} (h:valI L n=some w):n∈L.map (·.1):=by
 unfold valI at h
 rw [Option.map_eq_some_iff] at h
 obtain ⟨q,hq,_⟩:=h
 have:=List.find?_some hq
 exact mem_map.mpr ⟨q,List.mem_of_find?_eq_some hq,by simpa using this⟩
end
end L2
namespace L2
open PySem PySem.Spec PyProof.Rows
section
theorem zqN {h:Nat} {b:Int} {c:Ch} (pos:∀k,k∈c->0<k.2):∀N k,k∈(runN h N b c).2->0<k.2
 | 0,k,hk=>pos k hk
 | N+1,k,hk=>by
   rw [zaR] at hk
   exact zeO hk
theorem zoV {h:Nat} {b:Int} {c:Ch} (cm:∀k,k∈c->k.1.came<=1000) (N:Nat):∀k,k∈(runN h N b c).2->k.1.came<=1000:=fun k hk=>by
 obtain ⟨j,hj,e⟩:=mem_map.mp ((zeo N).subset (mem_map.mpr ⟨k,hk,rfl⟩))
 rw [<-e]
 exact cm j hj
theorem zkV {h:Nat} {b:Int} {c:Ch} (h0:0<h) (pos:∀k,k∈c->0<k.2) (cm:∀k,k∈c->k.1.came<=1000):∀N,(∀m,m<=N->(runN h m b c).2≠[])->sumC (runN h N b c).2+(1001-(b+N)).toNat+N<=sumC c+(1001-b).toNat
 | 0,_=>by
   show sumC c+(1001-(b+((0:Nat):Int))).toNat+0<=_
   omega
 | N+1,ne=>by
   have ih:=zkV h0 pos cm N fun m hm=>ne m (by omega)
   have:=zkP (t:=b+N) h0 (ne N (by omega)) (zqN pos N) (zoV cm N)
   rw [zaR]
   show sumC (bhC (wkC (b+N) h (runN h N b c).2) (runN h N b c).2)+(1001-(b+((N+1:Nat):Int))).toNat+(N+1)<=_
   have e:b+((N+1:Nat):Int)=b+N+1:=by omega
   rw [e]
   omega
theorem zoW {h:Nat} {b:Int} {c:Ch} (h0:0<h) (cm:∀k,k∈c->k.1.came<=1000):∃N,(runN h N b (bhC [] c)).2=[]:=by
 have pos:∀k,k∈bhC [] c->0<k.2:=fun k hk=>zeO hk
 have cm':∀k,k∈bhC [] c->k.1.came<=1000:=fun k hk=>by
  obtain ⟨j,hj,e⟩:=mem_map.mp ((zcG [] c).subset (mem_map.mpr ⟨k,hk,rfl⟩))
  rw [<-e]
  exact cm j hj
 by_cases z:∃N,(runN h N b (bhC [] c)).2=[]
 ·exact z
 ·have:=zkV (b:=b) h0 pos cm' (sumC (bhC [] c)+(1001-b).toNat+1) fun m _ e=>z ⟨m,e⟩
  omega
theorem zlG {c d:Ch} {k:Cl} {h:Nat} {b:Int} {tl:List (Int × Int)} (gc:GdC c) (gd:GdC d) (tc:∀x,x∈c.map (·.1)->Twin x k) (td:∀x,x∈d.map (·.1)->Twin x k) (al:∀x v,tie x k=true->((x,v)∈c↔(x,v)∈d)) (en:∃N,(runN h N b (bhC [] c)).2=[])
  (kp:∀N,(runN h N b (bhC [] c)).2=[]->∀n v u,valI tl n=some v->valI (zbo (runN h N b (bhC [] c)).1 []) n=some u->u<=v)
  (told:∀n v,valI tl n=some v->∃x,x∈d.map (·.1)/\x.n=n/\tie x k=true):∀N,(runN h N b (bhC [] d)).2=[]->∀n v u,valI tl n=some v->valI (zbo (runN h N b (bhC [] d)).1 []) n=some u->u<=v:=by
 intro N' ed n v u e2 e1
 obtain ⟨N,ec⟩:=en
 have ag:zeT (fun x=>tie x k=true) (bhC [] c) (bhC [] d):=fun x v p=>by
  rw [zjQ,zjQ,mem_filter,mem_filter,al x v p]
 have shut:∀ {e:Ch},GdC e->(∀x,x∈e.map (·.1)->Twin x k)->Shut (fun x=>tie x k=true/\x∈e.map (·.1)) (bhC [] e):=fun {e} ge te t o x p ho ha=>by
  have a:=te o ((zcG [] e).subset ho)
  have b:=te x p.2
  obtain ⟨j,hj,ej⟩:=mem_map.mp p.2
  rw [zoT ⟨a.wt.trans b.wt.symm,a.wb.trans b.wb.symm,a.st.trans b.st.symm,a.sb.trans b.sb.symm⟩ (by rw [<-ej];exact ge.ok j hj)] at ha
  exact ⟨zsm ha p.1,(zcG [] e).subset ho⟩
 have mem:∀x,tie x k=true->(x∈c.map (·.1)↔x∈d.map (·.1)):=fun x p=>by
  rw [mem_map,mem_map]
  constructor
  ·rintro ⟨j,hj,e⟩
   exact ⟨j,(al j.1 j.2 (by rw [e];exact p)).mp hj,e⟩
  ·rintro ⟨j,hj,e⟩
   exact ⟨j,(al j.1 j.2 (by rw [e];exact p)).mpr hj,e⟩
 have pe:(fun x=>tie x k=true/\x∈d.map (·.1))=fun x=>tie x k=true/\x∈c.map (·.1):=by
  funext x
  by_cases p:tie x k=true
  ·rw [mem x p]
  ·simp [p]
 have sc:=shut gc tc
 have sd:=shut gd td
 rw [pe] at sd
 obtain ⟨x,hx,ex,tx⟩:=told n v e2
 have hxc:=(mem x tx).mpr hx
 have hxd:x∈(bhC [] d).map (·.1):=by
  rcases zem e1 with y | ⟨r,hr,_,hj⟩
  ·cases y
  obtain ⟨m,_,e⟩:=zhQ hr
  subst e
  obtain ⟨y,hy,ey,_⟩:=(zgy (zfw (gd.bh []) m)).mp hj
  obtain ⟨w,hw,_,_⟩:=zdI.mp hy
  have hyd:=(zeo m).subset (mem_map.mpr ⟨_,hw,rfl⟩)
  obtain ⟨j,hj',ej⟩:=mem_map.mp ((zcG [] d).subset hyd)
  obtain ⟨i,hi,ei⟩:=mem_map.mp hx
  have:=gd.cl hj' hi (by rw [ej,ei,ex];exact ey)
  rw [<-ei,<-this,ej]
  exact hyd
 obtain ⟨w,h1,h2⟩:=zhy (gc.bh []) (gd.bh []) sc sd (fun x v p=>ag x v p.1) ec (p:=(⟨tx,hxc⟩:tie x k=true/\x∈c.map (·.1))) hxd (u:=u) (by rw [ex];exact e1)
 rw [ex] at h1
 have:=kp N ec n v w e2 h1
 omega
theorem zoX {L tl:List (Int × Int)}:zeP L tl=[]↔∀n v u,valI tl n=some v->valI L n=some u->u<=v:=by
 unfold zeP
 rw [List.filter_eq_nil_iff]
 constructor
 ·intro h n v u e1 e2
  have:=h n (zoU e2)
  unfold ziV at this
  rw [e1,e2] at this
  exact Int.not_lt.mp fun z=>this (decide_eq_true z)
 ·intro h n hn z
  unfold ziV at z
  obtain ⟨q,hq,eq⟩:=mem_map.mp hn
  obtain ⟨u,e2⟩:=zfX hq
  rw [eq] at e2
  cases e1:valI tl n with
  | none=>rw [e2,e1] at z;cases z
  | some v=>
    rw [e2,e1] at z
    have z:v<u:=of_decide_eq_true z
    have:=h n v u e1 e2
    omega
end
end L2
namespace L2
open PySem PySem.Spec PyProof.Rows
section
structure FunE2 (K:W.Frag) (x qual:Str) (st:Stmt) (f:Addr) (fd:FuncData) (u1 u2:Value):Prop where
 ex:∃(oc:Value) (od:Option Addr) (T:Addr) (kV doc pm:Value) (an:Option Addr) (cdv ct:Value) (osl:Array (Option Value)) (o:Obj) (n:Nat),
  fd=W.fnOf x qual (zaq st) (zan st) (zac st) (.ref T) kV doc pm an cdv ct/\K.lookup f=some ⟨oc,od,.func fd,osl⟩/\W.codeIn K cdv qual=true/\K.lookup T=some o/\o.data=.seq #[u1,u2] n
 kp:W.keepIn K (.ref f)=true
structure MfnE2 (K:W.Frag) (x qual:Str) (st:Stmt) (ps:List Str) (f:Addr) (fd:FuncData) (u1 u2:Value):Prop where
 F:FunE2 K x qual st f fd u1 u2
 b1:za2 K fd ps [u2]
 b2:za2 K fd ps [u1,u2]
structure MOk2 (CX:CXT) (P:Program) (w:World) (K:W.Frag) (mg:Str->Option Value) (bf:Heap) (k:Nat) (C:Addr) (m:Str) (d1 d2:V) (sp:Sp):Prop where
 cl:Cls K C
 ex:∃f fd ps u1 u2,Meth K C m f/\FnOk P w K mg bf CX k f fd ps sp/\za2 K fd ps [u2]/\za2 K fd ps [u1,u2]/\RelV d1 u1/\RelV d2 u2
section
variable {X:Cx} {CX:CXT} {k:Nat} {E:XK} {m:Str} {pos apos:Pos} {e o:Expr} {es:List Expr} {ta:TE} {t:TA}
end
end
end L2
namespace L2
open PySem PySem.Spec PyProof.Rows
section
section
variable {P:Program} {w:World} {K:W.Frag} {mg:Str->Option Value} {bf h:Heap} {x m q:Str} {st:Stmt} {f C:Addr} {oc kV dc pm cd ct:Value} {od an:Option Addr} {sl:Array (Option Value)}
structure DAt (K:W.Frag) (x:Str) (st:Stmt) (f:Addr) (oc:Value) (od:Option Addr) (kV dc pm:Value) (an:Option Addr) (cd ct:Value) (sl:Array (Option Value)):Prop where
 a:W.nsIn K mainGlobals x=some (some (.ref f))
 l:K.lookup f=some ⟨oc,od,.func (W.fnOf x x (zaq st) (zan st) (zac st) .none kV dc pm an cd ct),sl⟩
 c:W.codeIn K cd x=true
 k:W.keepIn K (.ref f)=true
structure MAt (K:W.Frag) (m q:Str) (st:Stmt) (f:Addr) (oc:Value) (od:Option Addr) (kV dc pm:Value) (an:Option Addr) (cd ct:Value) (sl:Array (Option Value)):Prop where
 l:K.lookup f=some ⟨oc,od,.func (W.fnOf m q (zaq st) (zan st) (zac st) .none kV dc pm an cd ct),sl⟩
 c:W.codeIn K cd q=true
 k:W.keepIn K (.ref f)=true
 i:W.isFn K (.ref f)=true
structure MeS (K:W.Frag) (C:Addr) (m:Str) (f:Addr):Prop where
 e:W.findIn K (.ref C) m=some (some (.ref f))
structure NoS (K:W.Frag) (C:Addr) (m:Str):Prop where
 e:W.findIn K (.ref C) m=some none
structure ZeS (K:W.Frag) (x:Str):Prop where
 e:W.nsIn K mainGlobals x=some none
structure GlS (K:W.Frag) (x:Str) (i:Int) (t:Tok):Prop where
 e:W.nsIn K mainGlobals x=some (some (.int i t))
structure KtT (K:W.Frag) (x m:String) (b:Bool):Prop where
 e:W.kitOne K (.type x) (.type m)=some b
structure KtC (K:W.Frag) (C f:Addr) (b:Bool):Prop where
 e:W.kitOne K (.ref C) (.ref f)=some b
structure OAt (K:W.Frag) (x:Str) (C:Addr):Prop where
 a:W.nsIn K mainGlobals x=some (some (.ref C))
 o1:W.plainGet K C Str.empty=true
 o2:W.hasDictIn K C=true
 o3:W.plainOver K C=true
 o4:W.findIn K (.ref C) "__setattr__" = some (some (.builtin "object.__setattr__"))
 o5:W.findIn K (.ref C) "__class__" = some (some (.builtin "object.__class__"))
 o6:W.mroIn K C (.type "object")=some true
structure CAt (K:W.Frag) (C f:Addr):Prop where
 m:W.makesIn K C=true
 k:W.keepIn K (.ref C)=true
 i:W.findIn K (.ref C) "__init__" = some (some (.ref f))
structure GcT (K:W.Frag):Prop where
 g:W.specialIn K (.builtin "object.__class__") "__get__" = some (some (.builtin "getset_descriptor.__get__"))
 t:W.takesIn K (.builtin "object.__class__")=some true
structure XAt (K:W.Frag) (x:Str) (C:Addr) (cd:ClassData) (up:List Value) (ini:Option Addr):Prop where
 a:W.nsIn K mainGlobals x=some (some (.ref C))
 d:W.clsIn K C=some cd
 t:W.typeIn K (.ref C)=some (.type "type")
 x1:W.findIn K (.ref C) "__setattr__" = some (some (.builtin "object.__setattr__"))
 x2:W.findIn K (.ref C) "__getattribute__" = some (some (.builtin "BaseException.__getattribute__"))
 x3:W.findIn K (.ref C) "__getattr__" = some none
 x4:W.hasDictIn K C=true
 x5:W.findIn K (.ref C) "__class__" = some (some (.builtin "object.__class__"))
 x6:W.mroIn K C (.type "object")=some true
 x7:W.keepIn K (.ref C)=true
 z1:cd.mro=.ref C::up
 z2:W.xcIn K C ini=true
structure YAt (K:W.Frag) (C:Addr) (x q:Str) (st:Stmt) (f:Addr) (oc:Value) (od:Option Addr) (kV dc pm:Value) (an:Option Addr) (cd ct:Value) (sl:Array (Option Value)):Prop where
 y1:W.findIn K (.ref C) "__init__" = some (some (.ref f))
 y2:K.lookup f=some ⟨oc,od,.func (W.fnOf "__init__" q (zaq st) (zan st) (zac st) .none kV dc pm an cd ct),sl⟩
 y3:W.codeIn K cd q=true
 y4:W.keepIn K (.ref f)=true
 y5:W.isFn K (.ref f)=true
 y6:W.findIn K (.ref C) x=some none
theorem OAt.g (o:OAt K x C) (X:K.In h) (G:h.Ns mainGlobals mg):mg x=some (.ref C):=W.mg_of X G o.a
theorem OAt.ow (o:OAt K x C) (g:GcT K):Own K C:=⟨⟨o.o1,o.o2,o.o3,o.o4⟩,o.o5,g.g,g.t,o.o6⟩
theorem CAt.mk_ (c:CAt K C f) (i:W.isFn K (.ref f)=true):Mk K C f:=⟨c.m,c.i,i,c.k⟩
theorem XAt.g {d:ClassData} {up:List Value} {ini:Option Addr} (o:XAt K x C d up ini) (X:K.In h) (G:h.Ns mainGlobals mg):mg x=some (.ref C):=W.mg_of X G o.a
theorem XAt.xd {d:ClassData} {up:List Value} {ini:Option Addr} (o:XAt K x C d up ini):XD K C up:=⟨⟨d,o.d,o.z1⟩,o.t⟩
theorem XAt.cls {d:ClassData} {up:List Value} {ini:Option Addr} (o:XAt K x C d up ini) (g:GcT K):XCls K C:=⟨⟨ini,o.z2⟩,o.x1,o.x2,o.x3,o.x4,o.x5,g.g,g.t,o.x6⟩
theorem XAt.c0 {d:ClassData} {up:List Value} (o:XAt K x C d up none) (g:GcT K) (X:K.In h) (G:h.Ns mainGlobals mg):XCal0 K mg x C:=⟨⟨o.cls g,o.z2,o.x7,fun f e=>by cases e⟩,o.g X G⟩
theorem XAt.c1 {d:ClassData} {up:List Value} {fn:Str} (o:XAt K x C d up (some f)) (g:GcT K) (X:K.In h) (G:h.Ns mainGlobals mg) (y:YAt K C fn q st f oc od kV dc pm an cd ct sl) (I:∀ {fd},Fun K "__init__" q st f fd->FnOk P w K mg bf CX0 1 f fd [("self" : Str),fn] (zeK K C fn))
  (b:∀(kV doc pm:Value) (an:Option Addr) (cdv ct u v:Value),bindArgs (W.fnOf "__init__" q (zaq st) (zan st) (zac st) .none kV doc pm an cdv ct) ⟨[u,v],[]⟩=pure ([("self" : Str),fn].zip [u,v]):=by intros;rfl):XCal P w K mg bf x C fn:=
 ⟨⟨f,_,[("self" : Str),fn],⟨o.cls g,o.z2,o.x7,fun f e=>by cases e;exact y.y5⟩,y.y6,I (za5 y.y2 y.y3 y.y4),(za5 y.y2 y.y3 y.y4).binds (ps:=[("self" : Str),fn]) fun _ _ _ _ _ _ us hl=>by obtain ⟨u,v,rfl⟩:=ul2 hl;exact b ..,o.g X G⟩⟩
theorem ul0 {us:List Value} (h:us.length=0):us=[]:=List.eq_nil_of_length_eq_zero h
theorem mok (e:MeS K C m f) (d:MAt K m q st f oc od kV dc pm an cd ct sl) (O:Own K C) {CX:CXT} {k:Nat} {fd:FuncData} {ps:List Str} {sp:Sp} (M:Mfn K m q st ps f fd) (G:FnOk P w K mg bf CX k f fd ps sp):MOk CX P w K mg bf k C m sp:=⟨O.cl,f,fd,ps,⟨e.e,d.i,d.k⟩,G,M.b⟩
theorem DAt.d0 (d:DAt K x st f oc od kV dc pm an cd ct sl) (X:K.In h) (G:h.Ns mainGlobals mg) (b:∀(kV dc pm:Value) (an:Option Addr) (cd ct:Value),bindArgs (W.fnOf x x (zaq st) (zan st) (zac st) .none kV dc pm an cd ct) ⟨[],[]⟩=pure ([].zip []):=by intros;rfl):Dfn K mg x st [] f (W.fnOf x x (zaq st) (zan st) (zac st) .none kV dc pm an cd ct):=⟨za5 d.l d.c d.k,(za5 d.l d.c d.k).binds (ps:=[]) fun _ _ _ _ _ _ us hl=>by obtain rfl:=ul0 hl;exact b ..,W.mg_of X G d.a⟩
theorem DAt.d1 (d:DAt K x st f oc od kV dc pm an cd ct sl) (X:K.In h) (G:h.Ns mainGlobals mg) (p0:Str) (b:∀(kV dc pm:Value) (an:Option Addr) (cd ct u:Value),bindArgs (W.fnOf x x (zaq st) (zan st) (zac st) .none kV dc pm an cd ct) ⟨[u],[]⟩=pure ([p0].zip [u]):=by intros;rfl):Dfn K mg x st [p0] f (W.fnOf x x (zaq st) (zan st) (zac st) .none kV dc pm an cd ct):=⟨za5 d.l d.c d.k,(za5 d.l d.c d.k).binds (ps:=[p0]) fun _ _ _ _ _ _ us hl=>by obtain ⟨u,rfl⟩:=ul1 hl;exact b ..,W.mg_of X G d.a⟩
theorem MAt.m1 (d:MAt K m q st f oc od kV dc pm an cd ct sl) (p0:Str) (b:∀(kV dc pm:Value) (an:Option Addr) (cd ct u:Value),bindArgs (W.fnOf m q (zaq st) (zan st) (zac st) .none kV dc pm an cd ct) ⟨[u],[]⟩=pure ([p0].zip [u]):=by intros;rfl):Mfn K m q st [p0] f (W.fnOf m q (zaq st) (zan st) (zac st) .none kV dc pm an cd ct):=⟨za5 d.l d.c d.k,(za5 d.l d.c d.k).binds (ps:=[p0]) fun _ _ _ _ _ _ us hl=>by obtain ⟨u,rfl⟩:=ul1 hl;exact b ..⟩
theorem DAt.d2 (d:DAt K x st f oc od kV dc pm an cd ct sl) (X:K.In h) (G:h.Ns mainGlobals mg) (p0 p1:Str) (b:∀(kV dc pm:Value) (an:Option Addr) (cd ct u v:Value),bindArgs (W.fnOf x x (zaq st) (zan st) (zac st) .none kV dc pm an cd ct) ⟨[u,v],[]⟩=pure ([p0,p1].zip [u,v]):=by intros;rfl):Dfn K mg x st [p0,p1] f (W.fnOf x x (zaq st) (zan st) (zac st) .none kV dc pm an cd ct):=⟨za5 d.l d.c d.k,(za5 d.l d.c d.k).binds (ps:=[p0,p1]) fun _ _ _ _ _ _ us hl=>by obtain ⟨u,v,rfl⟩:=ul2 hl;exact b ..,W.mg_of X G d.a⟩
theorem DAt.c2 (d:DAt K x st f oc od kV dc pm an cd ct sl) (X:K.In h) (G:h.Ns mainGlobals mg) (p0 p1:Str) (b:∀(kV dc pm:Value) (an:Option Addr) (cd ct u v:Value),bindArgs (W.fnOf x x (zaq st) (zan st) (zac st) .none kV dc pm an cd ct) ⟨[u,v],[]⟩=pure ([p0,p1].zip [u,v]):=by intros;rfl):DfnC K mg x st [p0,p1] f (W.fnOf x x (zaq st) (zan st) (zac st) .none kV dc pm an cd ct) cd:=⟨zqy d.l d.c,d.k,(za5 d.l d.c d.k).binds (ps:=[p0,p1]) fun _ _ _ _ _ _ us hl=>by obtain ⟨u,v,rfl⟩:=ul2 hl;exact b ..,W.mg_of X G d.a⟩
theorem MAt.m2 (d:MAt K m q st f oc od kV dc pm an cd ct sl) (p0 p1:Str) (b:∀(kV dc pm:Value) (an:Option Addr) (cd ct u v:Value),bindArgs (W.fnOf m q (zaq st) (zan st) (zac st) .none kV dc pm an cd ct) ⟨[u,v],[]⟩=pure ([p0,p1].zip [u,v]):=by intros;rfl):Mfn K m q st [p0,p1] f (W.fnOf m q (zaq st) (zan st) (zac st) .none kV dc pm an cd ct):=⟨za5 d.l d.c d.k,(za5 d.l d.c d.k).binds (ps:=[p0,p1]) fun _ _ _ _ _ _ us hl=>by obtain ⟨u,v,rfl⟩:=ul2 hl;exact b ..⟩
theorem DAt.d3 (d:DAt K x st f oc od kV dc pm an cd ct sl) (X:K.In h) (G:h.Ns mainGlobals mg) (p0 p1 p2:Str) (b:∀(kV dc pm:Value) (an:Option Addr) (cd ct u v s:Value),bindArgs (W.fnOf x x (zaq st) (zan st) (zac st) .none kV dc pm an cd ct) ⟨[u,v,s],[]⟩=pure ([p0,p1,p2].zip [u,v,s]):=by intros;rfl):Dfn K mg x st [p0,p1,p2] f (W.fnOf x x (zaq st) (zan st) (zac st) .none kV dc pm an cd ct):=⟨za5 d.l d.c d.k,(za5 d.l d.c d.k).binds (ps:=[p0,p1,p2]) fun _ _ _ _ _ _ us hl=>by obtain ⟨u,v,s,rfl⟩:=ul3 hl;exact b ..,W.mg_of X G d.a⟩
theorem MAt.m3 (d:MAt K m q st f oc od kV dc pm an cd ct sl) (p0 p1 p2:Str) (b:∀(kV dc pm:Value) (an:Option Addr) (cd ct u v s:Value),bindArgs (W.fnOf m q (zaq st) (zan st) (zac st) .none kV dc pm an cd ct) ⟨[u,v,s],[]⟩=pure ([p0,p1,p2].zip [u,v,s]):=by intros;rfl):Mfn K m q st [p0,p1,p2] f (W.fnOf m q (zaq st) (zan st) (zac st) .none kV dc pm an cd ct):=⟨za5 d.l d.c d.k,(za5 d.l d.c d.k).binds (ps:=[p0,p1,p2]) fun _ _ _ _ _ _ us hl=>by obtain ⟨u,v,s,rfl⟩:=ul3 hl;exact b ..⟩
theorem DAt.d4 (d:DAt K x st f oc od kV dc pm an cd ct sl) (X:K.In h) (G:h.Ns mainGlobals mg) (p0 p1 p2 p3:Str) (b:∀(kV dc pm:Value) (an:Option Addr) (cd ct u v s t:Value),bindArgs (W.fnOf x x (zaq st) (zan st) (zac st) .none kV dc pm an cd ct) ⟨[u,v,s,t],[]⟩=pure ([p0,p1,p2,p3].zip [u,v,s,t]):=by intros;rfl):Dfn K mg x st [p0,p1,p2,p3] f (W.fnOf x x (zaq st) (zan st) (zac st) .none kV dc pm an cd ct):=⟨za5 d.l d.c d.k,(za5 d.l d.c d.k).binds (ps:=[p0,p1,p2,p3]) fun _ _ _ _ _ _ us hl=>by obtain ⟨u,v,s,t,rfl⟩:=ul4 hl;exact b ..,W.mg_of X G d.a⟩
theorem MAt.m5 (d:MAt K m q st f oc od kV dc pm an cd ct sl) (p0 p1 p2 p3 p4:Str) (b:∀(kV dc pm:Value) (an:Option Addr) (cd ct u v s t a:Value),bindArgs (W.fnOf m q (zaq st) (zan st) (zac st) .none kV dc pm an cd ct) ⟨[u,v,s,t,a],[]⟩=pure ([p0,p1,p2,p3,p4].zip [u,v,s,t,a]):=by intros;rfl):Mfn K m q st [p0,p1,p2,p3,p4] f (W.fnOf m q (zaq st) (zan st) (zac st) .none kV dc pm an cd ct):=⟨za5 d.l d.c d.k,(za5 d.l d.c d.k).binds (ps:=[p0,p1,p2,p3,p4]) fun _ _ _ _ _ _ us hl=>by obtain ⟨u,v,s,t,a,rfl⟩:=ul5 hl;exact b ..⟩
theorem MAt.m6 (d:MAt K m q st f oc od kV dc pm an cd ct sl) (p0 p1 p2 p3 p4 p5:Str) (b:∀(kV dc pm:Value) (an:Option Addr) (cd ct u v s t a z:Value),bindArgs (W.fnOf m q (zaq st) (zan st) (zac st) .none kV dc pm an cd ct) ⟨[u,v,s,t,a,z],[]⟩=pure ([p0,p1,p2,p3,p4,p5].zip [u,v,s,t,a,z]):=by intros;rfl):Mfn K m q st [p0,p1,p2,p3,p4,p5] f (W.fnOf m q (zaq st) (zan st) (zac st) .none kV dc pm an cd ct):=⟨za5 d.l d.c d.k,(za5 d.l d.c d.k).binds (ps:=[p0,p1,p2,p3,p4,p5]) fun _ _ _ _ _ _ us hl=>by obtain ⟨u,v,s,t,a,z,rfl⟩:=ul6 hl;exact b ..⟩
end
theorem fsc {N P:List Str} {sc:Scope} (a:sc.kind=.function:=by rfl) (b:sc.isCoroutine=false:=by rfl) (c:sc.isGenerator=false:=by rfl) (d:N.Nodup:=by decide +kernel) (e:N.take P.length=P:=by rfl) (f:∀x∈P,sc.names.lookup x=some .local\/sc.names.lookup x=some .cell:=by decide +kernel) (g:∀y∈sc.names,y.2≠.free:=by decide +kernel):FnScope N P sc:=⟨a,b,c,d,e,f,g⟩
theorem Room.o {j k:Nat} {A:Around} (r:Room k A) (h:j<=k:=by decide):Room j A:=r.mono h
theorem cpo {X:Cx} {scope:Scope} {x:Str} {N:List Str} {js:List Nat} (c1:scope.kind=.function:=by rfl) (c2:(scope.names.all fun y=>y.2 != .cell)=true:=by rfl)
 (c3:(scope.names.all fun y=>y.2 != .local||scope.names.lookup y.1==some .local)=true:=by rfl) (c4:scope.names.lookup x=some .local:=by rfl) (c5:(scope.names.all fun y=>y.2 != .free||X.env.kindOf y.1==some .cell)=true:=by rfl)
 (nd:N.Nodup:=by decide +kernel) (hd:N[0]?=some x:=by rfl) (len:N.length=js.length+1:=by rfl) (c6:(scope.names.all fun y=>y.2 != .free||scope.names.lookup y.1 != some .local)=true:=by rfl)
 (c7:(((N.drop 1).zip js).all fun p=>X.N[p.2]?==some p.1&&X.env.scope.names.lookup p.1==some .cell&&scope.names.contains (p.1,NameKind.free))=true:=by rfl):CompScope X scope x N js:=CompScope.of c1 c2 c3 c4 c5 nd hd len c6 c7
theorem si0:0<=sizeLine:=by decide
theorem si1:1<=sizeLine:=by decide
theorem si2:2<=sizeLine:=by decide
theorem si3:3<=sizeLine:=by decide
theorem si4:4<=sizeLine:=by decide
theorem si5:5<=sizeLine:=by decide
theorem si7:7<=sizeLine:=by decide
theorem si8:8<=sizeLine:=by decide
end
end L2
namespace K79
open PySem L2
local macro_rules | `(tactic| walk_at "same") => `(tactic| first | exact Same.refl _ | assumption | (refine Same.trans (by assumption) ?_;walk_at "same"))
local macro_rules | `(tactic| walk_at "sq") => `(tactic| first | assumption | exact SqT.of (by assumption) | exact SqL.of (by assumption) | (refine Same.tup (by assumption) ?_;walk_at "sq") | (refine Same.seq (by assumption) ?_;walk_at "sq") | (refine Same.use (by assumption) ?_;walk_at "sq"))
local macro_rules | `(tactic| walk_at "leaf") => `(tactic| first | rfl | assumption | walk_at "sq" | (refine Or.inl ?_;walk_at "sq") | (refine Or.inr ?_;walk_at "sq") | exact sz _ (by decide) | exact ⟨by decide,by decide⟩ | exact ⟨by decide,by decide,by decide⟩ | exact Or.inl ⟨by decide,by decide⟩ | exact Or.inr ⟨by decide,by decide⟩ | (dsimp only;omega) | omega | exact Or.inl ⟨by omega,by omega⟩ | exact Or.inr ⟨by omega,by omega⟩ | exact ⟨by omega,by omega⟩ | (show (0:Int)<_;decide))
local macro_rules | `(tactic| walk_at "rd") => `(tactic| repeat (first | apply Exists.intro | refine And.intro (by walk_at "leaf") ?_ | refine iteT ?_ | refine iteF ?_))
abbrev pl0:List Str:=["self","number"]
abbrev pl1:List Str:=["number","sort_name","came","span","tries","spent"]
abbrev pl2:List Str:=["self","number","sort_name","came","span","tries","spent"]
abbrev pl3:List Str:=["self"]
abbrev pl4:List Str:=["thing","low","high"]
abbrev pl5:List Str:=["text","first","last"]
abbrev pl6:List Str:=["thing"]
abbrev pl7:List Str:=["self","name","weight","speed","span","tries"]
abbrev pl8:List Str:=["piece","sorts"]
abbrev pl9:List Str:=["claim","turn","common"]
abbrev pl10:List Str:=["claims","turn"]
abbrev pl11:List Str:=["chores","hands","turn"]
abbrev pl12:List Str:=["chores","numbers"]
abbrev pl13:List Str:=["chores","real"]
abbrev pl14:List Str:=["chores","hands","begin","real"]
abbrev pl15:List Str:=["chores","number"]
abbrev pl16:List Str:=["chores","hands","begin"]
abbrev pl17:List Str:=["chores","hands","begin","number"]
abbrev pl18:List Str:=["chores","hands","begin","told"]
abbrev pl19:List Str:=["pieces","sorts"]
abbrev pl20:List Str:=["self","sorts","hands"]
abbrev pl21:List Str:=["pieces","changed"]
abbrev pl22:List Str:=["self","pieces","sorts","hands","number"]
abbrev pl23:List Str:=["_law_script","_law_k"]
abbrev pl24:List Str:=["_law_cell_here","_law_k"]
abbrev pl25:List Str:=["_law_cell_here","_law_k","_law_many_here"]
abbrev pl26:List Str:=["_law_sorts","_law_hands"]
abbrev pl27:List Str:=["_law_house","_law_thing","_law_turn"]
abbrev pl28:List Str:=["_law_house","_law_word","_law_turn"]
abbrev pl29:List Str:=["_law_house","_law_cell_here"]
def top (i:Nat):Stmt:=PySem.Challenge.pw_greywait_k79_no_house_and_forty.main.body.getD i (.Pass ⟨0,0,0,0⟩)
abbrev zeU:Stmt:=top 13
abbrev zcH:Stmt:=top 14
abbrev zgB:Stmt:=top 15
abbrev zbQ:Stmt:=top 19
abbrev zhR:Stmt:=top 20
abbrev zdK:Stmt:=top 21
abbrev zc6:Stmt:=top 24
abbrev zb8:Stmt:=top 25
abbrev zdL:Stmt:=top 26
abbrev zax:Stmt:=top 27
abbrev zbp:Stmt:=top 28
abbrev zeV:Stmt:=top 29
abbrev zbR:Stmt:=top 31
abbrev zb9:Stmt:=top 32
abbrev zdM:Stmt:=top 33
abbrev zcn:Stmt:=top 35
abbrev zcI:Stmt:=top 36
abbrev zcJ:Stmt:=top 38
abbrev zcK:Stmt:=top 39
abbrev zc7:Stmt:=top 40
abbrev zc8:Stmt:=top 41
abbrev zdN:Stmt:=top 42
abbrev zeW:Stmt:=top 43
abbrev zeX:Stmt:=top 49
abbrev zeY:Stmt:=top 50
abbrev zhS:Stmt:=top 55
abbrev zeZ:Stmt:=top 56
abbrev zdO:Stmt:=top 57
abbrev zdP:Stmt:=top 59
abbrev zdQ:Stmt:=top 70
abbrev zc9:Stmt:=top 71
abbrev ze1:Stmt:=top 74
abbrev zgC:Stmt:=top 75
abbrev ze2:Stmt:=top 76
abbrev zda:Stmt:=top 77
abbrev zco:Stmt:=top 78
abbrev ze3:Stmt:=top 79
abbrev zcL:Stmt:=top 80
abbrev ze4:Stmt:=top 81
abbrev zdb:Stmt:=top 82
abbrev zdR:Stmt:=top 83
abbrev zlH:Stmt:=top 84
abbrev zaM:Stmt:=zas (top 45) 0
abbrev zca:Stmt:=zas (top 45) 3
abbrev zby:Stmt:=zas (top 45) 4
abbrev zcM:Stmt:=zas (top 45) 6
abbrev zbq:Stmt:=zas (top 45) 11
abbrev zcp:Stmt:=zas (top 46) 1
abbrev zdc:Stmt:=zas (top 46) 2
abbrev zbz:Stmt:=zas (top 46) 4
abbrev zbA:Stmt:=zas (top 47) 1
abbrev zbe:Stmt:=zas (top 47) 5
abbrev zcb:Stmt:=zas (top 58) 0
abbrev zcN:Stmt:=zas (top 58) 1
abbrev zbS:Stmt:=zas (top 60) 0
abbrev zcc:Stmt:=zas (top 60) 3
abbrev zbr:Stmt:=zas (top 64) 0
abbrev zbB:Stmt:=zas (top 64) 1
abbrev zcq:Stmt:=zas (top 64) 2
abbrev zcr:Stmt:=zas (top 64) 3
abbrev zbT:Stmt:=zas (top 72) 0
abbrev zbU:Stmt:=zas (top 72) 1
abbrev za7:Stmt:=zas (top 72) 2
abbrev za4:Stmt:=zas (top 72) 3
abbrev zcs:Stmt:=zas (top 72) 4
abbrev zbg:Stmt:=zas (top 72) 5
abbrev zbs:Stmt:=zas (top 72) 6
abbrev zcO:Stmt:=zas (top 72) 7
abbrev zbt:Stmt:=zas (top 72) 8
abbrev zdd:Stmt:=zas (top 72) 9
abbrev zcd:Stmt:=zas (top 72) 10
abbrev zde:Stmt:=zas (top 72) 11
abbrev zdf:Stmt:=zas (top 72) 15
abbrev zbV:Stmt:=zas (top 72) 16
abbrev zce:Stmt:=zas (top 72) 20
abbrev zdg:Stmt:=zas (top 72) 21
abbrev zbu:Stmt:=zas (top 72) 22
abbrev zbv:Stmt:=zas (top 72) 23
abbrev zbW:Stmt:=zas (top 72) 24
abbrev zi3:Stmt:=zas (top 4) 0
theorem zlI:FnScope ["self","name"] ["self","name"] (zac zi3):=fsc
abbrev zhz:Stmt:=zas (top 5) 0
theorem zjU:FnScope ["self","hands"] ["self","hands"] (zac zhz):=fsc
abbrev zi4:Stmt:=zas (top 6) 0
theorem zlJ:FnScope ["self","turn"] ["self","turn"] (zac zi4):=fsc
abbrev zhA:Stmt:=zas (top 7) 0
theorem zjV:FnScope pl0 pl0 (zac zhA):=fsc
abbrev znr:Stmt:=zas (top 8) 0
theorem zoY:FnScope pl0 pl0 (zac znr):=fsc
abbrev zkW:Stmt:=zas (top 10) 0
theorem zns:FnScope pl0 pl0 (zac zkW):=fsc
structure Txt (K:W.Frag) (mg:Str->Option Value) (Ag Aj Ak Ai Am Ao Av Ah Az Bb Ad Ab Aa Ap Ae AA Af AB Ac:Addr):Prop where
 nd:[Ag,Aj,Ak,Ai,Am,Ao,Av,Ah,Az].Nodup
 DQ:mg "WaitError" = some (.ref Ag)
 DR:XD K Ag [.type "ValueError",.type "Exception",.type "BaseException",.type "object"]
 Eu:XCls K Ag
 DG:mg "NoSorts" = some (.ref Aj)
 Bc:XD K Aj [.ref Ag,.type "ValueError",.type "Exception",.type "BaseException",.type "object"]
 C4:XCls K Aj
 Ei:mg "NoSort" = some (.ref Ak)
 Dy:XD K Ak [.ref Ag,.type "ValueError",.type "Exception",.type "BaseException",.type "object"]
 DZ:XCls K Ak
 Ej:zal K Ak "name"
 C5:mg "NoHands" = some (.ref Ai)
 AV:XD K Ai [.ref Ag,.type "ValueError",.type "Exception",.type "BaseException",.type "object"]
 C6:XCls K Ai
 D7:zal K Ai "hands"
 Ek:mg "NoTurn" = some (.ref Am)
 Dz:XD K Am [.ref Ag,.type "ValueError",.type "Exception",.type "BaseException",.type "object"]
 D0:XCls K Am
 El:zal K Am "turn"
 EG:mg "NoPiece" = some (.ref Ao)
 EH:XD K Ao [.ref Ag,.type "ValueError",.type "Exception",.type "BaseException",.type "object"]
 EI:XCls K Ao
 EJ:zal K Ao "number"
 E3:mg "Over" = some (.ref Av)
 E4:XD K Av [.ref Ag,.type "ValueError",.type "Exception",.type "BaseException",.type "object"]
 Ep:XCls K Av
 E5:zal K Av "number"
 C7:mg "TooMany" = some (.ref Ah)
 AW:XD K Ah [.ref Ag,.type "ValueError",.type "Exception",.type "BaseException",.type "object"]
 C8:XCls K Ah
 ER:mg "NoEnd" = some (.ref Az)
 ES:XD K Az [.ref Ag,.type "ValueError",.type "Exception",.type "BaseException",.type "object"]
 ET:XCls K Az
 EU:zal K Az "number"
 CS:mg "ValueError" = none
 ztk:mg "abs" = none
 zsn:mg "all" = none
 zso:mg "any" = none
 zsp:mg "bool" = none
 zsq:mg "dict" = none
 ztl:mg "int" = none
 zaA:mg "isinstance" = none
 zdS:mg "len" = none
 znt:mg "list" = none
 ztm:mg "min" = none
 znu:mg "range" = none
 zpG:mg "repr" = none
 ztn:mg "set" = none
 zoZ:mg "sorted" = none
 zto:mg "str" = none
 znv:mg "tuple" = none
 AE:∃t,mg "LONGEST_NAME" = some (.int 8 t)
 Bw:∃t,mg "MOST_TOP" = some (.int 1000000 t)
 AG:∃t,mg "MOST_BOTTOM" = some (.int 12 t)
 Bd:∃t,mg "MOST_TURN" = some (.int 1000000000000000 t)
 AX:∃t,mg "MOST_SORTS" = some (.int 8 t)
 Be:∃t,mg "MOST_SPAN" = some (.int 4 t)
 AY:∃t,mg "MOST_TRIES" = some (.int 3 t)
 AZ:∃t,mg "MOST_HANDS" = some (.int 6 t)
 Bf:∃t,mg "MOST_OPEN" = some (.int 40 t)
 As:∃t,mg "MOST_TURNS_TO_HOLD" = some (.int 400 t)
 EV:mg "Piece" = some (.ref Bb)
 EW:Own K Bb
 EK:mg "Held" = some (.ref Ad)
 Dv:Own K Ad
 Cp:zal K Ad "number"
 BM:zal K Ad "sort_name"
 C9:zal K Ad "came"
 Da:zal K Ad "span"
 CT:zal K Ad "tries"
 CU:zal K Ad "spent"
 DH:mg "Waiting" = some (.ref Ab)
 Bx:Own K Ab
 BN:zal K Ab "number"
 Bg:zal K Ab "sort_name"
 Cg:zal K Ab "came"
 Ci:zal K Ab "span"
 BX:zal K Ab "tries"
 BY:zal K Ab "spent"
 Ev:mg "CalledOff" = some (.ref Aa)
 AL:Own K Aa
 Bo:zal K Aa "number"
 A0:zal K Aa "sort_name"
 BO:zal K Aa "came"
 BP:zal K Aa "span"
 By:zal K Aa "tries"
 Bz:zal K Aa "spent"
 E6:mg "Sort" = some (.ref Ap)
 Dw:Own K Ap
 BI:zal K Ap "name"
 BJ:zal K Ap "weight"
 BZ:zal K Ap "speed"
 BK:zal K Ap "span"
 Bp:zal K Ap "tries"
 EX:mg "Sorts" = some (.ref Ae)
 DS:Own K Ae
 CV:zal K Ae "rows"
 EL:mg "Verdict" = some (.ref AA)
 EM:Own K AA
 EN:mg "Granted" = some (.ref Af)
 B0:Own K Af
 BQ:zal K Af "number"
 EO:mg "LateOne" = some (.ref AB)
 EQ:Own K AB
 EY:mg "House" = some (.ref Ac)
 An:Own K Ac
 At:zal K Ac "sorts"
 A9:zal K Ac "hands"
 Ax:zal K Ac "turn"
 Al:zal K Ac "pieces"
 AH:zal K Ac "numbers"
 DI:zal K Ac "rows"
 CY:W.kitOne K (.ref Aa) (.ref Ad)=some false
 Cm:W.kitOne K (.ref Aa) (.ref Ab)=some false
 DT:W.kitOne K (.ref Ad) (.ref Ad)=some true
 Do:W.kitOne K (.ref Ad) (.ref Ab)=some false
 Dp:W.kitOne K (.ref Ab) (.ref Ad)=some false
 CH:W.kitOne K (.ref Ab) (.ref Ab)=some true
 Db:W.kitOne K (.type "NoneType") (.type "bool")=some false
 Dq:W.kitOne K (.type "NoneType") (.type "int")=some false
 De:W.kitOne K (.type "NoneType") (.type "list")=some false
 Eg:W.kitOne K (.type "NoneType") (.type "str")=some false
 D6:W.kitOne K (.type "NoneType") (.type "tuple")=some false
 zjW:W.kitOne K (.type "bool") (.type "bool")=some true
 zrb:W.kitOne K (.type "bool") (.type "str")=some false
 zrc:W.kitOne K (.type "dict") (.type "str")=some false
 zlK:W.kitOne K (.type "int") (.type "bool")=some false
 znw:W.kitOne K (.type "int") (.type "int")=some true
 zrd:W.kitOne K (.type "int") (.type "list")=some false
 znx:W.kitOne K (.type "int") (.type "str")=some false
 zqO:W.kitOne K (.type "int") (.type "tuple")=some false
 zjX:W.kitOne K (.type "list") (.type "bool")=some false
 zlL:W.kitOne K (.type "list") (.type "int")=some false
 zgD:W.kitOne K (.type "list") (.type "list")=some true
 zre:W.kitOne K (.type "list") (.type "str")=some false
 zi5:W.kitOne K (.type "list") (.type "tuple")=some false
 zlM:W.kitOne K (.type "str") (.type "bool")=some false
 zny:W.kitOne K (.type "str") (.type "int")=some false
 zlN:W.kitOne K (.type "str") (.type "list")=some false
 znz:W.kitOne K (.type "str") (.type "str")=some true
 zqP:W.kitOne K (.type "str") (.type "tuple")=some false
 zpH:W.kitOne K (.type "tuple") (.type "bool")=some false
 zqQ:W.kitOne K (.type "tuple") (.type "int")=some false
 zfx:W.kitOne K (.type "tuple") (.type "list")=some false
 zqR:W.kitOne K (.type "tuple") (.type "str")=some false
 zb0:W.kitOne K (.type "tuple") (.type "tuple")=some true
section
variable {Ag Aj Ak Ai Am Ao Av Ah Az Bb Ad Ab Aa Ap Ae AA Af AB Ac:Addr}
variable {P:Program} {w:World} {K:W.Frag} {mg:Str->Option Value} {bf:Heap} {f:Addr} {fd:FuncData}
variable (T:Txt K mg Ag Aj Ak Ai Am Ao Av Ah Az Bb Ad Ab Aa Ap Ae AA Af AB Ac)
inductive Wd where
 | held
 | waiting
 | calledOff
 deriving DecidableEq
def Wd.str:Wd->Str
 | .held => "held"
 | .waiting => "waiting"
 | .calledOff => "called off"
def Wd.opn:Wd->Bool
 | .held=>true
 | .waiting=>true
 | _=>false
structure CsA where
 h:Addr
 w:Addr
 c:Addr
def CsA.cl (cs:CsA):Wd->Addr
 | .held=>cs.h
 | .waiting=>cs.w
 | .calledOff=>cs.c
structure Pv where
 n:Int
 nm:Str
 came:Int
 span:Int
 tries:Int
 spent:Int
def Pv.fs (p:Pv):List (Str × V):=[("number",.int p.n),("sort_name",.str p.nm),("came",.int p.came),("span",.int p.span),("tries",.int p.tries),("spent",.int p.spent)]
def IsPc (cs:CsA) (H:Hp) (a:Addr) (d:Wd) (p:Pv):Prop:=∃dx,H a=some (.ins (cs.cl d) dx p.fs)
theorem IsPc.same {cs:CsA} {H H':Hp} {a:Addr} {d:Wd} {p:Pv} (s:Same H H') (h:IsPc cs H a d p):IsPc cs H' a d p:=let ⟨dx,e⟩:=h;⟨dx,s _ _ e⟩
structure Six (K:W.Frag) (cs:CsA):Prop where
 ow:∀d,Own K (cs.cl d)
 n1:∀d,zal K (cs.cl d) "number"
 n2:∀d,zal K (cs.cl d) "sort_name"
 n3:∀d,zal K (cs.cl d) "came"
 n4:∀d,zal K (cs.cl d) "span"
 n5:∀d,zal K (cs.cl d) "tries"
 n6:∀d,zal K (cs.cl d) "spent"
def zpI:List Str:=pl1
theorem zbK (T:Txt K mg Ag Aj Ak Ai Am Ao Av Ah Az Bb Ad Ab Aa Ap Ae AA Af AB Ac):Six K (CsA.mk Ad Ab Aa) where
 ow d:=match d with | .held=>T.Dv | .waiting=>T.Bx | .calledOff=>T.AL
 n1 d:=match d with | .held=>T.Cp | .waiting=>T.BN | .calledOff=>T.Bo
 n2 d:=match d with | .held=>T.BM | .waiting=>T.Bg | .calledOff=>T.A0
 n3 d:=match d with | .held=>T.C9 | .waiting=>T.Cg | .calledOff=>T.BO
 n4 d:=match d with | .held=>T.Da | .waiting=>T.Ci | .calledOff=>T.BP
 n5 d:=match d with | .held=>T.CT | .waiting=>T.BX | .calledOff=>T.By
 n6 d:=match d with | .held=>T.CU | .waiting=>T.BY | .calledOff=>T.Bz
theorem no6 {C:Addr} (a:zal K C "number") (b:zal K C "sort_name") (c:zal K C "came") (d:zal K C "span") (e:zal K C "tries") (f:zal K C "spent"):∀g,g∈zpI->zal K C g:=fun g hg=>by
 rcases mem_cons.mp hg with rfl | hg
 ·exact a
 rcases mem_cons.mp hg with rfl | hg
 ·exact b
 rcases mem_cons.mp hg with rfl | hg
 ·exact c
 rcases mem_cons.mp hg with rfl | hg
 ·exact d
 rcases mem_cons.mp hg with rfl | hg
 ·exact e
 rw [mem_singleton.mp hg]
 exact f
theorem ze5:FnScope pl2 pl2 (zac zaM):=fsc
include T in
theorem ze6 {u:Value} (D:MfnE K "__init__" "Piece.__init__" zaM pl2 f fd u):FnOk P w K mg bf CX0 1 f fd pl2 (zkQ K zpI):=by
 refine D.F.ok ze5 (fun vs H Q E h=>?_) (fun cdv A outer s H vs Q E hr h=>?_)
 ·obtain ⟨x,C,dx,args,rfl,_,_,_,l,_⟩:=h
  rw [length_cons,l]
  rfl
 obtain ⟨x,C,dx,args,rfl,hx,cl,no,l,q⟩:=h
 obtain ⟨a1,a2,a3,a4,a5,a6,rfl⟩:=ul6 l
 refine ⟨_,(zag (zaO (pv 0) (pv 1))
  (zag (zaO (pv 0) (pv 2))
  (zag (zaO (pv 0) (pv 3))
  (zag (zaO (pv 0) (pv 4))
  (zag (zaO (pv 0) (pv 5))
  (zaf (zaO (pv 0) (pv 6)))))))),?_⟩
 refine ⟨_,rfl,_,rfl,x,C,dx,_,rfl,hx,cl,no _ (by decide),(by show (0:Nat)<1000;decide),fun H1 k1 h1=>?_⟩
 have h1:H1 x=some (.ins C dx [("number",a1)]):=by
  rw [h1]
  rfl
 refine ⟨_,rfl,_,rfl,x,C,dx,_,rfl,h1,cl,no _ (by decide),(by show (1:Nat)<1000;decide),fun H2 k2 h2=>?_⟩
 have h2:H2 x=some (.ins C dx [("number",a1),("sort_name",a2)]):=by
  rw [h2]
  rfl
 refine ⟨_,rfl,_,rfl,x,C,dx,_,rfl,h2,cl,no _ (by decide),(by show (2:Nat)<1000;decide),fun H3 k3 h3=>?_⟩
 have h3:H3 x=some (.ins C dx [("number",a1),("sort_name",a2),("came",a3)]):=by
  rw [h3]
  rfl
 refine ⟨_,rfl,_,rfl,x,C,dx,_,rfl,h3,cl,no _ (by decide),(by show (3:Nat)<1000;decide),fun H4 k4 h4=>?_⟩
 have h4:H4 x=some (.ins C dx [("number",a1),("sort_name",a2),("came",a3),("span",a4)]):=by
  rw [h4]
  rfl
 refine ⟨_,rfl,_,rfl,x,C,dx,_,rfl,h4,cl,no _ (by decide),(by show (4:Nat)<1000;decide),fun H5 k5 h5=>?_⟩
 have h5:H5 x=some (.ins C dx [("number",a1),("sort_name",a2),("came",a3),("span",a4),("tries",a5)]):=by
  rw [h5]
  rfl
 refine ⟨_,rfl,_,rfl,x,C,dx,_,rfl,h5,cl,no _ (by decide),(by show (5:Nat)<1000;decide),fun H6 k6 h6=>?_⟩
 have h6:H6 x=some (.ins C dx [("number",a1),("sort_name",a2),("came",a3),("span",a4),("tries",a5),("spent",a6)]):=by
  rw [h6]
  rfl
 exact q H6 (k1.trans (k2.trans (k3.trans (k4.trans (k5.trans k6))))) h6
def zi6 (cs:CsA) (d:Wd):Sp:=fun vs H Q _=>∃(a:Addr) (p:Pv),vs=[.ref a]/\IsPc cs H a d p/\Q (.bl d.opn) H
def ztp (cs:CsA):Sp:=fun vs H Q _=>∃a:Addr,vs=[.ref a]/\Q (.bl false) H
def Pv.left (p:Pv) (d:Wd):Int:=if d.opn=true then p.tries*p.span-p.spent else 0
structure Pv.Ok (p:Pv):Prop where
 s0:1<=p.span
 s1:p.span<=4
 t1:p.tries<=3
 t0:0<=p.tries
def znA (cs:CsA):Sp:=fun vs H Q _=>∃(a:Addr) (d:Wd) (p:Pv),vs=[.ref a]/\IsPc cs H a d p/\p.Ok/\Q (.int (p.left d)) H
theorem zfC:FnScope pl3 pl3 (zac zca):=fsc
include T in
theorem zfD (D:Mfn K "is_open" "Piece.is_open" zca pl3 f fd):FnOk P w K mg bf CX0 1 f fd pl3 (ztp (CsA.mk Ad Ab Aa)):=by
 refine D.F.ok zfC (fun vs H Q E h=>?_) (fun cdv A outer s H vs Q E hr h=>?_)
 ·obtain ⟨a,rfl,_⟩:=h
  rfl
 obtain ⟨a,rfl,q⟩:=h
 exact ⟨_,(zaf (zak zbm)),q⟩
theorem zgE:FnScope pl3 pl3 (zac zcp):=fsc
include T in
theorem zgF (D:Mfn K "is_open" "Held.is_open" zcp pl3 f fd):FnOk P w K mg bf CX0 1 f fd pl3 (zi6 (CsA.mk Ad Ab Aa) .held):=by
 refine D.F.ok zgE (fun vs H Q E h=>?_) (fun cdv A outer s H vs Q E hr h=>?_)
 ·obtain ⟨a,p,rfl,_⟩:=h
  rfl
 obtain ⟨a,p,rfl,hp,q⟩:=h
 exact ⟨_,(zaf (zak zbm)),q⟩
theorem zep:FnScope pl3 pl3 (zac zbA):=fsc
include T in
theorem zeq (D:Mfn K "is_open" "Waiting.is_open" zbA pl3 f fd):FnOk P w K mg bf CX0 1 f fd pl3 (zi6 (CsA.mk Ad Ab Aa) .waiting):=by
 refine D.F.ok zep (fun vs H Q E h=>?_) (fun cdv A outer s H vs Q E hr h=>?_)
 ·obtain ⟨a,p,rfl,_⟩:=h
  rfl
 obtain ⟨a,p,rfl,hp,q⟩:=h
 exact ⟨_,(zaf (zak zbm)),q⟩
theorem zer:FnScope pl3 pl3 (zac zby):=fsc
include T in
theorem zes (D:Mfn K "work_left" "Piece.work_left" zby pl3 f fd) (BA:∀d,MOk CX0 P w K mg bf 1 (CsA.cl (CsA.mk Ad Ab Aa) d) "is_open" (zi6 (CsA.mk Ad Ab Aa) d)):FnOk P w K mg bf CX0 2 f fd pl3 (znA (CsA.mk Ad Ab Aa)):=by
 refine D.F.ok zer (fun vs H Q E h=>?_) (fun cdv A outer s H vs Q E hr h=>?_)
 ·obtain ⟨a,d,p,rfl,_⟩:=h
  rfl
 obtain ⟨a,d,p,rfl,⟨dx,e⟩,ok,q⟩:=h
 refine ⟨_,(zaf (zak (zhD (zaQ (zaG (k:=1) (pv 0) hr.o zaT)) (zaD zkt (zaD zcv (zap (pv 0) rfl) (zap (pv 0) rfl)) (zap (pv 0) rfl)) zad))),?_⟩
 have S:=zbK T
 refine ⟨_,rfl,a,_,dx,_,_,rfl,e,rfl,BA d,a,p,rfl,⟨dx,e⟩,?_⟩
 unfold Pv.left at q
 cases ho:d.opn with
 | false=>
   rw [ho] at q
   exact ⟨_,rfl,iteF q⟩
 | true=>
   rw [ho] at q
   refine ⟨_,rfl,iteT ?_⟩
   refine ⟨_,rfl,a,_,dx,_,_,rfl,e,(S.ow d).cl,S.n5 d,rfl,_,rfl,a,_,dx,_,_,rfl,e,(S.ow d).cl,S.n4 d,rfl,_,_,rfl,rfl,.inl ⟨?_,?_⟩,_,rfl,a,_,dx,_,_,rfl,e,(S.ow d).cl,S.n6 d,rfl,_,_,rfl,rfl,q⟩
   ·have:=ok.t0
    show (-2 ^ 64:Int)<p.tries
    omega
   ·have:=ok.t1
    show p.tries<(2 ^ 64:Int)
    omega
def zkX (d:Wd) (p:Pv):Option (Wd × Pv):=match d with
 | .held=>some (.waiting,p)
 | _=>none
def zgG (d:Wd) (p:Pv):Option (Wd × Pv):=match d with
 | .held=>some (.calledOff,p)
 | .waiting=>some (.calledOff,p)
 | _=>none
def Deed (K:W.Frag) (cs:CsA) (cO:Addr) (H:Hp) (p:Pv) (r:Option (Wd × Pv)) (Q:VK) (E:XK):Prop:=
 (∀d' p',r=some (d',p')->∀a' H',Same H H'->IsPc cs H' a' d' p'->Q (.ref a') H')/\(r=none->∀x H',Same H H'->Told K H' x cO "number" (.int p.n)->E (.ref cO) (some x) H')
def zgH (K:W.Frag) (cs:CsA) (cO:Addr) (g:Wd->Pv->Option (Wd × Pv)) (d:Wd):Sp:=fun vs H Q E=>∃(a:Addr) (p:Pv),vs=[.ref a]/\IsPc cs H a d p/\Deed K cs cO H p (g d p) Q E
def zpJ (K:W.Frag) (cs:CsA) (cO:Addr):Sp:=fun vs H Q E=>∃(a:Addr) (d:Wd) (p:Pv),vs=[.ref a]/\IsPc cs H a d p/\∀x H',Same H H'->Told K H' x cO "number" (.int p.n)->E (.ref cO) (some x) H'
theorem zg3:FnScope pl3 pl3 (zac zcM):=fsc
include T in
theorem zg4 (D:Mfn K "taken" "Piece.taken" zcM pl3 f fd) (CW:XCal P w K mg bf "Over" Av "number"):FnOk P w K mg bf (CX1 P w) 3 f fd pl3 (zpJ K (CsA.mk Ad Ab Aa) Av):=by
 refine D.F.ok1 zg3 (fun vs H Q E h=>?_) (fun cdv A outer s H vs Q E hr h=>?_)
 ·obtain ⟨a,d,p,rfl,_⟩:=h
  rfl
 obtain ⟨a,d,p,rfl,⟨dx,e⟩,qE⟩:=h
 have S:=zbK T
 exact ⟨_,(zaf (zcF T.Ep hr.hd (zgo CW hr.o rfl (zaa (zap (pv 0) rfl) zae)))),_,rfl,a,_,dx,_,_,rfl,e,(S.ow d).cl,S.n1 d,rfl,_,rfl,zcz (Same.refl _) qE⟩
theorem zhT:FnScope pl3 pl3 (zac zdc):=fsc
include T in
theorem zhU (D:Mfn K "taken" "Held.taken" zdc pl3 f fd) (BB:Mak P w K mg bf "Waiting" Ab 1 pl1 (.int 0)):FnOk P w K mg bf (CX1 P w) 3 f fd pl3 (zgH K (CsA.mk Ad Ab Aa) Av zkX .held):=by
 refine D.F.ok1 zhT (fun vs H Q E h=>?_) (fun cdv A outer s H vs Q E hr h=>?_)
 ·obtain ⟨a,p,rfl,_⟩:=h
  rfl
 obtain ⟨a,p,rfl,⟨dx,e⟩,qY,_⟩:=h
 have S:=zbK T
 exact ⟨_,(zaf (zak (znn BB hr.o rfl (pai (zab (zap (pv 0) rfl) (zab (zap (pv 0) rfl) (zab (zap (pv 0) rfl) (zab (zap (pv 0) rfl) (zab (zap (pv 0) rfl) (zab (zap (pv 0) rfl) zay)))))))))),_,rfl,a,_,dx,_,_,rfl,e,(S.ow .held).cl,S.n1 .held,rfl,_,rfl,a,_,dx,_,_,rfl,e,(S.ow .held).cl,S.n2 .held,rfl,_,rfl,a,_,dx,_,_,rfl,e,(S.ow .held).cl,S.n3 .held,rfl,_,rfl,a,_,dx,_,_,rfl,e,(S.ow .held).cl,S.n4 .held,rfl,_,rfl,a,_,dx,_,_,rfl,e,(S.ow .held).cl,S.n5 .held,rfl,_,rfl,a,_,dx,_,_,rfl,e,(S.ow .held).cl,S.n6 .held,rfl,rfl,fun a' dx' H' s' n' h'=>qY _ _ rfl a' H' s' ⟨dx',h'⟩⟩
theorem zdT:FnScope pl3 pl3 (zac zbq):=fsc
include T in
theorem zdU (D:Mfn K "called_off" "Piece.called_off" zbq pl3 f fd) (CW:XCal P w K mg bf "Over" Av "number"):FnOk P w K mg bf (CX1 P w) 3 f fd pl3 (zpJ K (CsA.mk Ad Ab Aa) Av):=by
 refine D.F.ok1 zdT (fun vs H Q E h=>?_) (fun cdv A outer s H vs Q E hr h=>?_)
 ·obtain ⟨a,d,p,rfl,_⟩:=h
  rfl
 obtain ⟨a,d,p,rfl,⟨dx,e⟩,qE⟩:=h
 have S:=zbK T
 exact ⟨_,(zaf (zcF T.Ep hr.hd (zgo CW hr.o rfl (zaa (zap (pv 0) rfl) zae)))),_,rfl,a,_,dx,_,_,rfl,e,(S.ow d).cl,S.n1 d,rfl,_,rfl,zcz (Same.refl _) qE⟩
theorem zet:FnScope pl3 pl3 (zac zbz):=fsc
include T in
theorem zeu (D:Mfn K "called_off" "Held.called_off" zbz pl3 f fd) (AM:Mak P w K mg bf "CalledOff" Aa 1 pl1 (.int 0)):FnOk P w K mg bf (CX1 P w) 3 f fd pl3 (zgH K (CsA.mk Ad Ab Aa) Av zgG .held):=by
 refine D.F.ok1 zet (fun vs H Q E h=>?_) (fun cdv A outer s H vs Q E hr h=>?_)
 ·obtain ⟨a,p,rfl,_⟩:=h
  rfl
 obtain ⟨a,p,rfl,⟨dx,e⟩,qY,_⟩:=h
 have S:=zbK T
 exact ⟨_,(zaf (zak (znn AM hr.o rfl (pai (zab (zap (pv 0) rfl) (zab (zap (pv 0) rfl) (zab (zap (pv 0) rfl) (zab (zap (pv 0) rfl) (zab (zap (pv 0) rfl) (zab (zap (pv 0) rfl) zay)))))))))),_,rfl,a,_,dx,_,_,rfl,e,(S.ow .held).cl,S.n1 .held,rfl,_,rfl,a,_,dx,_,_,rfl,e,(S.ow .held).cl,S.n2 .held,rfl,_,rfl,a,_,dx,_,_,rfl,e,(S.ow .held).cl,S.n3 .held,rfl,_,rfl,a,_,dx,_,_,rfl,e,(S.ow .held).cl,S.n4 .held,rfl,_,rfl,a,_,dx,_,_,rfl,e,(S.ow .held).cl,S.n5 .held,rfl,_,rfl,a,_,dx,_,_,rfl,e,(S.ow .held).cl,S.n6 .held,rfl,rfl,fun a' dx' H' s' n' h'=>qY _ _ rfl a' H' s' ⟨dx',h'⟩⟩
theorem zdh:FnScope pl3 pl3 (zac zbe):=fsc
include T in
theorem zdi (D:Mfn K "called_off" "Waiting.called_off" zbe pl3 f fd) (AM:Mak P w K mg bf "CalledOff" Aa 1 pl1 (.int 0)):FnOk P w K mg bf (CX1 P w) 3 f fd pl3 (zgH K (CsA.mk Ad Ab Aa) Av zgG .waiting):=by
 refine D.F.ok1 zdh (fun vs H Q E h=>?_) (fun cdv A outer s H vs Q E hr h=>?_)
 ·obtain ⟨a,p,rfl,_⟩:=h
  rfl
 obtain ⟨a,p,rfl,⟨dx,e⟩,qY,_⟩:=h
 have S:=zbK T
 exact ⟨_,(zaf (zak (znn AM hr.o rfl (pai (zab (zap (pv 0) rfl) (zab (zap (pv 0) rfl) (zab (zap (pv 0) rfl) (zab (zap (pv 0) rfl) (zab (zap (pv 0) rfl) (zab (zap (pv 0) rfl) zay)))))))))),_,rfl,a,_,dx,_,_,rfl,e,(S.ow .waiting).cl,S.n1 .waiting,rfl,_,rfl,a,_,dx,_,_,rfl,e,(S.ow .waiting).cl,S.n2 .waiting,rfl,_,rfl,a,_,dx,_,_,rfl,e,(S.ow .waiting).cl,S.n3 .waiting,rfl,_,rfl,a,_,dx,_,_,rfl,e,(S.ow .waiting).cl,S.n4 .waiting,rfl,_,rfl,a,_,dx,_,_,rfl,e,(S.ow .waiting).cl,S.n5 .waiting,rfl,_,rfl,a,_,dx,_,_,rfl,e,(S.ow .waiting).cl,S.n6 .waiting,rfl,rfl,fun a' dx' H' s' n' h'=>qY _ _ rfl a' H' s' ⟨dx',h'⟩⟩
def zpa (K:W.Frag) (H:Hp) (x:V):Prop:=∃t,TyOf K H x t/\(W.kitOne K t (.type "bool")=some true\/(W.kitOne K t (.type "bool")=some false/\W.kitOne K t (.type "int")=some false))
theorem zpa.same {H H':Hp} {x:V} (s:Same H H') (h:zpa K H x):zpa K H' x:=let ⟨t,ty,k⟩:=h;⟨t,ty.same s,k⟩
def NoTy (K:W.Frag) (H:Hp) (n:String) (x:V):Prop:=∃t,TyOf K H x t/\W.kitOne K t (.type n)=some false
theorem NoTy.same {H H':Hp} {n:String} {x:V} (s:Same H H') (h:NoTy K H n x):NoTy K H' n x:=let ⟨t,ty,k⟩:=h;⟨t,ty.same s,k⟩
def betw (a b:Nat) (c:Nat):Bool:=decide (a<=c)&&decide (c<=b)
def zpK:Sp:=fun vs H Q _=>∃(x y z:Str) (a b:Nat),vs=[.str x,.str y,.str z]/\y.cps.toList=[a]/\z.cps.toList=[b]/\x.length<=100/\∀H',Same H H'->Q (.bl (x.cps.toList.all (betw a b))) H'
def zpb (cs:List Nat):Bool:=decide (1<=cs.length/\cs.length<=8)&&cs.all (betw 97 122)
theorem ca:(Str.ofString "a").cps.toList=[97]:=by decide +kernel
theorem cz:(Str.ofString "z").cps.toList=[122]:=by decide +kernel
def WhB (K:W.Frag) (H:Hp) (x:V) (lo hi:Int) (b:Bool):Prop:=(∃i,x=.int i/\b=(decide (lo<=i)&&decide (i<=hi)))\/(zpa K H x/\b=false)
theorem WhB.same {H H':Hp} {x:V} {lo hi:Int} {b:Bool} (s:Same H H') (h:WhB K H x lo hi b):WhB K H' x lo hi b:=h.imp id fun ⟨n,e⟩=>⟨n.same s,e⟩
def zbL (K:W.Frag):Sp:=fun vs H Q _=>∃(x:V) (lo hi:Int) (b:Bool),vs=[x,.int lo,.int hi]/\WhB K H x lo hi b/\Q (.bl b) H
def NmB (K:W.Frag) (H:Hp) (x:V) (b:Bool):Prop:=(∃z:Str,x=.str z/\z.length<=100/\b=zpb z.cps.toList)\/(NoTy K H "str" x/\b=false)
theorem NmB.same {H H':Hp} {x:V} {b:Bool} (s:Same H H') (h:NmB K H x b):NmB K H' x b:=h.imp id fun ⟨n,e⟩=>⟨n.same s,e⟩
def zpL (K:W.Frag):Sp:=fun vs H Q _=>∃(x:V) (b:Bool),vs=[x]/\NmB K H x b/\∀H',Same H H'->Q (.bl b) H'
def WtB (K:W.Frag) (H:Hp) (x:V) (b:Bool):Prop:=(∃p t u b1 b2,x=.ref p/\H p=some (.tup [t,u])/\WhB K H t 0 1000000 b1/\WhB K H u 1 12 b2/\b=(b1&&b2))\/(b=false/\((∃p xs,x=.ref p/\H p=some (.tup xs)/\xs.length≠2)\/NoTy K H "tuple" x))
theorem WtB.same {H H':Hp} {x:V} {b:Bool} (s:Same H H') (h:WtB K H x b):WtB K H' x b:=by
 rcases h with ⟨p,t,u,b1,b2,e,h1,h2,h3,h4⟩ | ⟨e,⟨p,xs,e1,h1,h2⟩ | h⟩
 ·exact .inl ⟨p,t,u,b1,b2,e,s _ _ h1,h2.same s,h3.same s,h4⟩
 ·exact .inr ⟨e,.inl ⟨p,xs,e1,s _ _ h1,h2⟩⟩
 ·exact .inr ⟨e,.inr (h.same s)⟩
def zsr (K:W.Frag):Sp:=fun vs H Q _=>∃(x:V) (b:Bool),vs=[x]/\WtB K H x b/\Q (.bl b) H
def RwB (K:W.Frag) (H:Hp) (x:V) (b:Bool):Prop:=
 (∃p a1 a2 a3 a4 a5 b1 b2 b3 b4 b5,x=.ref p/\H p=some (.tup [a1,a2,a3,a4,a5])/\NmB K H a1 b1/\WtB K H a2 b2/\WtB K H a3 b3/\WhB K H a4 1 4 b4/\WhB K H a5 1 3 b5/\b=(b1&&(b2&&(b3&&(b4&&b5))))) \/
 (b=false/\((∃p xs,x=.ref p/\H p=some (.tup xs)/\xs.length≠5)\/NoTy K H "tuple" x))
theorem RwB.same {H H':Hp} {x:V} {b:Bool} (s:Same H H') (h:RwB K H x b):RwB K H' x b:=by
 rcases h with ⟨p,a1,a2,a3,a4,a5,b1,b2,b3,b4,b5,e,h1,h2,h3,h4,h5,h6,h7⟩ | ⟨e,⟨p,xs,e1,h1,h2⟩ | h⟩
 ·exact .inl ⟨p,a1,a2,a3,a4,a5,b1,b2,b3,b4,b5,e,s _ _ h1,h2.same s,h3.same s,h4.same s,h5.same s,h6.same s,h7⟩
 ·exact .inr ⟨e,.inl ⟨p,xs,e1,s _ _ h1,h2⟩⟩
 ·exact .inr ⟨e,.inr (h.same s)⟩
def znB (K:W.Frag):Sp:=fun vs H Q _=>∃(x:V) (b:Bool),vs=[x]/\RwB K H x b/\∀H',Same H H'->Q (.bl b) H'
structure SR where
 nm:Str
 a:Int
 b:Int
 c:Int
 d:Int
 sp:Int
 tr:Int
structure SR.Ok (r:SR):Prop where
 nm:zpb r.nm.cps.toList=true
 nl:r.nm.length<=100
 a0:0<=r.a
 a1:r.a<=1000000
 b0:1<=r.b
 b1:r.b<=12
 c0:0<=r.c
 c1:r.c<=1000000
 d0:1<=r.d
 d1:r.d<=12
 s0:1<=r.sp
 s1:r.sp<=4
 t0:1<=r.tr
 t1:r.tr<=3
def IsSR (H:Hp) (p:Addr) (r:SR):Prop:=∃pw ps,H p=some (.tup [.str r.nm,.ref pw,.ref ps,.int r.sp,.int r.tr])/\H pw=some (.tup [.int r.a,.int r.b])/\H ps=some (.tup [.int r.c,.int r.d])
theorem IsSR.same {H H':Hp} {p:Addr} {r:SR} (s:Same H H') (h:IsSR H p r):IsSR H' p r:=let ⟨pw,ps,a,b,c⟩:=h;⟨pw,ps,s _ _ a,s _ _ b,s _ _ c⟩
theorem IsSR.but {H H':Hp} {p q:Addr} {r:SR} {o:HO} (s:But q H H') (hq:H q=some o) (nt:∀xs,o≠.tup xs) (h:IsSR H p r):IsSR H' p r:=by
 obtain ⟨pw,ps,a,b,c⟩:=h
 have ne:∀ {z xs},H z=some (.tup xs)->z≠q:=fun e z=>by rw [z,hq] at e;exact nt _ (Option.some.inj e)
 exact ⟨pw,ps,s _ _ (ne a) a,s _ _ (ne b) b,s _ _ (ne c) c⟩
structure IsSRs (H:Hp) (l:Addr) (xs:List (Addr × SR)):Prop where
 at_:H l=some (.lst (xs.map fun q=>V.ref q.1))
 sr:∀q,q∈xs->IsSR H q.1 q.2
theorem IsSRs.same {H H':Hp} {l:Addr} {xs:List (Addr × SR)} (s:Same H H') (h:IsSRs H l xs):IsSRs H' l xs:=⟨s _ _ h.at_,fun q hq=>(h.sr q hq).same s⟩
theorem IsSRs.but {H H':Hp} {l q:Addr} {xs:List (Addr × SR)} {o:HO} (s:But q H H') (hq:H q=some o) (nt:∀xs,o≠.tup xs) (ne:l≠q) (h:IsSRs H l xs):IsSRs H' l xs:=⟨s _ _ ne h.at_,fun z hz=>(h.sr z hz).but s hq nt⟩
def SR.low (r:SR):SR := { r with a:=r.a / M1.gd r.a r.b,b:=r.b / M1.gd r.a r.b,c:=r.c / M1.gd r.c r.d,d:=r.d / M1.gd r.c r.d }
theorem zhV {t b:Int} (h0:0<=t) (h1:t<=1000000) (hb:1<=b):0<=t / M1.gd t b/\t / M1.gd t b<=1000000:=by
 have g:=M1.gd_pos (x:=t) (show 0<b by omega)
 have a:=Int.ediv_nonneg h0 (show 0<=M1.gd t b by omega)
 have b:=Int.ediv_le_self (M1.gd t b) h0
 omega
theorem SR.Ok.low {r:SR} (h:r.Ok):r.low.Ok where
 nm:=h.nm
 nl:=h.nl
 a0:=(zhV h.a0 h.a1 h.b0).1
 a1:=(zhV h.a0 h.a1 h.b0).2
 b0:=M1.low_bot (show 0<r.b from h.b0)
 b1:=Int.le_trans (M1.low_bot_le (show 0<r.b from h.b0)) h.b1
 c0:=(zhV h.c0 h.c1 h.d0).1
 c1:=(zhV h.c0 h.c1 h.d0).2
 d0:=M1.low_bot (show 0<r.d from h.d0)
 d1:=Int.le_trans (M1.low_bot_le (show 0<r.d from h.d0)) h.d1
 s0:=h.s0
 s1:=h.s1
 t0:=h.t0
 t1:=h.t1
theorem SR.Ok.wh {lo hi i:Int} {H:Hp} (a:lo<=i) (b:i<=hi):WhB K H (.int i) lo hi true:=.inl ⟨i,rfl,by rw [decide_eq_true a,decide_eq_true b];rfl⟩
theorem IsSR.rw {H:Hp} {p:Addr} {r:SR} (h:IsSR H p r) (ok:r.Ok):RwB K H (.ref p) true:=by
 obtain ⟨pw,ps,a,b,c⟩:=h
 exact .inl ⟨p,_,_,_,_,_,true,true,true,true,true,rfl,a,.inl ⟨_,rfl,ok.nl,ok.nm.symm⟩,.inl ⟨pw,_,_,true,true,rfl,b,SR.Ok.wh ok.a0 ok.a1,SR.Ok.wh ok.b0 ok.b1,rfl⟩,
  .inl ⟨ps,_,_,true,true,rfl,c,SR.Ok.wh ok.c0 ok.c1,SR.Ok.wh ok.d0 ok.d1,rfl⟩,SR.Ok.wh ok.s0 ok.s1,SR.Ok.wh ok.t0 ok.t1,rfl⟩
structure RsOk (rs:List SR):Prop where
 l0:1<=rs.length
 l1:rs.length<=8
 ok:∀r,r∈rs->r.Ok
 nd:∀(i j:Nat) r s,rs[i]?=some r->rs[j]?=some s->r.nm=s.nm->i=j
def RsB (K:W.Frag) (H:Hp) (x:V) (b:Bool):Prop:=
 (∃l xs,x=.ref l/\IsSRs H l xs/\RsOk (xs.map (·.2))/\b=true) \/
 (b=false/\((∃l xs,x=.ref l/\H l=some (.lst xs)/\¬(1<=xs.length/\xs.length<=8)) \/
   (∃l xs,x=.ref l/\H l=some (.lst xs)/\xs.length<=8/\(∀(i:Nat) v,xs[i]?=some v->∃c,RwB K H v c)/\∃(i:Nat) (v:V),xs[i]?=some v/\RwB K H v false) \/
   (∃l xs,x=.ref l/\IsSRs H l xs/\xs.length<=8/\(∀q,q∈xs->q.2.Ok)/\∃(i j:Nat) (q p:Addr × SR),i<j/\xs[i]?=some q/\xs[j]?=some p/\q.2.nm=p.2.nm)\/NoTy K H "list" x))
def zi7 (K:W.Frag):Sp:=fun vs H Q _=>∃(x:V) (b:Bool),vs=[x]/\RsB K H x b/\∀H',Same H H'->Q (.bl b) H'
def zqS:Sp:=fun vs H Q _=>∃x y:Int,vs=[.int x,.int y]/\0<=x/\0<=y/\Q (.int (M1.gd x y)) H
def zkY:Sp:=fun vs H Q _=>∃t b:Int,vs=[.int t,.int b]/\0<b/\b<1000000000000000000000000000000000000000000000000000000000000/\
 ∀p H',Same H H'->H' p=some (.tup [.int (t / M1.gd t b),.int (b / M1.gd t b)])->Q (.ref p) H'
def znC:Sp:=fun vs H Q _=>∃(q:Addr) (t b:Int),vs=[.ref q]/\H q=some (.tup [.int t,.int b])/\1<=b/\b<=12/\∀p H',Same H H'->H' p=some (.tup [.int (t / M1.gd t b),.int (b / M1.gd t b)])->Q (.ref p) H'
def soF (nm:Str) (pw ps:Addr) (sp tr:Int):List (Str × V):=[("name",.str nm),("weight",.ref pw),("speed",.ref ps),("span",.int sp),("tries",.int tr)]
def soN:List Str:=["name","weight","speed","span","tries"]
def IsSo (cs:Addr) (H:Hp) (a:Addr) (r:SR):Prop:=∃dx pw ps,H a=some (.ins cs dx (soF r.nm pw ps r.sp r.tr))/\H pw=some (.tup [.int r.a,.int r.b])/\H ps=some (.tup [.int r.c,.int r.d])
theorem IsSo.same {cs:Addr} {H H':Hp} {a:Addr} {r:SR} (s:Same H H') (h:IsSo cs H a r):IsSo cs H' a r:=let ⟨dx,pw,ps,x,y,z⟩:=h;⟨dx,pw,ps,s _ _ x,s _ _ y,s _ _ z⟩
def zkZ (K:W.Frag):Sp:=fun vs H Q _=>∃(x C dx pw ps:Addr) (r:SR),vs=[.ref x,.str r.nm,.ref pw,.ref ps,.int r.sp,.int r.tr]/\H x=some (.ins C dx [])/\Cls K C/\(∀f,f∈soN->zal K C f)/\
 H pw=some (.tup [.int r.a,.int r.b])/\H ps=some (.tup [.int r.c,.int r.d])/\r.Ok/\
 ∀H' pw' ps',But x H H'->H' x=some (.ins C dx (soF r.nm pw' ps' r.sp r.tr))->H' pw'=some (.tup [.int r.low.a,.int r.low.b])->H' ps'=some (.tup [.int r.low.c,.int r.low.d])->Q .non H'
def znD (cs:Addr):Sp:=fun vs H Q _=>∃(pw ps:Addr) (r:SR),vs=[.str r.nm,.ref pw,.ref ps,.int r.sp,.int r.tr]/\H pw=some (.tup [.int r.a,.int r.b])/\H ps=some (.tup [.int r.c,.int r.d])/\r.Ok/\
 ∀a H',Same H H'->IsSo cs H' a r.low->Q (.ref a) H'
theorem zss {cs:Addr} (cl:Cls K cs) (no:∀f,f∈soN->zal K cs f):∀vs H Q E,znD cs vs H Q E->∀y dx,H y=none->H dx=none->dx≠y->zkZ K (.ref y::vs) (upd (upd H dx (.own y)) y (.ins cs dx [])) (fun v H2=>v=.non/\Q (.ref y) H2) E:=by
 rintro vs H Q E ⟨pw,ps,r,rfl,h1,h2,ok,q⟩ y dx ny nd ne
 have up:∀ {z o},H z=some o->(upd (upd H dx (.own y)) y (.ins cs dx [])) z=some o:=fun {z o} h=>by
  rw [zah (zaj h ny),zah (zaj h nd)]
  exact h
 refine ⟨y,cs,dx,pw,ps,r,rfl,zam,cl,no,up h1,up h2,ok,fun H' pw' ps' k a b c=>⟨rfl,q y H' (fun z o hz=>k z o (zaj hz ny) (up hz)) ⟨dx,pw',ps',a,b,c⟩⟩⟩
def znE (cs:Addr):Sp:=fun vs H Q _=>∃(a:Addr) (r:SR),vs=[.ref a]/\IsSo cs H a r/\∀p H',Same H H'->IsSR H' p r->Q (.ref p) H'
def znF (cs:Addr):Sp:=fun vs H Q _=>∃(p:Addr) (r:SR),vs=[.ref p]/\IsSR H p r/\r.Ok/\∀a H',Same H H'->IsSo cs H' a r.low->Q (.ref a) H'
def Bare (H:Hp) (a C:Addr):Prop:=∃ws,H a=some (XcO a C none ws)
theorem zhB {H H1:Hp} {C:Addr} {E:XK} (s0:Same H H1) (hE:∀a H',Same H H'->Bare H' a C->E (.ref C) (some a) H'):
  ∀a ws H2,Same H1 H2->H1 a=none->ws[1]?=some Value.none->H2 a=some (XcO a C none ws)->
   ∃a' dx vs,V.ref a=.ref a'/\H2 a'=some (XcO a' C dx vs)/\vs[1]?=some Value.none/\(∀y,dx=some y->∃fs,H2 y=some (.xd fs))/\∀vs',E (.ref C) (some a') (upd H2 a' (XcO a' C dx vs')):=by
 intro a ws H2 s1 n1 u1 e1
 refine ⟨a,none,ws,rfl,e1,u1,(fun y q=>by cases q),fun vs'=>hE a _ (fun b o q=>?_) ⟨vs',zam⟩⟩
 rw [zah (zaj (s0 b o q) n1)]
 exact s1 b o (s0 b o q)
def IsSt (ct:Addr) (H:Hp) (a:Addr) (rs:List SR):Prop:=∃dx l xs,H a=some (.ins ct dx [("rows",.ref l)])/\IsSRs H l xs/\xs.map (·.2)=rs
theorem IsSt.same {ct:Addr} {H H':Hp} {a:Addr} {rs:List SR} (s:Same H H') (h:IsSt ct H a rs):IsSt ct H' a rs:=let ⟨dx,l,xs,x,y,z⟩:=h;⟨dx,l,xs,s _ _ x,y.same s,z⟩
theorem RsB.same {H H':Hp} {z:V} {b:Bool} (up:Same H H') (h1:RsB K H z b):RsB K H' z b:=by
 rcases h1 with ⟨l,xs,e,g,k,eb⟩ | ⟨eb,⟨l,xs,e,g,k⟩ | ⟨l,xs,e,g,k,m,n⟩ | ⟨l,xs,e,g,k,m,n⟩ | n⟩
 ·exact .inl ⟨l,xs,e,g.same up,k,eb⟩
 ·exact .inr ⟨eb,.inl ⟨l,xs,e,up _ _ g,k⟩⟩
 ·obtain ⟨i,v,i1,i2⟩:=n
  exact .inr ⟨eb,.inr (.inl ⟨l,xs,e,up _ _ g,k,fun i v hv=>let ⟨c,hc⟩:=m i v hv;⟨c,hc.same up⟩,i,v,i1,i2.same up⟩)⟩
 ·exact .inr ⟨eb,.inr (.inr (.inl ⟨l,xs,e,g.same up,k,m,n⟩))⟩
 ·exact .inr ⟨eb,.inr (.inr (.inr (n.same up)))⟩
def zk1 (K:W.Frag) (cN:Addr):Sp:=fun vs H Q E=>∃(x C dx:Addr) (y:V),vs=[.ref x,y]/\H x=some (.ins C dx [])/\Cls K C/\zal K C "rows" /\
 ((∃l xs,y=.ref l/\IsSRs H l xs/\RsOk (xs.map (·.2))/\∀H' m ys,But x H H'->H' x=some (.ins C dx [("rows",.ref m)])->IsSRs H' m ys->ys.map (·.2)=xs.map (·.2.low)->Q .non H') \/
  (RsB K H y false/\∀a H',Same H H'->Bare H' a cN->E (.ref cN) (some a) H'))
def znG (K:W.Frag) (ct cN:Addr):Sp:=fun vs H Q E=>∃(y:V),vs=[y]/\
 ((∃l xs,y=.ref l/\IsSRs H l xs/\RsOk (xs.map (·.2))/\∀a H',Same H H'->IsSt ct H' a (xs.map (·.2.low))->Q (.ref a) H') \/
  (RsB K H y false/\∀a H',Same H H'->Bare H' a cN->E (.ref cN) (some a) H'))
theorem zst {ct cN:Addr} (cl:Cls K ct) (no:zal K ct "rows"):∀vs H Q E,znG K ct cN vs H Q E->∀y dx,H y=none->H dx=none->dx≠y->zk1 K cN (.ref y::vs) (upd (upd H dx (.own y)) y (.ins ct dx [])) (fun v H2=>v=.non/\Q (.ref y) H2) E:=by
 rintro vs H Q E ⟨z,rfl,h⟩ y dx ny nd ne
 have up:Same H (upd (upd H dx (.own y)) y (.ins ct dx [])):=fun z o h=>by
  rw [zah (zaj h ny),zah (zaj h nd)]
  exact h
 refine ⟨y,ct,dx,z,rfl,zam,cl,no,?_⟩
 rcases h with ⟨l,xs,e,g,k,q⟩ | ⟨hb,q⟩
 ·exact .inl ⟨l,xs,e,g.same up,k,fun H' m ys bt hy hm em=>⟨rfl,q y H' (fun w o hw=>bt w o (zaj hw ny) (up w o hw)) ⟨dx,m,ys,hy,hm,em⟩⟩⟩
 ·exact .inr ⟨hb.same up,fun a H' s' hB=>q a H' (up.trans s') hB⟩
def NoNm (K:W.Frag) (H:Hp) (rs:List SR) (x:V):Prop:=(∃z,x=.str z/\∀r,r∈rs->r.nm≠z)\/(x=.non\/(∃b,x=.bl b)\/∃i,x=.int i)\/∃(p:Addr) (o:HO),x=.ref p/\H p=some o/\((∃xs,o=.tup xs)\/(∃xs,o=.lst xs)\/∃kvs,o=.dK kvs)
def zfZ (K:W.Frag) (cs ct cN:Addr):Sp:=fun vs H Q E=>∃(a:Addr) (rs:List SR) (x:V),vs=[.ref a,x]/\IsSt ct H a rs/\rs.length<=8/\(∀r,r∈rs->r.Ok)/\
 ((∃r,r∈rs/\x=.str r.nm/\(∀s,s∈rs->s.nm=r.nm->s=r)/\∀b H',Same H H'->IsSo cs H' b r.low->Q (.ref b) H') \/
  (NoNm K H rs x/\∀b H',Same H H'->Told K H' b cN "name" x->E (.ref cN) (some b) H'))
theorem NoNm.same {H H':Hp} {rs:List SR} {x:V} (s:Same H H') (h:NoNm K H rs x):NoNm K H' rs x:=h.imp id fun h=>h.imp id fun ⟨p,o,e,ho,k⟩=>⟨p,o,e,s _ _ ho,k⟩
theorem NoNm.eqS {H:Hp} {rs:List SR} {x:V} {r:SR} {Q:VK} (h:NoNm K H rs x) (m:r∈rs) (q:Q (.bl false) H):rEqS (.str r.nm) x H Q:=by
 refine ⟨_,rfl,?_⟩
 rcases h with ⟨z,rfl,h⟩ | (rfl | ⟨b,rfl⟩ | ⟨i,rfl⟩) | ⟨p,o,e,ho,k⟩
 ·refine .inl ⟨z,rfl,?_⟩
  rw [decide_eq_false (h r m)]
  exact q
 ·exact .inr (.inl ⟨rfl,q⟩)
 ·exact .inr (.inr (.inl ⟨b,rfl,q⟩))
 ·exact .inr (.inr (.inr (.inl ⟨i,rfl,q⟩)))
 ·exact .inr (.inr (.inr (.inr ⟨p,o,e,ho,k,q⟩)))
theorem zjY:FnScope pl4 pl4 (zac zeU):=fsc
include T in
theorem zjZ (D:Dfn K mg "is_whole" zeU pl4 f fd):Cal P w K mg bf "is_whole" 1 pl4 (zbL K):=by
 refine D.cal (D.F.ok zjY (fun vs H Q E h=>?_) (fun cdv A outer s H vs Q E hr h=>?_))
 ·obtain ⟨x,lo,hi,b,rfl,_⟩:=h
  rfl
 obtain ⟨x,lo,hi,b,rfl,h,q⟩:=h
 refine ⟨_,(zag (za9 (PW.pt (zga (zaQ (zar (zb6 (n := "bool")) rfl T.zaA zav (zaa (pv 0) (zaa (zc1 (v:=.ty "bool") rfl T.zsp zql rfl) zae)))) (zed (za0 (zaQ (zar (zb6 (n := "int")) rfl T.zaA zav (zaa (pv 0) (zaa (zc1 (v:=.ty "int") rfl T.ztl zrC rfl) zae)))))))) (zaf (zak zbm)) zaC)
  (zaf (zak (zhE zjB zjB (pv 1) (pv 0) (pv 2))))),?_⟩
 rcases h with ⟨i,rfl,rfl⟩ | ⟨⟨t,ty,hk | ⟨hk,hi2⟩⟩,rfl⟩
 ·refine ⟨_,rfl,_,_,_,rfl,.old (.int i),T.zlK,_,rfl,iteF ?_⟩
  refine ⟨_,rfl,_,_,_,rfl,.old (.int i),T.znw,_,rfl,iteF ?_⟩
  refine ⟨_,rfl,_,rfl,_,_,rfl,rfl,_,rfl,?_⟩
  refine ite2 (fun c=>?_) (fun c=>?_)
  ·rw [c,Bool.true_and] at q
   exact ⟨_,rfl,_,_,rfl,rfl,q⟩
  ·rw [Bool.eq_false_iff.mpr c,Bool.false_and] at q
   exact q
 ·refine ⟨_,rfl,_,_,_,rfl,.old ty,hk,_,rfl,iteT (iteT ?_)⟩
  exact q
 ·refine ⟨_,rfl,_,_,_,rfl,.old ty,hk,_,rfl,iteF ?_⟩
  refine ⟨_,rfl,_,_,_,rfl,.old ty,hi2,_,rfl,iteT ?_⟩
  exact q
theorem zg5:FnScope pl5 pl5 (zac zcH):=fsc
include T in
theorem zg6 (D:Dfn K mg "all_between" zcH pl5 f fd):Cal P w K mg bf "all_between" 1 pl5 zpK:=by
 refine D.cal (D.F.ok zg5 (fun vs H Q E h=>?_) (fun cdv A outer s H vs Q E hr h=>?_))
 ·obtain ⟨x,y,z,a,b,rfl,_⟩:=h
  rfl
 obtain ⟨x,y,z,a,b,rfl,hy,hz,hl,q⟩:=h
 refine ⟨_,(zaf (zak (zar (ziJ rfl) rfl T.zsn zpt (zaa (zbd (N:=["sign","first","last"]) (js:=[1,2]) rfl cpo (zrF (pv 0)) (fun _ _ _ _ _=>zcy) (fun _ _ _ _ _=>(zhE ziI ziI (pv 1) (pv 0) (pv 2)))) zae)))),?_⟩
 refine ⟨_,rfl,x,rfl,zou (x:=x) (fun _=>true) (fun c=>.bl (betw a b c)) (fun c Hh Q' q'=>q') (fun c Hh Q' q'=>?_) (zaI (by omega)) (fun D H2 s2 hD=>?_)⟩
 ·refine ⟨_,rfl,_,rfl,_,_,rfl,rfl,_,rfl,?_⟩
  have e1:=le_1 (x:=y) (y:=⟨#[c]⟩) (c:=a) (a:=c) hy rfl
  have e2:=le_1 (x:=⟨#[c]⟩) (y:=z) (c:=c) (a:=b) rfl hz
  unfold betw at q'
  rw [<-e1,<-e2] at q'
  refine ite2 (fun d=>?_) (fun d=>?_)
  ·rw [d,Bool.true_and] at q'
   exact ⟨_,rfl,_,_,rfl,rfl,q'⟩
  ·rw [Bool.eq_false_iff.mpr d,Bool.false_and] at q'
   exact q'
 ·have e:(x.cps.toList.filter fun _=>true)=x.cps.toList:=filter_eq_self.mpr fun _ _=>rfl
  rw [e] at hD
  refine ⟨D,x.cps.toList.map (betw a b),rfl,SqL.of (by rw [map_map];exact hD),?_⟩
  rw [List.all_map]
  exact q H2 s2
theorem zlO:FnScope pl6 pl6 (zac zgB):=fsc
include T in
theorem zlP (D:Dfn K mg "is_name" zgB pl6 f fd) (zcP:Cal P w K mg bf "all_between" 1 pl5 zpK):Cal P w K mg bf "is_name" 2 pl6 (zpL K):=by
 refine D.cal (D.F.ok zlO (fun vs H Q E h=>?_) (fun cdv A outer s H vs Q E hr h=>?_))
 ·obtain ⟨x,b,rfl,_⟩:=h
  rfl
 obtain ⟨x,b,rfl,h,q⟩:=h
 refine ⟨_,(zag (za9 (za0 (zaQ (zar (zb6 (n := "str")) rfl T.zaA zav (zaa (pv 0) (zaa (zc1 (v:=.ty "str") rfl T.zto zrD rfl) zae))))) (zaf (zak zbm)) zaC)
  (zaf (zak (zhl (zhE zjB zjB zad (zar ziB rfl T.zdS zck (zaa (pv 0) zae)) (zaZ (v:=.int 8) rfl T.AE.choose_spec ⟨_,rfl⟩)) (zhk (zao zcP hr.o rfl (zaa (pv 0) (zaa zaB (zaa zaB zae))))))))),?_⟩
 rcases h with ⟨z,rfl,hl,rfl⟩ | ⟨⟨t,ty,hk⟩,rfl⟩
 ·refine ⟨_,rfl,_,_,_,rfl,.old (.str z),T.znz,_,rfl,iteF ?_⟩
  refine ⟨_,rfl,z,rfl,zrH (by omega),_,_,rfl,rfl,_,rfl,?_⟩
  unfold zpb at q
  rw [zqp] at q
  refine ite2 (fun c=>?_) (fun c=>?_)
  ·have c':(1:Int)<=(z.length:Int):=of_decide_eq_true c
   refine ⟨_,_,rfl,rfl,_,rfl,?_⟩
   refine ite2 (fun d=>?_) (fun d=>?_)
   ·have d':(z.length:Int)<=8:=of_decide_eq_true d
    rw [decide_eq_true (by omega),Bool.true_and] at q
    exact ⟨_,rfl,z,_,_,97,122,rfl,ca,cz,hl,fun H' s'=>q H' s'⟩
   ·have d':¬(z.length:Int)<=8:=of_decide_eq_false (Bool.eq_false_iff.mpr d)
    rw [decide_eq_false (by omega),Bool.false_and] at q
    exact q H (Same.refl H)
  ·have c':¬(1:Int)<=(z.length:Int):=of_decide_eq_false (Bool.eq_false_iff.mpr c)
   rw [decide_eq_false (by omega),Bool.false_and] at q
   exact ⟨_,rfl,iteF (q H (Same.refl H))⟩
 ·refine ⟨_,rfl,_,_,_,rfl,.old ty,hk,_,rfl,iteT ?_⟩
  exact q H (Same.refl H)
theorem zbb:FnScope ["one","other","rest"] ["one","other"] (zac zbQ):=fsc
include T in
theorem ze7 (D:Dfn K mg "common_divisor" zbQ ["one","other"] f fd):Cal P w K mg bf "common_divisor" 1 ["one","other"] zqS:=by
 refine D.cal (D.F.ok zbb (fun vs H Q E h=>?_) (fun cdv A outer s H vs Q E hr h=>?_))
 ·obtain ⟨x,y,rfl,_⟩:=h
  rfl
 obtain ⟨x,y,rfl,hx,hy,q⟩:=h
 refine ⟨_,(zag (zkq PassesOwn.never (zaE zg2 (pv 1) zad (zaJ _)) (zag (zaz (i:=2) zbb.nd rfl (Or.inl rfl) (zaD zcw (pv 0) (pv 1)))
  (zag (zaz (i:=0) zbb.nd rfl (Or.inl rfl) (pv 1))
  (zaf (zaz (i:=1) zbb.nd rfl (Or.inl rfl) (pv 2))))))
  (zaf (zak (pv 0)))),?_⟩
 refine zks (fun σ H'=>∃(a b:Int) (r:Option V),σ=[some (.int a),some (.int b),r]/\0<=a/\0<=b/\M1.gd a b=M1.gd x y/\H'=H)
  (fun σ _=>match σ with | [_,some (.int b),_]=>b.toNat | _=>0) ⟨x,y,none,rfl,hx,hy,rfl,rfl⟩ ?_ ?_
 ·rintro σ H' ⟨a,b,r,rfl,ha,hb,hg,rfl⟩
  refine ⟨_,rfl,_,_,rfl,rfl,_,rfl,?_⟩
  refine ite2 (fun c=>?_) (fun c=>?_)
  ·have c':0<b:=of_decide_eq_true c
   have m1:=Int.emod_nonneg a (show b≠0 by omega)
   have m2:=Int.emod_lt_of_pos a c'
   refine ⟨_,rfl,_,rfl,_,_,rfl,rfl,c',_,rfl,_,rfl,?_⟩
   refine ⟨⟨b,a % b,_,rfl,hb,m1,M1.gd_step.trans hg,rfl⟩,?_⟩
   show (a % b).toNat<b.toNat
   omega
  ·have c':¬ 0<b:=of_decide_eq_false (Bool.eq_false_iff.mpr c)
   have e:b=0:=by omega
   subst e
   rw [M1.gd_zero ha] at hg
   refine ⟨_,rfl,?_⟩
   rw [hg]
   exact q
 ·rintro σ H' Q1 Q2 hq ⟨v,e,i,j,e1,e2,k,ek,q1⟩
  exact ⟨v,e,i,j,e1,e2,k,ek,hq _ _ q1⟩
theorem zi8:FnScope ["top","bottom","divisor"] ["top","bottom"] (zac zhR):=fsc
include T in
theorem znH (D:Dfn K mg "lowest" zhR ["top","bottom"] f fd) (zaS:Cal P w K mg bf "common_divisor" 1 ["one","other"] zqS):Cal P w K mg bf "lowest" 2 ["top","bottom"] zkY:=by
 refine D.cal (D.F.ok zi8 (fun vs H Q E h=>?_) (fun cdv A outer s H vs Q E hr h=>?_))
 ·obtain ⟨x,y,rfl,_⟩:=h
  rfl
 obtain ⟨x,y,rfl,hy,hz,q⟩:=h
 refine ⟨_,(zag (zaz (i:=2) zi8.nd rfl (Or.inl rfl) (zao zaS hr.o rfl (zaa (zar zok rfl T.ztk zrA (zaa (pv 0) zae)) (zaa (pv 1) zae))))
  (zaf (zak (zai (zaa (zaD zef (pv 0) (pv 2)) (zaa (zaD zef (pv 1) (pv 2)) zae)))))),?_⟩
 have g1:=M1.gd_pos (x:=x) hy
 have g2:=M1.gd_le (x:=x) hy
 have ga:0<=(if x<0 then -x else x):=by split<;>omega
 refine ⟨_,rfl,_,rfl,_,rfl,_,_,rfl,ga,by omega,?_⟩
 rw [M1.gd_abs]
 refine ⟨_,rfl,_,rfl,_,_,rfl,rfl,⟨g1,by omega⟩,_,rfl,_,rfl,_,_,rfl,rfl,⟨g1,by omega⟩,si2,fun p H2 sm hn hp=>?_⟩
 exact q p H2 sm hp
theorem zi9:FnScope pl6 pl6 (zac zdK):=fsc
include T in
theorem zja (D:Dfn K mg "is_weight" zdK pl6 f fd) (zau:Cal P w K mg bf "is_whole" 1 pl4 (zbL K)):Cal P w K mg bf "is_weight" 2 pl6 (zsr K):=by
 refine D.cal (D.F.ok zi9 (fun vs H Q E h=>?_) (fun cdv A outer s H vs Q E hr h=>?_))
 ·obtain ⟨x,b,rfl,_⟩:=h
  rfl
 obtain ⟨x,b,rfl,h,q⟩:=h
 refine ⟨_,(zag (za9 (PW.pt (zga (za0 (zaQ (zar (zb6 (n := "tuple")) rfl T.zaA zav (zaa (pv 0) (zaa (zc1 (v:=.ty "tuple") rfl T.znv zkz rfl) zae))))) (zed (zaE zqc (zar zaF rfl T.zdS zck (zaa (pv 0) zae)) zad (zaJ _))))) (zaf (zak zbm)) zaC)
  (zaf (zak (zhl (zao zau hr.o rfl (zaa (zaH zaw (pv 0) zad (fun _ _=>rfl)) (zaa zad (zaa (zaZ (v:=.int 1000000) rfl T.Bw.choose_spec ⟨_,rfl⟩) zae)))) (zhk (zao zau hr.o rfl (zaa (zaH zaw (pv 0) zad (fun _ _=>rfl)) (zaa zad (zaa (zaZ (v:=.int 12) rfl T.AG.choose_spec ⟨_,rfl⟩) zae))))))))),?_⟩
 rcases h with ⟨p,t,u,b1,b2,rfl,hp,w1,w2,rfl⟩ | ⟨rfl,⟨p,xs,rfl,hp,hn⟩ | ⟨t,ty,e⟩⟩
 ·refine ⟨_,rfl,_,_,_,rfl,.old (.tup hp),T.zb0,_,rfl,iteF ?_⟩
  refine ⟨_,rfl,p,_,rfl,.inr (SqT.of hp),rfl,_,rfl,?_⟩
  refine ite2 (fun c=>absurd rfl (zqn c)) (fun _=>?_)
  refine ⟨_,rfl,p,_,_,_,rfl,rfl,SqT.of hp,rfl,_,_,_,b1,rfl,w1,_,rfl,?_⟩
  cases b1 with
  | true=>exact iteT ⟨_,rfl,p,_,_,_,rfl,rfl,SqT.of hp,rfl,_,_,_,b2,rfl,w2,q⟩
  | false=>exact iteF q
 ·refine ⟨_,rfl,_,_,_,rfl,.old (.tup hp),T.zb0,_,rfl,iteF ?_⟩
  refine ⟨_,rfl,p,xs,rfl,.inr (SqT.of hp),rfl,_,rfl,?_⟩
  exact ite2 (fun _=>q) (fun c=>absurd (by have:=zrE c;omega) hn)
 ·refine ⟨_,rfl,_,_,_,rfl,.old ty,e,_,rfl,iteT (iteT ?_)⟩
  exact q
theorem znI:FnScope pl6 pl6 (zac zhS):=fsc
include T in
theorem znJ (D:Dfn K mg "is_row" zhS pl6 f fd) (zau:Cal P w K mg bf "is_whole" 1 pl4 (zbL K)) (zgI:Cal P w K mg bf "is_name" 2 pl6 (zpL K)) (zcQ:Cal P w K mg bf "is_weight" 2 pl6 (zsr K)):Cal P w K mg bf "is_row" 3 pl6 (znB K):=by
 refine D.cal (D.F.ok znI (fun vs H Q E h=>?_) (fun cdv A outer s H vs Q E hr h=>?_))
 ·obtain ⟨x,b,rfl,_⟩:=h
  rfl
 obtain ⟨x,b,rfl,h,q⟩:=h
 refine ⟨_,(zag (za9 (PW.pt (zga (za0 (zaQ (zar (zb6 (n := "tuple")) rfl T.zaA zav (zaa (pv 0) (zaa (zc1 (v:=.ty "tuple") rfl T.znv zkz rfl) zae))))) (zed (zaE zqc (zar zaF rfl T.zdS zck (zaa (pv 0) zae)) zad (zaJ _))))) (zaf (zak zbm)) zaC)
  (zag (za9 (PW.pt (zga (za0 (zaQ (zao zgI hr.o rfl (zaa (zaH zaw (pv 0) zad (fun _ _=>rfl)) zae)))) (zga (za0 (zaQ (zao zcQ hr.o rfl (zaa (zaH zaw (pv 0) zad (fun _ _=>rfl)) zae)))) (zed (za0 (zaQ (zao zcQ hr.o rfl (zaa (zaH zaw (pv 0) zad (fun _ _=>rfl)) zae)))))))) (zaf (zak zbm)) zaC)
  (zaf (zak (zhl (zao zau hr.o rfl (zaa (zaH zaw (pv 0) zad (fun _ _=>rfl)) (zaa zad (zaa (zaZ (v:=.int 4) rfl T.Be.choose_spec ⟨_,rfl⟩) zae)))) (zhk (zao zau hr.o rfl (zaa (zaH zaw (pv 0) zad (fun _ _=>rfl)) (zaa zad (zaa (zaZ (v:=.int 3) rfl T.AY.choose_spec ⟨_,rfl⟩) zae)))))))))),?_⟩
 rcases h with ⟨p,a1,a2,a3,a4,a5,b1,b2,b3,b4,b5,rfl,hp,h1,h2,h3,h4,h5,rfl⟩ | ⟨rfl,⟨p,xs,rfl,hp,hn⟩ | ⟨t,ty,e⟩⟩
 ·refine ⟨_,rfl,_,_,_,rfl,.old (.tup hp),T.zb0,_,rfl,iteF ?_⟩
  refine ⟨_,rfl,p,_,rfl,.inr (SqT.of hp),rfl,_,rfl,?_⟩
  refine ite2 (fun c=>absurd rfl (zqn c)) (fun _=>?_)
  refine ⟨_,rfl,p,_,_,_,rfl,rfl,SqT.of hp,rfl,_,b1,rfl,h1,fun H1 s1=>⟨_,rfl,?_⟩⟩
  have p1:=s1 _ _ hp
  cases b1 with
  | false=>exact iteT (q H1 s1)
  | true=>
  refine iteF ?_
  refine ⟨_,rfl,p,_,_,_,rfl,rfl,SqT.of p1,rfl,_,b2,rfl,h2.same s1,_,rfl,?_⟩
  cases b2 with
  | false=>exact iteT (q H1 s1)
  | true=>
  refine iteF ?_
  refine ⟨_,rfl,p,_,_,_,rfl,rfl,SqT.of p1,rfl,_,b3,rfl,h3.same s1,_,rfl,?_⟩
  cases b3 with
  | false=>exact iteT (q H1 s1)
  | true=>
  refine iteF ?_
  refine ⟨_,rfl,p,_,_,_,rfl,rfl,SqT.of p1,rfl,_,_,_,b4,rfl,h4.same s1,_,rfl,?_⟩
  cases b4 with
  | true=>exact iteT ⟨_,rfl,p,_,_,_,rfl,rfl,SqT.of p1,rfl,_,_,_,b5,rfl,h5.same s1,q H1 s1⟩
  | false=>exact iteF (q H1 s1)
 ·refine ⟨_,rfl,_,_,_,rfl,.old (.tup hp),T.zb0,_,rfl,iteF ?_⟩
  refine ⟨_,rfl,p,xs,rfl,.inr (SqT.of hp),rfl,_,rfl,?_⟩
  exact ite2 (fun _=>q H (Same.refl H)) (fun c=>absurd (by have:=zrE c;omega) hn)
 ·refine ⟨_,rfl,_,_,_,rfl,.old ty,e,_,rfl,iteT (iteT ?_)⟩
  exact q H (Same.refl H)
theorem zpc (bs:List Bool):(((List.range bs.length).filter fun _=>true).map fun i=>V.bl (bs.getD i false))=bs.map V.bl:=by
 rw [filter_eq_self.mpr fun _ _=>rfl]
 refine List.ext_getElem? fun i=>?_
 rw [getElem?_map,getElem?_map]
 by_cases h:i<bs.length
 ·rw [List.getElem?_range h,Option.map_some,getD_eq_getElem?_getD,getElem?_eq_getElem h]
  rfl
 ·rw [getElem?_eq_none (by rw [length_range];omega),getElem?_eq_none (by omega)]
  rfl
theorem znK {α:Type} (zs:List α) (g : α->Str) (d : α):(((List.range zs.length).filter fun _=>true).map fun i=>V.str (g (zs.getD i d)))=(zs.map g).map V.str:=by
 rw [filter_eq_self.mpr fun _ _=>rfl,map_map]
 refine List.ext_getElem? fun i=>?_
 rw [getElem?_map,getElem?_map]
 by_cases h:i<zs.length
 ·rw [List.getElem?_range h,Option.map_some,getD_eq_getElem?_getD,getElem?_eq_getElem h]
  rfl
 ·rw [getElem?_eq_none (by rw [length_range];omega),getElem?_eq_none (by omega)]
  rfl
def SR.non:SR:=⟨Str.empty,0,0,0,0,0,0⟩
theorem RsB.key {H:Hp} {x:V} {b:Bool} (h:RsB K H x b):(NoTy K H "list" x/\b=false)\/(∃l xs,x=.ref l/\H l=some (.lst xs)/\¬(1<=xs.length/\xs.length<=8)/\b=false) \/
  ∃(l:Addr) (xs:List V) (bs:List Bool),x=.ref l/\H l=some (.lst xs)/\1<=xs.length/\xs.length<=8/\bs.length=xs.length/\(∀(i:Nat) v,xs[i]?=some v->RwB K H v (bs.getD i false))/\
   ((bs.all id=false/\b=false)\/(bs.all id=true/\∃zs,IsSRs H l zs/\b=decide ((metK (fun i=>(zs.map (·.2.nm)).getD i Str.empty) zs.length).length=zs.length))):=by
 have get:∀ {zs:List (Addr × SR)} {i:Nat} {q:Addr × SR},zs[i]?=some q->(zs.map (·.2.nm)).getD i Str.empty=q.2.nm:=fun {zs i q} e=>by
  rw [getD_eq_getElem?_getD,getElem?_map,e]
  rfl
 have tr:∀ {l:Addr} {zs:List (Addr × SR)},IsSRs H l zs->(∀q,q∈zs->q.2.Ok)->∀(i:Nat) v,(zs.map fun q=>V.ref q.1)[i]?=some v->RwB K H v ((List.replicate zs.length true).getD i false):=fun {l zs} g ok i v hv=>by
  rw [getElem?_map] at hv
  cases e:zs[i]? with
  | none=>rw [e] at hv;cases hv
  | some q=>
    rw [e] at hv
    cases hv
    have hi:=(List.getElem?_eq_some_iff.mp e).1
    have m:=mem_of_getElem? e
    rw [getD_eq_getElem?_getD,List.getElem?_replicate,if_pos hi]
    exact (g.sr q m).rw (ok q m)
 have all1:∀n,(List.replicate n true).all id=true:=fun n=>by
  rw [all_eq_true]
  intro y hy
  rw [(List.mem_replicate.mp hy).2]
  rfl
 rcases h with ⟨l,zs,e,g,k,rfl⟩ | ⟨rfl,⟨l,xs,e,g,k⟩ | ⟨l,xs,e,g,k,m,i0,v0,n1,n2⟩ | ⟨l,zs,e,g,k,m,i,j,q,p,ij,hi,hj,en⟩ | n⟩
 ·have l0:=k.l0
  have l1:=k.l1
  rw [length_map] at l0 l1
  refine .inr (.inr ⟨l,_,List.replicate zs.length true,e,g.at_,by rw [length_map];exact l0,by rw [length_map];exact l1,by rw [length_map,List.length_replicate],tr g fun q hq=>k.ok _ (List.mem_map_of_mem hq),.inr ⟨all1 _,zs,g,?_⟩⟩)
  refine (decide_eq_true (zkR _ _ fun a b' ha hb eab=>?_)).symm
  have ea:=getElem?_eq_getElem ha
  have eb:=getElem?_eq_getElem hb
  rw [get ea,get eb] at eab
  exact k.nd a b' zs[a].2 zs[b'].2 (by rw [getElem?_map,ea];rfl) (by rw [getElem?_map,eb];rfl) eab
 ·exact .inr (.inl ⟨l,xs,e,g,k,rfl⟩)
 ·by_cases c:1<=xs.length/\xs.length<=8
  ·obtain ⟨bs,lb,hb⟩:=zdJ (fun i c=>∀v,xs[i]?=some v->RwB K H v c/\(i=i0->c=false)) xs.length fun i hi=>by
    obtain ⟨c,hc⟩:=m i _ (getElem?_eq_getElem hi)
    by_cases z:i=i0
    ·subst z
     exact ⟨false,fun v hv=>⟨by rw [hv] at n1;cases n1;exact n2,fun _=>rfl⟩⟩
    ·exact ⟨c,fun v hv=>⟨by rw [getElem?_eq_getElem hi] at hv;cases hv;exact hc,fun y=>absurd y z⟩⟩
   refine .inr (.inr ⟨l,xs,bs,e,g,c.1,c.2,lb,fun i v hv=>?_,.inl ⟨?_,rfl⟩⟩)
   ·have hi:i<bs.length:=by rw [lb];exact (List.getElem?_eq_some_iff.mp hv).1
    rw [getD_eq_getElem?_getD,getElem?_eq_getElem hi]
    exact (hb i _ (getElem?_eq_getElem hi) v hv).1
   ·have hi:i0<bs.length:=by rw [lb];exact (List.getElem?_eq_some_iff.mp n1).1
    have z:=(hb i0 _ (getElem?_eq_getElem hi) v0 n1).2 rfl
    rw [Bool.eq_false_iff]
    intro y
    have:=all_eq_true.mp y bs[i0] (getElem_mem hi)
    rw [z] at this
    cases this
  ·exact .inr (.inl ⟨l,xs,e,g,c,rfl⟩)
 ·have hl:j<zs.length:=(List.getElem?_eq_some_iff.mp hj).1
  refine .inr (.inr ⟨l,_,List.replicate zs.length true,e,g.at_,by rw [length_map];omega,by rw [length_map];exact k,by rw [length_map,List.length_replicate],tr g m,.inr ⟨all1 _,zs,g,?_⟩⟩)
  refine (decide_eq_false fun z=>?_).symm
  have:=zi0 (fun i=>(zs.map (·.2.nm)).getD i Str.empty) ij (by rw [get hi,get hj];exact en) zs.length hl
  omega
 ·exact .inl ⟨n,rfl⟩
theorem zj0:FnScope pl6 pl6 (zac zeZ):=fsc
include T in
theorem zj1 (D:Dfn K mg "are_rows" zeZ pl6 f fd) (zhW:Cal P w K mg bf "is_row" 3 pl6 (znB K)):Cal P w K mg bf "are_rows" 4 pl6 (zi7 K):=by
 refine D.cal (D.F.ok zj0 (fun vs H Q E h=>?_) (fun cdv A outer s H vs Q E hr h=>?_))
 ·obtain ⟨x,b,rfl,_⟩:=h
  rfl
 obtain ⟨x,b,rfl,h,q⟩:=h
 refine ⟨_,(zag (za9 (PW.pt (zga (za0 (zaQ (zar (zb6 (n := "list")) rfl T.zaA zav (zaa (pv 0) (zaa (zc1 (v:=.ty "list") rfl T.znt zjJ rfl) zae))))) (zed (za0 (zoi zjB zjB zad (zar zaF rfl T.zdS zck (zaa (pv 0) zae)) (zaZ (v:=.int 8) rfl T.AX.choose_spec ⟨_,rfl⟩)))))) (zaf (zak zbm)) zaC)
  (zag (za9 (za0 (zaQ (zar (ziJ rfl) rfl T.zsn zpt (zaa (zbd (N:=["row"]) (js:=[]) rfl cpo (zaL (pv 0)) (fun _ _ _ _ _=>zcy) (fun _ _ _ _ _=>(zao zhW hr.o rfl (zaa (pv 0) zae)))) zae)))) (zaf (zak zbm)) zaC)
  (zaf (zak (zeD zio (znq rfl rfl T.zdS rfl T.ztn (zaa (zbd (N:=["row"]) (js:=[]) rfl cpo (zaL (pv 0)) (fun _ _ _ _ _=>zcy) (fun _ _ _ _ _=>(zaH (r:=rIxT K) zaw (pv 0) zad (fun _ _=>rfl)))) zae)) (zar zaF rfl T.zdS zck (zaa (pv 0) zae)) (zaJ _)))))),?_⟩
 rcases h.key with ⟨⟨t,ty,e⟩,rfl⟩ | ⟨l,xs,rfl,hl,c,rfl⟩ | ⟨l,xs,bs,rfl,hl,c0,c1,lb,hb,h⟩
 ·refine ⟨_,rfl,_,_,_,rfl,.old ty,e,_,rfl,iteT (iteT ?_)⟩
  exact q H (Same.refl H)
 ·refine ⟨_,rfl,_,_,_,rfl,.old (.lst hl),T.zgD,_,rfl,iteF ?_⟩
  have hz:(1000:Nat)<=sizeLine:=by decide
  refine ⟨_,rfl,l,xs,rfl,.inl (SqL.of hl),_,_,rfl,rfl,_,rfl,?_⟩
  refine ite2 (fun d=>?_) (fun d=>?_)
  ·have d':(1:Int)<=(xs.length:Int):=of_decide_eq_true d
   refine ⟨_,_,rfl,rfl,_,rfl,?_⟩
   rw [decide_eq_false (show ¬(xs.length:Int)<=8 by omega)]
   exact iteT (q H (Same.refl H))
  ·exact ⟨_,rfl,iteT (q H (Same.refl H))⟩
 ·refine ⟨_,rfl,_,_,_,rfl,.old (.lst hl),T.zgD,_,rfl,iteF ?_⟩
  refine ⟨_,rfl,l,xs,rfl,.inl (SqL.of hl),_,_,rfl,rfl,_,rfl,?_⟩
  refine ite2 (fun _=>?_) (fun d=>absurd (decide_eq_true (show (1:Int)<=(xs.length:Int) by omega)) d)
  refine ⟨_,_,rfl,rfl,_,rfl,?_⟩
  rw [decide_eq_true (show (xs.length:Int)<=8 by omega)]
  refine iteF ?_
  have sz:(1000:Nat)<=sizeLine:=by decide
  refine ⟨_,rfl,l,rfl,⟨_,SqL.of hl⟩,za6 (fun _=>true) (fun i=>V.bl (bs.getD i false)) (SqL.of hl) (fun i v Hh Q' hv s1 q'=>q' Hh (Same.refl Hh)) (fun i v Hh Q' hv _ s1 q'=>?_) (by omega) (fun D H2 s2 nD hD=>?_)⟩
  ·exact ⟨_,rfl,v,_,rfl,(hb i v hv).same s1,fun H' s'=>q' H' s'⟩
  rw [<-lb,zpc] at hD
  refine ⟨D,bs,rfl,SqL.of hD,_,rfl,?_⟩
  rcases h with ⟨hb0,rfl⟩ | ⟨hb1,zs,hz,rfl⟩
  ·rw [hb0]
   exact iteT (q H2 s2)
  rw [hb1]
  refine iteF ?_
  have hz2:=hz.same s2
  have lz:zs.length=xs.length:=by
   have a:=hz.at_
   rw [hl] at a
   have:=congrArg List.length (HO.lst.inj (Option.some.inj a))
   rw [length_map] at this
   exact this.symm
  refine ⟨_,rfl,l,rfl,⟨_,SqL.of hz2.at_⟩,za6 (fun _=>true) (fun i=>V.str ((zs.getD i (0,SR.non)).2.nm)) (SqL.of hz2.at_) (fun i v Hh Q' hv s3 q'=>q' Hh (Same.refl Hh)) (fun i v Hh Q' hv _ s3 q'=>?_) (by rw [length_map];omega) (fun E2 H4 s4 nE hE=>?_)⟩
  ·rw [getElem?_map] at hv
   cases ez:zs[i]? with
   | none=>rw [ez] at hv;cases hv
   | some z=>
     rw [ez] at hv
     cases hv
     obtain ⟨pw,ps,a1,a2,a3⟩:=(hz2.sr z (mem_of_getElem? ez)).same s3
     have eg:zs.getD i (0,SR.non)=z:=by rw [getD_eq_getElem?_getD,ez];rfl
     rw [eg] at q'
     exact ⟨_,rfl,_,_,_,_,rfl,rfl,SqT.of a1,rfl,q' Hh (Same.refl Hh)⟩
  rw [length_map,znK zs (fun z=>z.2.nm) (0,SR.non)] at hE
  refine ⟨E2,_,rfl,SqL.of hE,by rw [length_map];omega,?_⟩
  have hl4:=s4 _ _ (s2 _ _ hl)
  refine ⟨_,rfl,l,xs,rfl,.inl (SqL.of hl4),rfl,?_⟩
  have qq:=q H4 (s2.trans s4)
  rw [length_map,<-lz]
  have ed:decide (V.int ((metK (fun i=>(zs.map (·.2.nm)).getD i Str.empty) zs.length).length:Int)=V.int (zs.length:Int))=decide ((metK (fun i=>(zs.map (·.2.nm)).getD i Str.empty) zs.length).length=zs.length):=by
   rw [decide_eq_decide]
   constructor
   ·intro z
    injection z with z
    omega
   ·intro z
    rw [z]
  rw [ed]
  exact qq
theorem no5 {C:Addr} (a:zal K C "name") (b:zal K C "weight") (c:zal K C "speed") (d:zal K C "span") (e:zal K C "tries"):∀g,g∈soN->zal K C g:=fun g hg=>by
 rcases mem_cons.mp hg with rfl | hg
 ·exact a
 rcases mem_cons.mp hg with rfl | hg
 ·exact b
 rcases mem_cons.mp hg with rfl | hg
 ·exact c
 rcases mem_cons.mp hg with rfl | hg
 ·exact d
 rw [mem_singleton.mp hg]
 exact e
theorem zjb:FnScope ["weight"] ["weight"] (zac zdO):=fsc
include T in
theorem zjc (D:Dfn K mg "in_lowest" zdO ["weight"] f fd) (zhX:Cal P w K mg bf "lowest" 2 ["top","bottom"] zkY):Cal P w K mg bf "in_lowest" 3 ["weight"] znC:=by
 refine D.cal (D.F.ok zjb (fun vs H Q E h=>?_) (fun cdv A outer s H vs Q E hr h=>?_))
 ·obtain ⟨p,t,b,rfl,_⟩:=h
  rfl
 obtain ⟨p,t,b,rfl,hp,b0,b1,q⟩:=h
 exact ⟨_,(zaf (zak (zao zhX hr.o rfl (zaa (zaH zaw (pv 0) zad (fun _ _=>rfl)) (zaa (zaH zaw (pv 0) zad (fun _ _=>rfl)) zae))))),_,rfl,p,_,_,_,rfl,rfl,SqT.of hp,rfl,_,rfl,p,_,_,_,rfl,rfl,SqT.of hp,rfl,t,b,rfl,by omega,by omega,q⟩
theorem zfE:FnScope pl7 pl7 (zac zcb):=fsc
include T in
theorem zfF (D:Mfn K "__init__" "Sort.__init__" zcb pl7 f fd) (zcR:Cal P w K mg bf "in_lowest" 3 ["weight"] znC):FnOk P w K mg bf CX0 4 f fd pl7 (zkZ K):=by
 refine D.F.ok zfE (fun vs H Q E h=>?_) (fun cdv A outer s H vs Q E hr h=>?_)
 ·obtain ⟨x,C,dx,pw,ps,r,rfl,_⟩:=h
  rfl
 obtain ⟨x,C,dx,pw,ps,r,rfl,hx,cl,no,hw,hs,ok,q⟩:=h
 refine ⟨_,(zag (zaO (pv 0) (pv 1))
  (zag (zaO (pv 0) (zao zcR hr.o rfl (zaa (pv 2) zae)))
  (zag (zaO (pv 0) (zao zcR hr.o rfl (zaa (pv 3) zae)))
  (zag (zaO (pv 0) (pv 4))
  (zaf (zaO (pv 0) (pv 5))))))),?_⟩
 have nx:∀ {z xs} {Hh:Hp} {fs},Hh x=some (.ins C dx fs)->Hh z=some (.tup xs)->z≠x:=fun h e z=>by rw [z,h] at e;cases e
 refine ⟨_,rfl,_,rfl,x,C,dx,_,rfl,hx,cl,no _ (by decide),(by show (0:Nat)<1000;decide),fun H1 k1 h1=>?_⟩
 have h1:H1 x=some (.ins C dx [("name",.str r.nm)]):=by
  rw [h1]
  rfl
 have w1:=k1 _ _ (nx hx hw) hw
 have s1:=k1 _ _ (nx hx hs) hs
 refine ⟨_,rfl,pw,r.a,r.b,rfl,w1,ok.b0,ok.b1,fun p2 H2 e2 g2=>?_⟩
 have h2:=e2 _ _ h1
 have s2:=e2 _ _ s1
 refine ⟨_,rfl,x,C,dx,_,rfl,h2,cl,no _ (by decide),(by show (1:Nat)<1000;decide),fun H3 k3 h3=>?_⟩
 have h3:H3 x=some (.ins C dx [("name",.str r.nm),("weight",.ref p2)]):=by
  rw [h3]
  rfl
 have g3:=k3 _ _ (nx h2 g2) g2
 have s3:=k3 _ _ (nx h2 s2) s2
 refine ⟨_,rfl,ps,r.c,r.d,rfl,s3,ok.d0,ok.d1,fun p4 H4 e4 g4=>?_⟩
 have h4:=e4 _ _ h3
 refine ⟨_,rfl,x,C,dx,_,rfl,h4,cl,no _ (by decide),(by show (2:Nat)<1000;decide),fun H5 k5 h5=>?_⟩
 have h5:H5 x=some (.ins C dx [("name",.str r.nm),("weight",.ref p2),("speed",.ref p4)]):=by
  rw [h5]
  rfl
 have a5:=k5 _ _ (nx h4 (e4 _ _ g3)) (e4 _ _ g3)
 have b5:=k5 _ _ (nx h4 g4) g4
 refine ⟨_,rfl,_,rfl,x,C,dx,_,rfl,h5,cl,no _ (by decide),(by show (3:Nat)<1000;decide),fun H6 k6 h6=>?_⟩
 have h6:H6 x=some (.ins C dx [("name",.str r.nm),("weight",.ref p2),("speed",.ref p4),("span",.int r.sp)]):=by
  rw [h6]
  rfl
 refine ⟨_,rfl,_,rfl,x,C,dx,_,rfl,h6,cl,no _ (by decide),(by show (4:Nat)<1000;decide),fun H7 k7 h7=>?_⟩
 have h7:H7 x=some (.ins C dx (soF r.nm p2 p4 r.sp r.tr)):=by
  rw [h7]
  rfl
 have k67:=k6.trans k7
 exact q H7 p2 p4 (k1.trans ((e2.toBut).trans (k3.trans ((e4.toBut).trans (k5.trans k67))))) h7 (k67 _ _ (nx h5 a5) a5) (k67 _ _ (nx h5 b5) b5)
theorem zg7:FnScope pl3 pl3 (zac zcN):=fsc
include T in
theorem zg8 (D:Mfn K "as_row" "Sort.as_row" zcN pl3 f fd):FnOk P w K mg bf CX0 1 f fd pl3 (znE Ap):=by
 refine D.F.ok zg7 (fun vs H Q E h=>?_) (fun cdv A outer s H vs Q E hr h=>?_)
 ·obtain ⟨a,r,rfl,_⟩:=h
  rfl
 obtain ⟨a,r,rfl,⟨dx,pw,ps,e,hw,hs⟩,q⟩:=h
 have O:=T.Dw
 exact ⟨_,(zaf (zak (zai (pai (zab (zap (pv 0) rfl) (zab (zap (pv 0) rfl) (zab (zap (pv 0) rfl) (zab (zap (pv 0) rfl) (zab (zap (pv 0) rfl) zay))))))))),_,rfl,a,_,dx,_,_,rfl,e,O.cl,T.BI,rfl,_,rfl,a,_,dx,_,_,rfl,e,O.cl,T.BJ,rfl,_,rfl,a,_,dx,_,_,rfl,e,O.cl,T.BZ,rfl,_,rfl,a,_,dx,_,_,rfl,e,O.cl,T.BK,rfl,_,rfl,a,_,dx,_,_,rfl,e,O.cl,T.Bp,rfl,si5,fun t H1 s1 n1 h1=>q t H1 s1 ⟨pw,ps,h1,s1 _ _ hw,s1 _ _ hs⟩⟩
theorem zjd:FnScope ["row"] ["row"] (zac zdP):=fsc
include T in
theorem zje (D:Dfn K mg "sort_from" zdP ["row"] f fd) (D8:MakG CX0 P w K mg bf "Sort" Ap 4 (znD Ap)):Cal P w K mg bf "sort_from" 6 ["row"] (znF Ap):=by
 refine D.cal (D.F.ok zjd (fun vs H Q E h=>?_) (fun cdv A outer s H vs Q E hr h=>?_))
 ·obtain ⟨p,r,rfl,_⟩:=h
  rfl
 obtain ⟨p,r,rfl,⟨pw,ps,hp,hw,hs⟩,ok,q⟩:=h
 exact ⟨_,(zaf (zak (zgA D8 hr.o rfl zaT (pai (zab (zaH zaw (pv 0) zad (fun _ _=>rfl)) (zab (zaH zaw (pv 0) zad (fun _ _=>rfl)) (zab (zaH zaw (pv 0) zad (fun _ _=>rfl)) (zab (zaH zaw (pv 0) zad (fun _ _=>rfl)) (zab (zaH zaw (pv 0) zad (fun _ _=>rfl)) zay))))))))),_,rfl,p,_,_,_,rfl,rfl,SqT.of hp,rfl,_,rfl,p,_,_,_,rfl,rfl,SqT.of hp,rfl,_,rfl,p,_,_,_,rfl,rfl,SqT.of hp,rfl,_,rfl,p,_,_,_,rfl,rfl,SqT.of hp,rfl,_,rfl,p,_,_,_,rfl,rfl,SqT.of hp,rfl,pw,ps,r,rfl,hw,hs,ok,q⟩
theorem zpd {a:Addr} {xs:List V} {js:List Nat} {tc:TT} {te:TE} {σ:St} {H1:Hp} {Q:VK} (rs:List SR) (hl:SqL K H1 a xs) (lz:rs.length=xs.length)
  (ht:∀(i:Nat) x Hh (Q':Bool->Hp->Prop),xs[i]?=some x->Same H1 Hh->(∀Hh',Same Hh Hh'->Q' true Hh')->tc (some x::caps σ js) Hh Q')
  (he:∀(i:Nat) x r Hh (Q':VK),xs[i]?=some x->rs[i]?=some r->Same H1 Hh->(∀p Hh',Same Hh Hh'->IsSR Hh' p r->Q' (.ref p) Hh')->te (some x::caps σ js) Hh Q')
  (hz:xs.length<sizeLine) (q:∀D H2 zs,Same H1 H2->H1 D=none->IsSRs H2 D zs->zs.map (·.2)=rs->Q (.ref D) H2):
  zfs (Itl K a) js tc te σ H1 Q:=by
 intro D H2 s2 hD h2
 refine ⟨fun i m acc H3=>m=xs.length-i/\i<=xs.length/\∃zs:List (Addr × SR),acc=(zs.map fun z=>V.ref z.1)/\zs.map (·.2)=rs.take i/\(∀z,z∈zs->IsSR H3 z.1 z.2)/\Same H1 H3/\H3 D=some (.lst acc),⟨_,rfl,Nat.zero_le _,[],rfl,by simp,fun z hz=>by simp at hz,s2,h2⟩,?_⟩
 rintro i m acc H3 ⟨rfl,hi,zs,ea,ez,hzs,s3,h3⟩
 have hl3:SqL K H3 a xs:=s3.seq hl
 subst ea
 have lzs:zs.length=i:=by
  have:=congrArg List.length ez
  rw [length_map,length_take] at this
  omega
 refine ⟨h3,by rw [length_map];omega,?_⟩
 by_cases hlt:i<xs.length
 ·have hx:xs[i]?=some xs[i]:=getElem?_eq_getElem hlt
  have hr:rs[i]?=some rs[i]:=getElem?_eq_getElem (by omega)
  refine .inr ⟨⟨xs,_,hl3,hx⟩,fun y H4 z=>?_⟩
  obtain ⟨e,ey⟩:=z
  have ey2:=ey xs hl3
  subst e
  refine ht i y _ _ ey2 s3 fun H5 s5=>iteT ?_
  refine he i y _ _ _ ey2 hr (s3.trans s5) fun p H6 s6 hp=>⟨s6 _ _ (s5 _ _ h3),fun H7 k7 h7=>⟨xs.length-(i+1),by omega,rfl,hlt,zs++[(p,rs[i])],by rw [map_append];rfl,?_,fun z hz=>?_,fun b o e=>?_,h7⟩⟩
  ·rw [map_append,ez,List.take_add_one,hr]
   rfl
  ·have hd6:=s6 _ _ (s5 _ _ h3)
   rcases mem_append.mp hz with hz | hz
   ·exact ((hzs z hz).same (s5.trans s6)).but k7 hd6 (fun _ w=>by cases w)
   ·rw [mem_singleton.mp hz]
    exact hp.but k7 hd6 (fun _ w=>by cases w)
  ·exact k7 b o (fun w=>by rw [w,hD] at e;cases e) (s6 b o (s5 b o (s3 b o e)))
 ·have e:i=xs.length:=by omega
  subst e
  refine .inl ⟨⟨xs,hl3,Nat.le_refl _⟩,q D H3 zs s3 hD ⟨h3,hzs⟩ ?_⟩
  rw [ez,<-lz,take_length]
theorem ze8:FnScope ["self","rows"] ["self","rows"] (zac zbS):=fsc
include T in
theorem ze9 (D:Mfn K "__init__" "Sorts.__init__" zbS ["self","rows"] f fd) (zfa:Cal P w K mg bf "are_rows" 4 pl6 (zi7 K)) (zbC:Cal P w K mg bf "sort_from" 6 ["row"] (znF Ap)) (Df:XCal0 K mg "NoSorts" Aj) (DA:MOk CX0 P w K mg bf 1 Ap "as_row" (znE Ap)):FnOk P w K mg bf (CX1 P w) 7 f fd ["self","rows"] (zk1 K Aj):=by
 refine D.F.ok1 ze8 (fun vs H Q E h=>?_) (fun cdv A outer s H vs Q E hr h=>?_)
 ·obtain ⟨x,C,dx,y,rfl,_⟩:=h
  rfl
 obtain ⟨x,C,dx,y,rfl,hx,cl,no,h⟩:=h
 refine ⟨_,(zag (za9 (za0 (zaQ (zao zfa hr.o rfl (zaa (pv 1) zae)))) (zaf (zcF T.C4 hr.hd (zkG Df rfl))) zaC)
  (zaf (zaO (pv 0) (zbd (N:=["row"]) (js:=[]) rfl cpo (zaL (pv 1)) (fun _ _ _ _ _=>zcy) (fun _ _ _ _ _=>(zkS (P:=P) (w:=w) (K:=K) (mg:=mg) (bf:=bf) (k:=1) rfl rfl rfl rfl rfl (zao zbC hr.o rfl (zaa (pv 0) zae)) hr.o zaT)))))),?_⟩
 rcases h with ⟨l,xs,rfl,g,k,qT⟩ | ⟨hb,qF⟩
 ·refine ⟨_,rfl,_,true,rfl,.inl ⟨l,xs,rfl,g,k,rfl⟩,fun H1 s1=>⟨_,rfl,iteF ?_⟩⟩
  have g1:=g.same s1
  have sz:(1000:Nat)<=sizeLine:=by decide
  have l1:=k.l1
  rw [length_map] at l1
  refine ⟨_,rfl,l,rfl,⟨_,SqL.of g1.at_⟩,zpd (xs.map (·.2.low)) (SqL.of g1.at_) (by rw [length_map,length_map]) (fun i v Hh Q' hv s2 q'=>q' Hh (Same.refl Hh)) (fun i v r Hh Q' hv hr s2 q'=>?_) (by rw [length_map];omega) (fun D H2 zs s2 nD hD ez=>?_)⟩
  ·rw [getElem?_map] at hv hr
   cases e:xs[i]? with
   | none=>rw [e] at hv;cases hv
   | some z=>
     rw [e] at hv hr
     cases hv
     cases hr
     have m:=mem_of_getElem? e
     exact ⟨_,rfl,z.1,z.2,rfl,(g1.sr z m).same s2,k.ok _ (List.mem_map_of_mem m),fun a H3 s3 ⟨ddx,pw,ps,e1,e2,e3⟩=>⟨a,Ap,ddx,_,_,rfl,e1,rfl,DA,a,z.2.low,rfl,⟨ddx,pw,ps,e1,e2,e3⟩,fun p H4 s4 h4=>q' p H4 (s3.trans s4) h4⟩⟩
  ·have hx2:=s2 _ _ (s1 _ _ hx)
   refine ⟨_,rfl,x,C,dx,_,rfl,hx2,cl,no,(by show (0:Nat)<1000;decide),fun H3 k3 h3=>?_⟩
   have h3:H3 x=some (.ins C dx [("rows",.ref D)]):=by
    rw [h3]
    rfl
   exact qT H3 D zs ((s1.toBut.trans s2.toBut).trans k3) h3 (hD.but k3 hx2 (fun _ w=>by cases w) (fun w=>by have:=hD.at_;rw [w,hx2] at this;cases this)) ez
 ·exact ⟨_,rfl,y,false,rfl,hb,fun H1 s1=>⟨_,rfl,iteT (zhB s1 qF)⟩⟩
theorem zcY:FnScope ["self","name","row"] ["self","name"] (zac zcc):=fsc
include T in
theorem zfG (D:Mfn K "sort_of" "Sorts.sort_of" zcc ["self","name"] f fd) (zbC:Cal P w K mg bf "sort_from" 6 ["row"] (znF Ap)) (DB:XCal P w K mg bf "NoSort" Ak "name"):FnOk P w K mg bf (CX1 P w) 7 f fd ["self","name"] (zfZ K Ap Ae Ak):=by
 refine D.F.ok1 zcY (fun vs H Q E h=>?_) (fun cdv A outer s H vs Q E hr h=>?_)
 ·obtain ⟨a,rs,x,rfl,_⟩:=h
  rfl
 obtain ⟨a,rs,x,rfl,⟨dx,l,xs,e,g,rfl⟩,hl,ok,h⟩:=h
 refine ⟨_,(zag (zqA (zdB PassesOwn.never rfl (zaL (zap (pv 0) rfl)) (zbN (i:=2) zcY.nd rfl (Or.inl rfl)) (zaf (za9 (zaE (zsl hr.units0) (zaH zaw (pv 2) zad (fun _ _=>rfl)) (pv 1) (zaJ _)) (zaf (zak (zao zbC hr.o rfl (zaa (pv 2) zae)))) zaC))))
  (zaf (zcF T.DZ hr.hd (zgo DB hr.o rfl (zaa (pv 1) zae))))),?_⟩
 refine ⟨_,rfl,a,_,dx,_,_,rfl,e,T.DS.cl,T.CV,rfl,l,rfl,⟨_,SqL.of g.at_⟩,?_⟩
 refine zcj (K:=K) (a:=l) (xs:=xs.map fun q=>V.ref q.1) (fun i σ H'=>∃v2:Option V,σ=[some (.ref a),some x,v2]/\H'=H/\∀j q,j<i->xs[j]?=some q->V.str q.2.nm≠x) ⟨_,rfl,rfl,fun j q z=>absurd z (Nat.not_lt_zero j)⟩ (fun i σ H' _ ⟨_,_,eH,_⟩=>by subst eH;exact SqL.of g.at_) ?_ ?_
 ·rintro i v σ H' hv ⟨v2,rfl,eH,nj⟩
  subst eH
  rw [getElem?_map] at hv
  cases ez:xs[i]? with
  | none=>rw [ez] at hv;cases hv
  | some z=>
    rw [ez] at hv
    cases hv
    have m:=mem_of_getElem? ez
    have mm:z.2∈xs.map (·.2):=List.mem_map_of_mem m
    obtain ⟨pw,ps,a1,a2,a3⟩:=g.sr z m
    refine ⟨_,rfl,z.1,_,_,_,rfl,rfl,SqT.of a1,rfl,_,rfl,?_⟩
    have next:(V.str z.2.nm≠x)->∀j q,j<i+1->xs[j]?=some q->V.str q.2.nm≠x:=fun nz j q hj hq=>by
     by_cases c:j=i
     ·subst c
      rw [ez] at hq
      cases hq
      exact nz
     ·exact nj j q (by omega) hq
    rcases h with ⟨r,hr,rfl,un,q⟩ | ⟨hn,qE⟩
    ·refine ⟨_,rfl,.inl ⟨_,rfl,_,rfl,?_⟩⟩
     refine ite2 (fun c=>?_) (fun c=>?_)
     ·have c':z.2.nm=r.nm:=of_decide_eq_true c
      have er:=un z.2 mm c'
      refine ⟨_,rfl,z.1,z.2,rfl,g.sr z m,ok _ mm,fun b H2 s2 hb=>q b H2 s2 (by rw [<-er];exact hb)⟩
     ·have c':¬z.2.nm=r.nm:=of_decide_eq_false (Bool.eq_false_iff.mpr c)
      exact ⟨_,rfl,rfl,next fun w=>c' (by injection w)⟩
    ·refine hn.eqS mm ⟨_,rfl,?_⟩
     refine iteF ⟨_,rfl,rfl,next fun w=>?_⟩
     rcases hn with ⟨y,rfl,hy⟩ | (rfl | ⟨b,rfl⟩ | ⟨i,rfl⟩) | ⟨p,o,rfl,_⟩
     ·injection w with w
      exact hy _ mm w
     ·cases w
     ·cases w
     ·cases w
     ·cases w
 ·rintro σ H' ⟨v2,rfl,eH,nj⟩
  subst eH
  rcases h with ⟨r,hr,rfl,un,q⟩ | ⟨hn,qE⟩
  ·obtain ⟨z,hz,rfl⟩:=mem_map.mp hr
   obtain ⟨j,hj,ej⟩:=getElem_of_mem hz
   exact absurd rfl (nj j z (by rw [length_map];exact hj) (by rw [getElem?_eq_getElem hj,ej]))
  ·exact ⟨_,rfl,_,rfl,zcz (Same.refl _) qE⟩
def clOf (p:Pv) (r:SR):Cl:=⟨p.n,r.a,r.b,r.c,r.d,p.came⟩
def znL (rs:List SR) (nm:Str) (r:SR):Prop:=r∈rs/\r.nm=nm/\∀s,s∈rs->s.nm=nm->s=r
def zj2 (K:W.Frag) (cs:CsA) (ct:Addr):Sp:=fun vs H Q _=>∃(a s:Addr) (d:Wd) (p:Pv) (rs:List SR) (r:SR),vs=[.ref a,.ref s]/\IsPc cs H a d p/\IsSt ct H s rs/\rs.length<=8/\(∀r,r∈rs->r.Ok)/\znL rs p.nm r/\∀t H',Same H H'->IsCl K H' t (clOf p r.low)->Q (.ref t) H'
def znM (K:W.Frag) (cs:CsA) (ct:Addr):Sp:=fun vs H Q _=>∃(a s:Addr) (d:Wd) (p:Pv) (rs:List SR) (r:SR),vs=[.ref a,.ref s]/\IsPc cs H a d p/\p.Ok/\IsSt ct H s rs/\rs.length<=8/\(∀r,r∈rs->r.Ok)/\znL rs p.nm r/\∀t u H',Same H H'->H' u=some (.tup [.ref t,.int (p.left d)])->IsCl K H' t (clOf p r.low)->Q (.ref u) H'
theorem zgJ:FnScope ["piece","sorts","sort"] pl8 (zac zeX):=fsc
include T in
theorem zj3 (D:Dfn K mg "claim_of" zeX pl8 f fd) (AC:MOk (CX1 P w) P w K mg bf 7 Ae "sort_of" (zfZ K Ap Ae Ak)):Cal P w K mg bf "claim_of" 8 pl8 (zj2 K (CsA.mk Ad Ab Aa) Ae):=by
 refine D.cal (D.F.ok zgJ (fun vs H Q E h=>?_) (fun cdv A outer s H vs Q E hr h=>?_))
 ·obtain ⟨a,s,d,p,rs,r,rfl,_⟩:=h
  rfl
 obtain ⟨a,s,d,p,rs,r,rfl,⟨dx,e⟩,hst,hl,ok,⟨hr',en,un⟩,q⟩:=h
 have S:=zbK T
 have hst':=hst
 obtain ⟨sdx,l,xs,es,_,_⟩:=hst'
 refine ⟨_,(zag (zaz (i:=2) zgJ.nd rfl (Or.inl rfl) (zbh (k:=7) (pv 1) hr.o zbH (zaa (zap (pv 0) rfl) zae)))
  (zaf (zak (zai (pai (zab (zap (pv 0) rfl) (zab (zap (pv 2) rfl) (zab (zap (pv 2) rfl) (zab (zap (pv 0) rfl) zay))))))))),?_⟩
 refine ⟨_,rfl,s,_,sdx,_,_,rfl,es,rfl,AC,_,rfl,a,_,dx,_,_,rfl,e,(S.ow d).cl,S.n2 d,rfl,s,rs,.str p.nm,rfl,hst,hl,ok,?_⟩
 refine .inl ⟨r,hr',by rw [en],fun z hz ez=>un z hz (by rw [ez,en]),fun b H1 s1 hb=>?_⟩
 obtain ⟨bdx,pw,ps,b1,b2,b3⟩:=hb
 have e1:=s1 _ _ e
 have O:=T.Dw
 refine ⟨_,rfl,a,_,dx,_,_,rfl,e1,(S.ow d).cl,S.n1 d,rfl,_,rfl,b,_,bdx,_,_,rfl,b1,O.cl,T.BJ,rfl,_,rfl,b,_,bdx,_,_,rfl,b1,O.cl,T.BZ,rfl,_,rfl,a,_,dx,_,_,rfl,e1,(S.ow d).cl,S.n3 d,rfl,si4,fun t H2 s2 n2 h2=>q t H2 (s1.trans s2) ⟨pw,ps,h2,s2 _ _ b2,s2 _ _ b3⟩⟩
theorem zj4:FnScope pl8 pl8 (zac zeY):=fsc
include T in
theorem zj5 (D:Dfn K mg "chore_of" zeY pl8 f fd) (zb4:Cal P w K mg bf "claim_of" 8 pl8 (zj2 K (CsA.mk Ad Ab Aa) Ae)) (Cn:∀d,MOk CX0 P w K mg bf 2 (CsA.cl (CsA.mk Ad Ab Aa) d) "work_left" (znA (CsA.mk Ad Ab Aa))):Cal P w K mg bf "chore_of" 9 pl8 (znM K (CsA.mk Ad Ab Aa) Ae):=by
 refine D.cal (D.F.ok zj4 (fun vs H Q E h=>?_) (fun cdv A outer s H vs Q E hr h=>?_))
 ·obtain ⟨a,s,d,p,rs,r,rfl,_⟩:=h
  rfl
 obtain ⟨a,s,d,p,rs,r,rfl,⟨dx,e⟩,po,hst,hl,ok,hr',q⟩:=h
 refine ⟨_,(zaf (zak (zai (zaa (zao zb4 hr.o rfl (zaa (pv 0) (zaa (pv 1) zae))) (zaa (zaG (k:=2) (pv 0) hr.o zaT) zae))))),?_⟩
 refine ⟨_,rfl,_,rfl,a,s,d,p,rs,r,rfl,⟨dx,e⟩,hst,hl,ok,hr',fun t H1 s1 h1=>?_⟩
 have e1:=s1 _ _ e
 exact ⟨_,rfl,a,_,dx,_,_,rfl,e1,rfl,Cn d,a,d,p,rfl,⟨dx,e1⟩,po,si2,fun u H2 s2 n2 h2=>q t u H2 (s1.trans s2) h2 (h1.same s2)⟩
def zbc:Pos:=match (zan zax).getLast? with
 | some (.Return (some (.Call _ _ [⟨_,.Lambda _ _ _ lp,_⟩] _)) _)=>lp
 | _=>⟨0,0,0,0⟩
def lamQ:Str:=(("claims_in_order" : Str) ++ ".<locals>.") ++ "<lambda>"
variable {tT:Addr}
def zmz (K:W.Frag) (tT:Addr):Sp:=fun vs H Q _=>∃(a:Addr) (ns:List Int),vs=[.ref a]/\SqL K H a (ns.map V.int)/\ns.length<=63/\H tT=some (.tbl zbc lamQ)/\∀H',Q (.bl true) H'
def zk2 (K:W.Frag):Sp:=fun vs H Q _=>∃(l:Addr) (ps:List (Addr × Cl)),vs=[.ref l]/\IsCs K H l ps/\Good (ps.map (·.2))/\∀M H',Same H H'->0<M->M<=27720->(∀c∈ps.map (·.2),c.wb∣M/\c.sb∣M)->Q (.int M) H'
def zsu (K:W.Frag):Sp:=fun vs H Q _=>∃(p:Addr) (c:Cl) (t M:Int),vs=[.ref p,.int t,.int M]/\IsCl K H p c/\c.Ok/\0<M/\M<=27720/\∀r H',Same H H'->H' r=some (.tup ((kM c t M).map V.int))->Q (.ref r) H'
def znN (K:W.Frag) (tT:Addr):Sp:=fun vs H Q _=>∃(l:Addr) (ps:List (Addr × Cl)) (t:Int),vs=[.ref l,.int t]/\IsCs K H l ps/\Good (ps.map (·.2))/\ps.length<=40/\H tT=some (.tbl zbc lamQ)/\
 ∀D H' (qs:List (Addr × Cl)),Same H H'->H D=none->H' D=some (.lst (qs.map fun q=>V.ref q.1))->qs.Perm ps->Srt t (qs.map (·.2))->Q (.ref D) H'
def zgK (K:W.Frag) (tT:Addr):Sp:=fun vs H Q _=>∃(l:Addr) (ps:List (Addr × Cl)) (t:Int),vs=[.ref l,.int t]/\IsCs K H l ps/\Good (ps.map (·.2))/\ps.length<=40/\H tT=some (.tbl zbc lamQ)/\
 ∀m H',Same H H'->H m=none->H' m=some (.lst (((ord (ps.map (·.2)) t).map (·.n)).map V.int))->Q (.ref m) H'
structure ChIn (K:W.Frag) (H:Hp) (l:Addr) (xs:List (Addr × Cl × Int)):Prop where
 chs:IsChs K H l xs
 len:xs.length<=40
 ok:∀q,q∈xs->ChOk 1000 q.2
 nd:(xs.map (·.2.1.n)).Nodup
theorem ChIn.same {H H':Hp} {l:Addr} {xs:List (Addr × Cl × Int)} (s:Same H H') (h:ChIn K H l xs):ChIn K H' l xs:=⟨h.chs.same s,h.len,h.ok,h.nd⟩
theorem ChIn.good {H:Hp} {l:Addr} {xs:List (Addr × Cl × Int)} (h:ChIn K H l xs) (t:Int):Good (csOf t xs):=zm8 (fun q hq=>(h.ok q hq).ok) h.nd
def zk3 (K:W.Frag) (tT:Addr):Sp:=fun vs H Q _=>∃(l:Addr) (xs:List (Addr × Cl × Int)) (h t:Int),vs=[.ref l,.int h,.int t]/\ChIn K H l xs/\0<=h/\H tT=some (.tbl zbc lamQ)/\∀m H',Same H H'->H m=none->H' m=some (.lst ((zeN t h.toNat xs).map V.int))->Q (.ref m) H'
def zhY (K:W.Frag):Sp:=fun vs H Q _=>∃(l m:Addr) (xs:List (Addr × Cl × Int)) (ws:List Int),vs=[.ref l,.ref m]/\ChIn K H l xs/\H m=some (.lst (ws.map V.int))/\∀D H' bs,Same H H'->H D=none->IsBh H' D (behL H ws xs) bs->Q (.ref D) H'
def zpM (K:W.Frag) (tT:Addr):Sp:=fun vs H Q _=>∃(l:Addr) (xs:List (Addr × Cl × Int)) (h t:Int),vs=[.ref l,.int h,.int t]/\ChIn K H l xs/\0<=h/\H tT=some (.tbl zbc lamQ)/\
 ∀p m D H' bs,Same H H'->H' p=some (.tup [.ref m,.ref D])->H m=none->H D=none->m≠D->H' m=some (.lst ((zeN t h.toNat xs).map V.int))->IsBh H' D (behL H (zeN t h.toNat xs) xs) bs->Q (.ref p) H'
theorem ChIn.next {H H':Hp} {l D:Addr} {xs:List (Addr × Cl × Int)} {ws:List Int} {bs:List (Addr × List V)} (hI:ChIn K H l xs) (s:Same H H') (B:IsBh H' D (behL H ws xs) bs):
  ChIn K H' D (zipB bs (behL H ws xs))/\(zipB bs (behL H ws xs)).map (·.2)=bhC ws (xs.map (·.2)):=by
 obtain ⟨c1,c2⟩:=B.chs (K:=K) fun k hk=>by
  obtain ⟨q0,hq0,e,_⟩:=zkO hk
  rw [e]
  exact (hI.chs.ch q0 hq0).kc.2.same s
 have cn:(zipB bs (behL H ws xs)).map (·.2.1.n)=(behL H ws xs).map (·.2.1.n):=by
  have:=congrArg (List.map fun x:Cl × Int=>x.1.n) c2
  rw [map_map,map_map] at this
  exact this
 refine ⟨⟨c1,?_,fun q' hq'=>?_,?_⟩,by rw [c2,zsd]⟩
 ·have:=congrArg List.length c2
  rw [length_map,length_map] at this
  rw [this]
  exact Nat.le_trans (zoO _ _ _) hI.len
 ·have:q'.2∈(behL H ws xs).map (·.2):=by
   rw [<-c2]
   exact mem_map.mpr ⟨q',hq',rfl⟩
  obtain ⟨k,hk,e⟩:=mem_map.mp this
  obtain ⟨q0,hq0,e2,pos⟩:=zkO hk
  have o:=hI.ok q0 hq0
  rw [<-e,e2]
  have le:za3 ws q0.2<=q0.2.2:=by
   unfold za3
   split<;>omega
  exact ⟨o.ok,Int.le_of_lt pos,Int.le_trans le o.l1,o.cm⟩
 ·rw [cn]
  exact zqC hI.nd
structure RunOf (H0 H:Hp) (h:Nat) (b:Int) (c:Ch) (D:Addr) (rs:List (Addr × Addr × Int × List Int)):Prop where
 run:IsRun H D rs
 new:∀r,r∈rs->H0 r.2.1=none
 ne:∀r,r∈rs->r.2.1≠D
 eq:∃n,rs.map (fun r=>(r.2.2.1,r.2.2.2))=(runN h n b (bhC [] c)).1/\(runN h n b (bhC [] c)).2=[]/\∀k,k<n->(runN h k b (bhC [] c)).2≠[]
theorem zpN:∀ {c:Ch},(∀k,k∈c->k.2<=12)->sumC c<=12*c.length
 | [],_=>Nat.le_refl _
 | k::c,h=>by
   have ih:=zpN (c:=c) fun j hj=>h j (mem_cons_of_mem _ hj)
   have:=h k mem_cons_self
   unfold sumC at *
   simp
   omega
theorem ChIn.sum {H:Hp} {l:Addr} {xs:List (Addr × Cl × Int)} (hI:ChIn K H l xs):sumC (xs.map (·.2))<=480:=by
 have a:=zpN (c:=xs.map (·.2)) fun k hk=>by
  obtain ⟨q,hq,rfl⟩:=mem_map.mp hk
  exact (hI.ok q hq).l1
 have:=hI.len
 rw [length_map] at a
 omega
theorem ChIn.cm {H:Hp} {l:Addr} {xs:List (Addr × Cl × Int)} (hI:ChIn K H l xs):∀k,k∈xs.map (·.2)->k.1.came<=1000:=fun k hk=>by
 obtain ⟨q,hq,rfl⟩:=mem_map.mp hk
 exact (hI.ok q hq).cm
def znO:Sp:=fun vs H Q _=>∃l:Addr,vs=[.ref l,.non]/\Q (.ref l) H
def zqT (K:W.Frag) (tT:Addr):Sp:=fun vs H Q _=>∃(l:Addr) (xs:List (Addr × Cl × Int)) (h b:Int),vs=[.ref l,.int h,.int b,.non]/\ChIn K H l xs/\0<h/\0<=b/\b<=1000/\H tT=some (.tbl zbc lamQ)/\
 ∀D H' rs,Same H H'->H D=none->RunOf H H' h.toNat b (xs.map (·.2)) D rs->(∀r,r∈rs->r.2.2.2.length<=40)->rs.length<=1481->Q (.ref D) H'
theorem zsv {H:Hp} {l:Addr} {xs:List (Addr × Cl × Int)} (hI:ChIn K H l xs) (t:Int) (h:Nat):(zeN t h xs).length<=40:=by
 unfold zeN
 rw [length_take,length_map,(zbZ _ _).length_eq]
 have:(csOf t xs).length<=xs.length:=by
  unfold csOf
  rw [length_map]
  exact length_filter_le _ _
 have:=hI.len
 omega
theorem za1:FnScope ["claims","common","claim","bottom"] ["claims"] (zac zb8):=fsc
include T in
theorem zfH (D:Dfn K mg "common_bottom" zb8 ["claims"] f fd) (zaS:Cal P w K mg bf "common_divisor" 1 ["one","other"] zqS):Cal P w K mg bf "common_bottom" 2 ["claims"] (zk2 K):=by
 refine D.cal (D.F.ok za1 (fun vs H Q E h=>?_) (fun cdv A outer s H vs Q E hr h=>?_))
 ·obtain ⟨l,ps,rfl,_⟩:=h
  rfl
 obtain ⟨l,ps,rfl,hC,G,q⟩:=h
 refine ⟨_,(zag (zaz (i:=1) za1.nd rfl (Or.inl rfl) zad)
  (zag (zdB PassesOwn.never rfl (zaL (pv 0)) (zbN (i:=2) za1.nd rfl (Or.inl rfl)) (zaf (zdB PassesOwn.never rfl (zro (zai (zaa (zaH zaw (zaH zaw (pv 2) zad (fun _ _=>rfl)) zad (fun _ _=>rfl)) (zaa (zaH zaw (zaH zaw (pv 2) zad (fun _ _=>rfl)) zad (fun _ _=>rfl)) zae)))) (zbN (i:=3) za1.nd rfl (Or.inl rfl)) (zaf (zaz (i:=1) za1.nd rfl (Or.inl rfl) (zaD zef (zaD zcv (pv 1) (pv 3)) (zao zaS hr.o rfl (zaa (pv 1) (zaa (pv 3) zae)))))))))
  (zaf (zak (pv 1))))),?_⟩
 refine ⟨_,rfl,l,rfl,⟨_,SqL.of hC.at_⟩,?_⟩
 refine zcj (K:=K) (a:=l) (xs:=ps.map fun q=>V.ref q.1) (fun i σ H1=>∃(M:Int) (v2 v3:Option V),σ=[some (.ref l),some (.int M),v2,v3]/\Same H H1/\0<M/\M∣27720/\∀j y,j<i->ps[j]?=some y->y.2.wb∣M/\y.2.sb∣M)
  ⟨1,_,_,rfl,Same.refl _,by decide,by decide,fun j y z=>by omega⟩ (fun i σ H1 _ ⟨_,_,_,_,s1,_⟩=>SqL.of (s1 _ _ hC.at_)) ?_ ?_
 ·rintro i x σ H1 hi ⟨M,v2,v3,rfl,s1,M0,Md,hM⟩
  rw [getElem?_map] at hi
  cases e:ps[i]? with
  | none=>rw [e] at hi;cases hi
  | some y=>
    rw [e] at hi
    cases hi
    have hy:=mem_of_getElem? e
    have ok:=G.ok y.2 (mem_map.mpr ⟨y,hy,rfl⟩)
    obtain ⟨pw,ps',z1,z2,z3⟩:=((hC.cl y hy).same s1).ex
    refine ⟨_,rfl,y.1,_,_,_,rfl,rfl,SqT.of z1,rfl,pw,_,_,_,rfl,rfl,SqT.of z2,rfl,_,rfl,y.1,_,_,_,rfl,rfl,SqT.of z1,rfl,ps',_,_,_,rfl,rfl,SqT.of z3,rfl,si2,fun lt H2 s2 n2 h2=>?_⟩
    refine ⟨lt,rfl,⟨_,SqT.of h2⟩,?_⟩
    have w2:=ok.w2
    have w3:=ok.w3
    have b2:=ok.s2
    have b3:=ok.s3
    refine zqb (K:=K) (a:=lt) (xs:=[V.int y.2.wb,V.int y.2.sb]) (fun k σ H3=>∃(N:Int) (v3:Option V),σ=[some (.ref l),some (.int N),some (.ref y.1),v3]/\Same H2 H3/\0<N/\N∣27720/\M∣N/\(0<k->y.2.wb∣N)/\(1<k->y.2.sb∣N))
     ⟨M,_,rfl,Same.refl _,M0,Md,Int.dvd_refl _,fun z=>by omega,fun z=>by omega⟩ (fun k σ H3 _ ⟨_,_,_,s3,_⟩=>SqT.of (s3 _ _ h2)) ?_ ?_
    ·rintro k x σ H3 hk ⟨N,v3,rfl,s3,N0,N1,N2,N3,N4⟩
     have hx:∃b:Int,x=.int b/\0<b/\b<=12/\((k=0/\b=y.2.wb)\/(k=1/\b=y.2.sb)):=by
      rcases (by have:=(List.getElem?_eq_some_iff.mp hk).1;simp at this;omega:k=0\/k=1) with rfl | rfl
      ·simp at hk
       exact ⟨_,hk.symm,w2,w3,.inl ⟨rfl,rfl⟩⟩
      ·simp at hk
       exact ⟨_,hk.symm,b2,b3,.inr ⟨rfl,rfl⟩⟩
     obtain ⟨b,rfl,b0,b1,hb⟩:=hx
     have Nle:N<=27720:=Int.le_of_dvd (by decide) N1
     obtain ⟨L0,L1,L2,L3⟩:=zoI N0 b0
     have g0:=M1.gd_pos (x:=N) b0
     have g1:=M1.gd_le (x:=N) b0
     refine ⟨_,rfl,_,rfl,_,_,rfl,rfl,.inr ⟨by omega,by omega⟩,_,rfl,_,rfl,N,b,rfl,by omega,by omega,_,_,rfl,rfl,⟨g0,by omega⟩,?_⟩
     refine ⟨_,_,rfl,s3,L0,L3 _ N1 (zm1 b0 b1),Int.dvd_trans N2 L1,fun _=>?_,fun z=>?_⟩
     ·rcases hb with ⟨rfl,rfl⟩ | ⟨rfl,rfl⟩
      ·exact L2
      ·exact Int.dvd_trans (N3 (by omega)) L1
     ·rcases hb with ⟨rfl,rfl⟩ | ⟨rfl,rfl⟩
      ·omega
      ·exact L2
    ·rintro σ H3 ⟨N,v3,rfl,s3,N0,N1,N2,N3,N4⟩
     refine ⟨N,_,_,rfl,s1.trans (s2.trans s3),N0,N1,fun j z hj hz=>?_⟩
     by_cases ji:j=i
     ·subst ji
      rw [e] at hz
      cases hz
      exact ⟨N3 (by simp),N4 (by simp)⟩
     ·obtain ⟨d1,d2⟩:=hM j z (by omega) hz
      exact ⟨Int.dvd_trans d1 N2,Int.dvd_trans d2 N2⟩
 ·rintro σ H1 ⟨M,v2,v3,rfl,s1,M0,Md,hM⟩
  refine ⟨_,rfl,q M H1 s1 M0 (Int.le_of_dvd (by decide) Md) fun c hc=>?_⟩
  obtain ⟨y,hy,rfl⟩:=mem_map.mp hc
  obtain ⟨j,hj,ej⟩:=getElem_of_mem hy
  exact hM j y (by rw [length_map];exact hj) (by rw [getElem?_eq_getElem hj,ej])
theorem zdj:FnScope ["claim","turn","common","weight","speed"] pl9 (zac zdL):=fsc
include T in
theorem zjf (D:Dfn K mg "place_key" zdL pl9 f fd):Cal P w K mg bf "place_key" 1 pl9 (zsu K):=by
 refine D.cal (D.F.ok zdj (fun vs H Q E h=>?_) (fun cdv A outer s H vs Q E hr h=>?_))
 ·obtain ⟨p,c,t,M,rfl,_⟩:=h
  rfl
 obtain ⟨p,c,t,M,rfl,hc,ok,M0,M1,q⟩:=h
 refine ⟨_,(zag (zaz (i:=3) zdj.nd rfl (Or.inl rfl) (zaD zcv (zaH zaw (zaH zaw (pv 0) zad (fun _ _=>rfl)) zad (fun _ _=>rfl)) (zaD zef (pv 2) (zaH zaw (zaH zaw (pv 0) zad (fun _ _=>rfl)) zad (fun _ _=>rfl)))))
  (zag (zaz (i:=4) zdj.nd rfl (Or.inl rfl) (zaD zcv (zaH zaw (zaH zaw (pv 0) zad (fun _ _=>rfl)) zad (fun _ _=>rfl)) (zaD zef (pv 2) (zaH zaw (zaH zaw (pv 0) zad (fun _ _=>rfl)) zad (fun _ _=>rfl)))))
  (zaf (zak (zai (zaa (zmb zin (zaD zbY (pv 3) (zaD zcv (zaD zkt (pv 1) (zaH zaw (pv 0) zad (fun _ _=>rfl))) (pv 4)))) (zaa (zaH zaw (pv 0) zad (fun _ _=>rfl)) (zaa (zaH zaw (pv 0) zad (fun _ _=>rfl)) zae)))))))),?_⟩
 obtain ⟨pw,ps,e1,e2,e3⟩:=id hc.ex
 have hp:SqT K H p _:=SqT.of e1
 have hw:SqT K H pw _:=SqT.of e2
 have hs:SqT K H ps _:=SqT.of e3
 have w2:=ok.w2
 have w3:=ok.w3
 have b2:=ok.s2
 have b3:=ok.s3
 have d1:M / c.wb<=M:=Int.ediv_le_self _ (by omega)
 have d2:0<=M / c.wb:=Int.ediv_nonneg (by omega) (by omega)
 have d3:M / c.sb<=M:=Int.ediv_le_self _ (by omega)
 have d4:0<=M / c.sb:=Int.ediv_nonneg (by omega) (by omega)
 have d5:c.st*(M / c.sb)<=1000000*27720:=Int.mul_le_mul ok.s1 (by omega) d4 (by decide)
 have d6:0<=c.st*(M / c.sb):=Int.mul_nonneg ok.s0 d4
 refine ⟨_,rfl,p,_,_,_,rfl,rfl,hp,rfl,pw,_,_,_,rfl,rfl,hw,rfl,_,rfl,_,rfl,p,_,_,_,rfl,rfl,hp,rfl,pw,_,_,_,rfl,rfl,hw,rfl,_,_,rfl,rfl,⟨w2,by omega⟩,_,_,rfl,rfl,.inr ⟨by omega,by omega⟩,?_⟩
 refine ⟨_,rfl,p,_,_,_,rfl,rfl,hp,rfl,ps,_,_,_,rfl,rfl,hs,rfl,_,rfl,_,rfl,p,_,_,_,rfl,rfl,hp,rfl,ps,_,_,_,rfl,rfl,hs,rfl,_,_,rfl,rfl,⟨b2,by omega⟩,_,_,rfl,rfl,.inr ⟨by omega,by omega⟩,?_⟩
 refine ⟨_,rfl,_,rfl,_,rfl,p,_,_,_,rfl,rfl,hp,rfl,_,_,rfl,rfl,_,rfl,_,_,rfl,rfl,.inr ⟨by omega,by omega⟩,_,_,rfl,rfl,_,rfl,?_⟩
 refine ⟨_,rfl,p,_,_,_,rfl,rfl,hp,rfl,_,rfl,p,_,_,_,rfl,rfl,hp,rfl,si3,fun r H1 s1 n1 h1=>?_⟩
 exact q r H1 s1 h1
theorem zcl:FnScope ["claims","turn","common"] pl10 (zac zax):=fsc
include T in
theorem zev {cv:Value} (D:DfnC K mg "claims_in_order" zax pl10 f fd cv) (SI:Site K mg bf cv tT) (zcf:Cal P w K mg bf "common_bottom" 2 ["claims"] (zk2 K)) (zdV:Cal P w K mg bf "place_key" 1 pl9 (zsu K)):Cal P w K mg bf "claims_in_order" 6 pl10 (znN K tT):=by
 refine D.cal (D.F.ok zcl (fun vs H Q E h=>?_) (fun A outer s H vs Q E hr h=>?_))
 ·obtain ⟨l,ps,t,rfl,_⟩:=h
  rfl
 obtain ⟨l,ps,t,rfl,hC,G,pl,hT,q⟩:=h
 refine ⟨_,(zag (zaz (i:=2) zcl.nd rfl (Or.inr rfl) (zao zcf hr.o rfl (zaa (pv 0) zae)))
  (zaf (zak (zly (N:=pl9) (js:=[1,2]) (CompScope.of rfl rfl rfl rfl rfl (by decide +kernel) rfl rfl rfl rfl) SI rfl hr.depth rfl rfl T.zoZ (zaa (pv 0) zae) (fun _ _ _ _ _=>(zao zdV (((hr.mono (j:=1+3) (by decide)).in1).in1.deeper _) rfl (zaa (pv 0) (zaa (pv 1) (zaa (pv 2) zae))))))))),?_⟩
 refine ⟨_,rfl,l,ps,rfl,hC,G,fun M H1 s1 M0 M1 hM=>?_⟩
 have ml:(ps.map fun q=>V.ref q.1).length=(ps.map (·.2)).length:=by rw [length_map,length_map]
 refine ⟨_,rfl,l,_,zeL (ps.map (·.2)) t M,3,rfl,SqL.of (hC.same s1).at_,by rw [ml,length_map];omega,zrX _ t M,by decide,by rw [ml];exact zrZ G M0 hM,s1 _ _ hT,fun H2 s2=>⟨fun i v hv H3 s3=>?_,fun D H' p s' n' h' hp hs=>?_⟩⟩
 ·rw [getElem?_map] at hv
  cases e:ps[i]? with
  | none=>rw [e] at hv;cases hv
  | some y=>
    rw [e] at hv
    cases hv
    have hy:=mem_of_getElem? e
    refine ⟨_,rfl,_,rfl,_,rfl,y.1,y.2,t,M,rfl,(hC.cl y hy).same (s1.trans (s2.trans s3)),G.ok y.2 (mem_map.mpr ⟨y,hy,rfl⟩),M0,M1,fun r H4 s4 h4=>⟨s4,r,rfl,?_⟩⟩
    rw [h4]
    unfold zeL
    rw [getElem?_map,e]
    rfl
 ·rw [ml] at hp
  have s02:=s1.trans s2
  have d:Addr × Cl:=(0,⟨0,0,1,0,1,0⟩)
  have lt:∀i∈p,i<ps.length:=fun i hi=>by
   have:=mem_range.mp (hp.mem_iff.mp hi)
   simpa using this
  have hp2:p.Perm (List.range ps.length):=by simpa using hp
  refine q D H' (p.map fun i=>ps.getD i d) (s02.trans s') (Same.free s02 n') ?_ (zm2 d ps hp2) (zoJ G M0 hM hp d hs)
  rw [h',map_map]
  congr 2
  refine map_congr_left fun i hi=>?_
  have:=lt i hi
  show (ps.map fun q=>V.ref q.1).getD i .non=V.ref (ps.getD i d).1
  rw [getD_eq_getElem?_getD,getD_eq_getElem?_getD,getElem?_map,getElem?_eq_getElem this]
  rfl
theorem zdW:FnScope pl10 pl10 (zac zbp):=fsc
include T in
theorem zdX (D:Dfn K mg "numbers_in_order" zbp pl10 f fd) (zbD:Cal P w K mg bf "claims_in_order" 6 pl10 (znN K tT)):Cal P w K mg bf "numbers_in_order" 7 pl10 (zgK K tT):=by
 refine D.cal (D.F.ok zdW (fun vs H Q E h=>?_) (fun cdv A outer s H vs Q E hr h=>?_))
 ·obtain ⟨l,ps,t,rfl,_⟩:=h
  rfl
 obtain ⟨l,ps,t,rfl,hC,G,pl,hT,q⟩:=h
 refine ⟨_,(zaf (zak (zbd (N:=["claim"]) (js:=[]) rfl cpo (zaL (zao zbD hr.o rfl (zaa (pv 0) (zaa (pv 1) zae)))) (fun _ _ _ _ _=>zcy) (fun _ _ _ _ _=>(zaH (r:=rIxT K) zaw (pv 0) zad (fun _ _=>rfl)))))),?_⟩
 refine ⟨_,rfl,_,rfl,l,ps,t,rfl,hC,G,pl,hT,fun m H1 qs s1 n1 h1 hp hs=>⟨m,rfl,⟨_,SqL.of h1⟩,?_⟩⟩
 have mo:(qs.map fun q=>V.ref q.1).length=qs.length:=length_map _
 have lq:=hp.length_eq
 refine za6 (xs:=qs.map fun q=>V.ref q.1) (fun _=>true) (itm qs fun q=>V.int q.2.n) (SqL.of h1) (fun i x Hh Q' hx sh q'=>q' Hh (Same.refl _)) ?_ (zaI (by rw [mo];omega)) (fun D H2 s2 nD hD=>?_)
 ·intro i x Hh Q' hx _ sh q'
  rw [getElem?_map] at hx
  cases e:qs[i]? with
  | none=>rw [e] at hx;cases hx
  | some y=>
    rw [e] at hx
    cases hx
    obtain ⟨pw,pz,z1,_,_⟩:=(((hC.cl y (hp.mem_iff.mp (mem_of_getElem? e))).same s1).same sh).ex
    refine ⟨_,rfl,y.1,_,_,_,rfl,rfl,SqT.of z1,rfl,?_⟩
    have z:=q' Hh (Same.refl _)
    unfold itm at z
    rw [e] at z
    exact z
 rw [zdt,mo,zgs] at hD
 refine q D H2 (s1.trans s2) (Same.free s1 nD) ?_
 rw [hD,<-zoC G (hp.map _) hs,map_map,map_map]
 rfl
theorem zcB:FnScope ["chores","hands","turn","there"] pl11 (zac zbR):=fsc
include T in
theorem zfb (D:Dfn K mg "numbers_worked" zbR pl11 f fd) (zaK:Cal P w K mg bf "numbers_in_order" 7 pl10 (zgK K tT)):Cal P w K mg bf "numbers_worked" 8 pl11 (zk3 K tT):=by
 refine D.cal (D.F.ok zcB (fun vs H Q E h=>?_) (fun cdv A outer s H vs Q E hr h=>?_))
 ·obtain ⟨l,xs,h,t,rfl,_⟩:=h
  rfl
 obtain ⟨l,xs,h,t,rfl,hx,h0,hT,q⟩:=h
 refine ⟨_,(zag (zhJ (i:=3) (N:=["chore","turn"]) (js:=[2]) zcB.nd rfl rfl rfl cpo (zaL (pv 0)) (fun _ _ _ _ _=>(zgk (PW.pt (zhj (zaE zg2 (zaH (r:=rIxT K) zaw (pv 0) zad (fun _ _=>rfl)) zad (zaJ _)) (zeC (zaE zjB (zaH (r:=rIxT K) zaw (zaH (r:=rIxT K) zaw (pv 0) zad (fun _ _=>rfl)) zad (fun _ _=>rfl)) (pv 1) (zaJ _))))))) (fun _ _ _ _ _=>(zaH (r:=rIxT K) zaw (pv 0) zad (fun _ _=>rfl))))
  (zaf (zak (zhF zoA (zao zaK hr.o rfl (zaa (pv 3) (zaa (pv 2) zae))) zjF (zjG (pv 1)))))),?_⟩
 refine ⟨_,rfl,l,rfl,⟨_,SqL.of hx.chs.at_⟩,?_⟩
 have ml:(xs.map fun q=>V.ref q.1).length=xs.length:=length_map _
 refine za6 (xs:=xs.map fun q=>V.ref q.1) (tak xs (zgw t)) (itm xs fun k=>V.ref (kcOf H k.1)) (SqL.of hx.chs.at_) ?_ ?_ (zaI (by rw [ml];exact Nat.le_trans hx.len (by decide))) (fun D H2 s2 nD hD=>?_)
 ·intro i x Hh Q' hi sh q'
  rw [getElem?_map] at hi
  cases e:xs[i]? with
  | none=>rw [e] at hi;cases hi
  | some k=>
    rw [e] at hi
    cases hi
    have z:=q' Hh (Same.refl _)
    unfold tak zgw at z
    rw [e] at z
    have z:Q' (decide (0<k.2.2)&&decide (k.2.1.came<=t)) Hh:=z
    obtain ⟨k1,k2⟩:=(hx.chs.ch k (mem_of_getElem? e)).kc
    obtain ⟨_,_,c1,_,_⟩:=id k2.ex
    refine ⟨_,rfl,k.1,_,_,_,rfl,rfl,SqT.of (sh _ _ k1),rfl,_,_,rfl,rfl,_,rfl,?_⟩
    by_cases c1':0<k.2.2
    ·refine iteD c1' ?_
     rw [decide_eq_true c1',Bool.true_and] at z
     exact ⟨_,rfl,k.1,_,_,_,rfl,rfl,SqT.of (sh _ _ k1),rfl,_,_,_,_,rfl,rfl,SqT.of (sh _ _ c1),rfl,_,rfl,_,_,rfl,rfl,_,rfl,z⟩
    ·refine zgj c1' ?_
     rw [decide_eq_false c1',Bool.false_and] at z
     exact z
 ·intro i x Hh Q' hi _ sh q'
  rw [getElem?_map] at hi
  cases e:xs[i]? with
  | none=>rw [e] at hi;cases hi
  | some k=>
    rw [e] at hi
    cases hi
    have z:=q' Hh (Same.refl _)
    unfold itm at z
    rw [e] at z
    obtain ⟨k1,k2⟩:=(hx.chs.ch k (mem_of_getElem? e)).kc
    exact ⟨_,rfl,k.1,_,_,_,rfl,rfl,SqT.of (sh _ _ k1),rfl,z⟩
 rw [ml,zc3,<-zjP] at hD
 have hC:IsCs K H2 D (zdC H t xs):=⟨hD,fun c hc=>(zm9 hx.chs t hc).same s2⟩
 have G:Good ((zdC H t xs).map (·.2)):=by rw [ziT];exact hx.good t
 refine ⟨_,rfl,_,rfl,D,zdC H t xs,t,rfl,hC,G,Nat.le_trans (zlA _ _ _) hx.len,s2 _ _ hT,fun m H3 s3 n3 h3=>?_⟩
 rw [ziT] at h3
 refine ⟨_,rfl,_,rfl,m,_,rfl,SqL.of h3,fun p H4 s4 n4 h4=>?_⟩
 refine q p H4 (s2.trans (s3.trans s4)) (Same.free (s2.trans s3) n4) ?_
 rw [h4]
 unfold zeN cutV
 rw [HT.sIx_none,show h=((h.toNat:Nat):Int) by omega,HT.sIx_nat,length_map,List.drop_zero,Nat.sub_zero,List.map_take,Int.toNat_natCast]
 congr 2
 rw [Nat.min_def]
 split
 ·rfl
 ·rw [List.take_of_length_le (by rw [length_map];omega),List.take_of_length_le (by rw [length_map];omega)]
theorem zcZ:FnScope ["chores","numbers","lessened"] pl12 (zac zb9):=fsc
include T in
theorem zfI (D:Dfn K mg "chores_behind" zb9 pl12 f fd):Cal P w K mg bf "chores_behind" 1 pl12 (zhY K):=by
 refine D.cal (D.F.ok zcZ (fun vs H Q E h=>?_) (fun cdv A outer s H vs Q E hr h=>?_))
 ·obtain ⟨l,m,xs,ws,rfl,_⟩:=h
  rfl
 obtain ⟨l,m,xs,ws,rfl,hx,hm,q⟩:=h
 refine ⟨_,(zag (zhJ (i:=2) (N:=["chore","numbers"]) (js:=[1]) zcZ.nd rfl rfl rfl cpo (zaL (pv 0)) (fun _ _ _ _ _=>zcy) (fun _ _ _ _ _=>(zai (zaa (zaH (r:=rIxT K) zaw (pv 0) zad (fun _ _=>rfl)) (zaa (zhD (zaE (zsb (K:=K) rfl) (zaH (r:=rIxT K) zaw (zaH (r:=rIxT K) zaw (pv 0) zad (fun _ _=>rfl)) zad (fun _ _=>rfl)) (pv 1) rfl) (zaD zkt (zaH (r:=rIxT K) zaw (pv 0) zad (fun _ _=>rfl)) zad) (zaH (r:=rIxT K) zaw (pv 0) zad (fun _ _=>rfl))) zae)))))
  (zaf (zak (zbd (N:=["chore"]) (js:=[]) rfl cpo (zaL (pv 2)) (fun _ _ _ _ _=>(zgk (zaE zg2 (zaH (r:=rIxT K) zaw (pv 0) zad (fun _ _=>rfl)) zad (zaJ _)))) (fun _ _ _ _ _=>(pv 0)))))),?_⟩
 refine ⟨_,rfl,l,rfl,⟨_,SqL.of hx.chs.at_⟩,?_⟩
 have ml:(xs.map fun q=>V.ref q.1).length=xs.length:=length_map _
 have fl:∀ns:List Int,(ns.map V.int).all zbO=true:=fun ns=>all_eq_true.mpr fun y hy=>by obtain ⟨i,_,rfl⟩:=mem_map.mp hy;rfl
 refine zgu (xs:=xs.map fun q=>V.ref q.1) (tak xs fun _=>true) (itl xs fun k=>[V.ref (kcOf H k.1),V.int (za3 ws k.2)]) (SqL.of hx.chs.at_) ?_ ?_ (zaI (by rw [ml];exact Nat.le_trans hx.len (by decide))) (fun D H2 bs s2 nD hD eb hb=>?_)
 ·intro i x Hh Q' hi sh q'
  have z:=q' Hh (Same.refl _)
  unfold tak at z
  rw [getElem?_map] at hi
  cases e:xs[i]? with
  | none=>rw [e] at hi;cases hi
  | some k=>
    rw [e] at z
    exact z
 ·intro i x Hh Q' hi _ sh q'
  rw [getElem?_map] at hi
  cases e:xs[i]? with
  | none=>rw [e] at hi;cases hi
  | some k=>
    rw [e] at hi
    cases hi
    obtain ⟨k1,k2⟩:=(hx.chs.ch k (mem_of_getElem? e)).kc
    obtain ⟨_,_,c1,_,_⟩:=id k2.ex
    have z:∀b Hh',Same Hh Hh'->Hh' b=some (.tup [V.ref (kcOf H k.1),V.int (za3 ws k.2)])->Q' (.ref b) Hh':=fun b H' s' h'=>q' b H' s' (by rw [h'];unfold itl;rw [e])
    refine ⟨_,rfl,k.1,_,_,_,rfl,rfl,SqT.of (sh _ _ k1),rfl,?_⟩
    refine ⟨_,rfl,k.1,_,_,_,rfl,rfl,SqT.of (sh _ _ k1),rfl,_,_,_,_,rfl,rfl,SqT.of (sh _ _ c1),rfl,_,rfl,m,_,rfl,.inl (SqL.of (sh _ _ hm)),rfl,fl _,_,rfl,?_⟩
    have ei:(if false=true then !inV (.int k.2.1.n) (ws.map V.int) else inV (.int k.2.1.n) (ws.map V.int))=decide (k.2.1.n∈ws):=by
     rw [if_neg Bool.false_ne_true]
     exact zm6
    rw [ei]
    by_cases c:k.2.1.n∈ws
    ·refine iteD c ?_
     refine ⟨_,rfl,k.1,_,_,_,rfl,rfl,SqT.of (sh _ _ k1),rfl,_,_,rfl,rfl,si2,fun b H3 s3 n3 h3=>z b H3 s3 ?_⟩
     rw [h3]
     unfold za3
     rw [if_pos c]
    ·refine zgj c ?_
     refine ⟨_,rfl,k.1,_,_,_,rfl,rfl,SqT.of (sh _ _ k1),rfl,si2,fun b H3 s3 n3 h3=>z b H3 s3 ?_⟩
     rw [h3]
     unfold za3
     rw [if_neg c]
 rw [ml,zgv,zfW] at eb
 have lb:bs.length=xs.length:=by
  have:=congrArg List.length eb
  rw [length_map,length_map] at this
  exact this
 have mb:(bs.map fun b=>V.ref b.1).length=bs.length:=length_map _
 refine ⟨_,rfl,D,rfl,⟨_,SqL.of hD⟩,?_⟩
 have parts:∀b,b∈bs->∃(a:Addr) (i:Int),b.2=[.ref a,.int i]:=fun b hb'=>by
  have:b.2∈bs.map (·.2):=mem_map.mpr ⟨b,hb',rfl⟩
  rw [eb] at this
  obtain ⟨k,_,e⟩:=mem_map.mp this
  exact ⟨_,_,e.symm⟩
 refine za6 (xs:=bs.map fun b=>V.ref b.1) (tak bs fun b=>plV b.2) (itm bs fun b=>V.ref b.1) (SqL.of hD) ?_ ?_ (zaI (by rw [mb,lb];exact Nat.le_trans hx.len (by decide))) (fun D3 H3 s3 nD3 hD3=>?_)
 ·intro i x Hh Q' hi sh q'
  rw [getElem?_map] at hi
  cases e:bs[i]? with
  | none=>rw [e] at hi;cases hi
  | some b=>
    rw [e] at hi
    cases hi
    have hbm:=mem_of_getElem? e
    have z:=q' Hh (Same.refl _)
    unfold tak at z
    rw [e] at z
    obtain ⟨a,n,e2⟩:=parts b hbm
    have z:Q' (plV b.2) Hh:=z
    rw [e2] at z
    have g:=sh _ _ (hb b hbm)
    rw [e2] at g
    exact ⟨_,rfl,b.1,_,_,_,rfl,rfl,SqT.of g,rfl,_,_,rfl,rfl,_,rfl,z⟩
 ·intro i x Hh Q' hi _ sh q'
  rw [getElem?_map] at hi
  cases e:bs[i]? with
  | none=>rw [e] at hi;cases hi
  | some b=>
    rw [e] at hi
    cases hi
    have z:=q' Hh (Same.refl _)
    unfold itm at z
    rw [e] at z
    exact ⟨_,rfl,z⟩
 rw [mb,zc3] at hD3
 exact q D3 H3 _ (s2.trans s3) (Same.free s2 nD3) ⟨hD3,fun b hb'=>s3 _ _ (hb b (mem_filter.mp hb').1),zte eb⟩
theorem zfy:FnScope ["chores","hands","turn","numbers"] pl11 (zac zdM):=fsc
include T in
theorem zjg (D:Dfn K mg "turn_done" zdM pl11 f fd) (zbX:Cal P w K mg bf "numbers_worked" 8 pl11 (zk3 K tT)) (zaV:Cal P w K mg bf "chores_behind" 1 pl12 (zhY K)):Cal P w K mg bf "turn_done" 9 pl11 (zpM K tT):=by
 refine D.cal (D.F.ok zfy (fun vs H Q E h=>?_) (fun cdv A outer s H vs Q E hr h=>?_))
 ·obtain ⟨l,xs,h,t,rfl,_⟩:=h
  rfl
 obtain ⟨l,xs,h,t,rfl,hx,h0,hT,q⟩:=h
 refine ⟨_,(zag (zaz (i:=3) zfy.nd rfl (Or.inl rfl) (zao zbX hr.o rfl (zaa (pv 0) (zaa (pv 1) (zaa (pv 2) zae)))))
  (zaf (zak (zai (zaa (pv 3) (zaa (zao zaV hr.o rfl (zaa (pv 0) (zaa (pv 3) zae))) zae)))))),?_⟩
 refine ⟨_,rfl,_,rfl,_,rfl,l,xs,h,t,rfl,hx,h0,hT,fun m H1 s1 n1 h1=>?_⟩
 refine ⟨_,rfl,_,rfl,_,rfl,l,m,xs,_,rfl,hx.same s1,h1,fun D H2 bs s2 nD B=>?_⟩
 rw [zm7 hx.chs s1] at B
 have mD:m≠D:=fun z=>by rw [<-z,h1] at nD;cases nD
 exact ⟨si2,fun p H3 s3 n3 h3=>q p m D H3 bs (s1.trans (s2.trans s3)) h3 n1 (Same.free s1 nD) mD (s3 _ _ (s2 _ _ h1)) (B.same s3)⟩
theorem zgL:FnScope pl13 pl13 (zac zcn):=fsc
include T in
theorem zgM (D:Dfn K mg "chores_taken" zcn pl13 f fd):Cal P w K mg bf "chores_taken" 1 pl13 znO:=by
 refine D.cal (D.F.ok zgL (fun vs H Q E h=>?_) (fun cdv A outer s H vs Q E hr h=>?_))
 ·obtain ⟨l,rfl,_⟩:=h
  rfl
 obtain ⟨l,rfl,q⟩:=h
 refine ⟨_,(zag (za9 (zaE zrq (pv 1) zec (zaJ _)) (zaf (zak (pv 0))) zaC)
  (zaf zcD)),?_⟩
 exact ⟨_,rfl,rfl,_,rfl,iteT ⟨_,rfl,q⟩⟩
theorem zcg:FnScope ["chores","hands","begin","real","left","turn","rows","step"] pl14 (zac zcI):=fsc
include T in
theorem znP (D:DfnD K mg "run_of" zcI pl14 f fd) (zaV:Cal P w K mg bf "chores_behind" 1 pl12 (zhY K)) (zdY:Cal P w K mg bf "turn_done" 9 pl11 (zpM K tT)) (zct:Cal P w K mg bf "chores_taken" 1 pl13 znO):CalD P w K mg bf "run_of" 10 pl14 (zqT K tT):=by
 refine D.cal (D.F.ok zcg (fun vs H Q E h=>?_) (fun cdv A outer s H vs Q E hr h=>?_))
 ·obtain ⟨l,xs,h,b,rfl,_⟩:=h
  rfl
 obtain ⟨l,xs,h,b,rfl,hI,h0,b0,b1,hT,q⟩:=h
 refine ⟨_,(zag (zaz (i:=4) zcg.nd rfl (Or.inl rfl) (zao zaV hr.o rfl (zaa (zao zct hr.o rfl (zaa (pv 0) (zaa (pv 3) zae))) (zaa (zat zae) zae))))
  (zag (zaz (i:=5) zcg.nd rfl (Or.inl rfl) (pv 2))
  (zag (zaz (i:=6) zcg.nd rfl (Or.inl rfl) (zat zae))
  (zag (zkq PassesOwn.never (PW.pt (zhj (zaE zg2 (zar zaF rfl T.zdS zck (zaa (pv 4) zae)) zad (zaJ _)) (zeC (zaE zg2 (pv 1) zad (zaJ _))))) (zag (zaz (i:=7) zcg.nd rfl (Or.inl rfl) (zao zdY hr.o rfl (zaa (pv 4) (zaa (pv 1) (zaa (pv 5) zae)))))
  (zag (zc2 (zsW PySem.F.plainAttrs_list PySem.F.slot_list_append PySem.F.type_list_append zlw (pv 6) (zaa (zai (zaa (pv 5) (zaa (zaH zaw (pv 7) zad (fun _ _=>rfl)) zae))) zae)))
  (zag (zaz (i:=4) zcg.nd rfl (Or.inl rfl) (zaH zaw (pv 7) zad (fun _ _=>rfl)))
  (zaf (zrm (i:=5) zcg.nd rfl (Or.inl rfl) zad zrn))))))
  (zaf (zak (pv 6))))))),?_⟩
 refine ⟨_,rfl,_,rfl,l,rfl,si0,fun l1 H1 s1 n1 h1=>?_⟩
 refine ⟨l,l1,xs,[],rfl,hI.same s1,h1,fun D1 H2 bs s2 nD1 B=>?_⟩
 obtain ⟨hI2,e2⟩:=(hI.same s1).next s2 B
 refine ⟨_,rfl,si0,fun D H3 s3 n3 h3=>?_⟩
 have s02:=s1.trans s2
 generalize hc0:bhC [] (xs.map (·.2))=c0 at e2
 have hn:0<h.toNat:=by omega
 have s480:sumC c0<=480:=by rw [<-e2];exact hI2.sum
 refine zks (fun σ' H'=>∃(l':Addr) (xs':List (Addr × Cl × Int)) (rs:List (Addr × Addr × Int × List Int)) (n:Nat) (v7:Option V),σ'=[some (.ref l),some (.int h),some (.int b),some .non,some (.ref l'),some (.int (b+n)),some (.ref D),v7]/\Same H2 H'/\ChIn K H' l' xs'/\xs'.map (·.2)=(runN h.toNat n b c0).2/\(∀k,k∈(runN h.toNat n b c0).2->0<k.2)/\IsRun H' D rs/\rs.map (fun r=>(r.2.2.1,r.2.2.2))=(runN h.toNat n b c0).1/\(∀r,r∈rs->H2 r.2.1=none/\r.2.1≠D/\r.2.2.2.length<=40)/\(∀k,k<n->(runN h.toNat k b c0).2≠[])/\n+(sumC (runN h.toNat n b c0).2+(1001-(b+n)).toNat)<=sumC c0+(1001-b).toNat)
  (fun σ' _=>match σ' with | [_,_,_,_,_,some (.int t),_,_]=>sumC (runN h.toNat (t-b).toNat b c0).2+(1001-t).toNat | _=>0) ?_ ?_ ?_
 ·refine ⟨D1,_,[],0,_,by rw [show b+((0:Nat):Int)=b by omega];rfl,s3,hI2.same s3,e2,?_,⟨h3,fun r hr=>by simp at hr,fun r hr=>by simp at hr⟩,rfl,fun r hr=>by simp at hr,fun k hk=>by omega,by show 0+(sumC c0+(1001-(b+((0:Nat):Int))).toNat)<=_;omega⟩
  show ∀k,k∈c0->0<k.2
  rw [<-hc0]
  exact fun k hk=>zeO hk
 ·rintro σ' H4 ⟨l',xs',rs,n,v7,rfl,s4,hI4,ex,pos,R,er,hr,ln,rl⟩
  have mx:(xs'.map fun q=>V.ref q.1).length=xs'.length:=length_map _
  refine ⟨_,rfl,l',_,rfl,.inl (SqL.of hI4.chs.at_),_,_,rfl,rfl,_,rfl,?_⟩
  rw [mx]
  have lrs:rs.length=n:=by
   have:=congrArg List.length er
   rw [length_map,znc] at this
   exact this
  cases exs:xs' with
  | nil=>
    subst exs
    refine zgj (by simp) (iteF ?_)
    refine ⟨_,rfl,q D H4 rs (s02.trans s4) (Same.free s02 n3) ⟨R,fun r h'=>Same.free s02 (hr r h').1,fun r h'=>(hr r h').2.1,n,by rw [hc0];exact er,by rw [hc0];exact ex.symm,by rw [hc0];exact ln⟩ (fun r h'=>(hr r h').2.2) (by rw [lrs];omega)⟩
  | cons x0 xt=>
    rw [<-exs]
    have ne:(runN h.toNat n b c0).2≠[]:=by rw [<-ex,exs];simp
    refine iteD (by rw [exs,length_cons];omega) ?_
    refine ⟨_,rfl,_,_,rfl,rfl,_,rfl,iteD h0 ?_⟩
    refine ⟨_,rfl,_,rfl,_,rfl,l',xs',h,_,rfl,hI4,by omega,s4 _ _ (s02 _ _ hT),fun p m2 D2 H5 bs2 s5 hp nm nD2 mD hm2 B2=>?_⟩
    have R5:=R.same s5
    have m2D:m2≠D:=fun z=>by rw [z,R.at_] at nm;cases nm
    refine ⟨_,rfl,.inl ⟨rfl,_,SqL.of R5.at_⟩,_,rfl,_,rfl,p,_,_,_,rfl,rfl,SqT.of hp,rfl,si2,fun p6 H6 s6 n6 h6=>?_⟩
    have R6:=R5.same s6
    refine ⟨D,_,_,rfl,rfl,R6.at_,?_,fun H7 k7 h7=>?_⟩
    ·rw [length_map,lrs]
     have z:(100000:Nat)<=sizeLine:=by decide
     omega
    have hp6:=s6 _ _ hp
    have hp7:=k7 _ _ (fun z=>by rw [z,R6.at_] at hp6;cases hp6) hp6
    refine ⟨_,rfl,p,_,_,_,rfl,rfl,SqT.of hp7,rfl,?_⟩
    obtain ⟨hI5,e5⟩:=hI4.next s5 B2
    have D2D:D2≠D:=fun z=>by rw [z,R.at_] at nD2;cases nD2
    have B6:=B2.same s6
    have B7:IsBh H7 D2 (behL H4 (zeN (b+n) h.toNat xs') xs') bs2:=⟨k7 _ _ D2D B6.at_,fun c hc=>k7 _ _ (fun z=>by have:=B6.rw c hc;rw [z,R6.at_] at this;cases this) (B6.rw c hc),B6.eq⟩
    have s47:Same H2 H7:=(s4.trans (s5.trans s6)).but n3 k7
    have hI7:ChIn K H7 D2 (zipB bs2 (behL H4 (zeN (b+n) h.toNat xs') xs')):=by
     have hI6:=hI5.same s6
     exact ⟨hI6.chs.but k7 R6.at_ D2D,hI6.len,hI6.ok,hI6.nd⟩
    have ew:zeN (b+n) h.toNat xs'=wkC (b+n) h.toNat (runN h.toNat n b c0).2:=by rw [zqE,ex]
    have dn:=zkP (t:=b+n) hn ne pos (by rw [<-ex];exact hI4.cm)
    refine ⟨_,rfl,_,_,rfl,rfl,⟨D2,zipB bs2 (behL H4 (zeN (b+n) h.toNat xs') xs'),rs++[(p6,m2,b+n,zeN (b+n) h.toNat xs')],n+1,_,by rw [show b+((n+1:Nat):Int)=b+n+1 by omega];rfl,s47,hI7,?_,?_,?_,?_,?_,?_,?_⟩,?_⟩
    ·rw [e5,ex,zaR,ew]
    ·rw [zaR]
     exact fun k hk=>zeO hk
    ·exact R6.app k7 h7 h6 (s6 _ _ hm2) m2D fun r h'=>(hr r h').2.1
    ·rw [map_append,er,zaR,<-ew]
     rfl
    ·intro r h'
     rcases mem_append.mp h' with h' | h'
     ·exact hr r h'
     ·rw [mem_singleton.mp h']
      exact ⟨Same.free s4 nm,m2D,zsv hI4 _ _⟩
    ·intro k hk
     by_cases kn:k=n
     ·subst kn
      exact ne
     ·exact ln k (by omega)
    ·rw [zaR]
     show n+1+(sumC (bhC (wkC (b+n) h.toNat (runN h.toNat n b c0).2) (runN h.toNat n b c0).2)+(1001-(b+((n+1:Nat):Int))).toNat)<=_
     omega
    ·show sumC (runN h.toNat (b+n+1-b).toNat b c0).2+(1001-(b+n+1)).toNat<sumC (runN h.toNat (b+n-b).toNat b c0).2+(1001-(b+n)).toNat
     rw [show (b+(n:Int)+1-b).toNat=n+1 by omega,show (b+(n:Int)-b).toNat=n by omega,zaR]
     exact dn
 ·intro σ' H' Q1 Q2 hq h
  obtain ⟨v1,e1,a,ys,e3,hs,i,j,e4,e5,bb,eb,h⟩:=h
  refine ⟨v1,e1,a,ys,e3,hs,i,j,e4,e5,bb,eb,?_⟩
  by_cases c:bb=true
  ·rw [if_pos c] at h ⊢
   obtain ⟨w1,f1,i2,j2,f3,f4,b2,f5,h⟩:=h
   exact ⟨w1,f1,i2,j2,f3,f4,b2,f5,hq _ _ h⟩
  ·rw [if_neg c] at h ⊢
   exact hq _ _ h
def znQ (K:W.Frag):Sp:=fun vs H Q _=>∃(l:Addr) (ps:List (Addr × Cl)) (t:Int),vs=[.ref l,.int t]/\IsCs K H l ps/\ps.length<=40/\0<=t/\t<=1000000000000000/\(∀q,q∈ps->q.2.came<=t)/\∀H',Same H H'->Q .non H'
theorem zhZ:FnScope pl10 pl10 (zac zc6):=fsc
include T in
theorem zh0 (D:Dfn K mg "check_turn" zc6 pl10 f fd) (zau:Cal P w K mg bf "is_whole" 1 pl4 (zbL K)) (Cq:XCal P w K mg bf "NoTurn" Am "turn"):Cal P w K mg bf "check_turn" 2 pl10 (znQ K):=by
 refine D.cal (D.F.ok zhZ (fun vs H Q E h=>?_) (fun cdv A outer s H vs Q E hr h=>?_))
 ·obtain ⟨l,ps,t,rfl,_⟩:=h
  rfl
 obtain ⟨l,ps,t,rfl,hC,pl,t0,t1,ca,q⟩:=h
 refine ⟨_,(zag (za9 (za0 (zaQ (zao zau hr.o rfl (zaa (pv 1) (zaa zad (zaa (zaZ (v:=.int 1000000000000000) rfl T.Bd.choose_spec ⟨_,rfl⟩) zae)))))) (zaf zcD) zaC)
  (zaf (za9 (zaQ (zar (ziS rfl) rfl T.zso zpw (zaa (zbd (N:=["claim","turn"]) (js:=[1]) rfl cpo (zaL (pv 0)) (fun _ _ _ _ _=>zcy) (fun _ _ _ _ _=>(zeD zg2 (zaH (r:=rIxT K) zaw (pv 0) zad (fun _ _=>rfl)) (pv 1) (zaJ _)))) zae))) (zaf zcD) zaC))),?_⟩
 have ml:(ps.map fun q=>V.ref q.1).length=ps.length:=length_map _
 ·refine ⟨_,rfl,_,0,1000000000000000,_,rfl,.inl ⟨t,rfl,rfl⟩,?_⟩
  rw [decide_eq_true t0,decide_eq_true t1]
  refine ⟨_,rfl,iteF ?_⟩
  refine ⟨_,rfl,l,rfl,⟨_,SqL.of hC.at_⟩,?_⟩
  refine za6 (xs:=ps.map fun q=>V.ref q.1) (fun _=>true) (itm ps fun q=>V.bl (decide (t<q.2.came))) (SqL.of hC.at_) (fun i x Hh Q' hx sh q'=>q' Hh (Same.refl _)) ?_ (zaI (by rw [ml];omega)) (fun D H2 s2 nD hD=>?_)
  ·intro i x Hh Q' hx _ sh q'
   rw [getElem?_map] at hx
   cases e:ps[i]? with
   | none=>rw [e] at hx;cases hx
   | some y=>
     rw [e] at hx
     cases hx
     obtain ⟨pw,pz,z1,_,_⟩:=((hC.cl y (mem_of_getElem? e)).same sh).ex
     refine ⟨_,rfl,y.1,_,_,_,rfl,rfl,SqT.of z1,rfl,_,rfl,_,_,rfl,rfl,?_⟩
     have z:=q' Hh (Same.refl _)
     unfold itm at z
     rw [e] at z
     exact z
  rw [zdt,ml,zgs] at hD
  have hD:H2 D=some (.lst ((ps.map fun q=>decide (t<q.2.came)).map V.bl)):=by
   rw [hD,map_map]
   rfl
  refine ⟨D,_,rfl,SqL.of hD,_,rfl,?_⟩
  have an:(ps.map fun q=>decide (t<q.2.came)).any id=false:=by
   rw [List.any_eq_false]
   intro b hb
   obtain ⟨y,hy,rfl⟩:=mem_map.mp hb
   have:=ca y hy
   simp
   omega
  rw [an]
  exact iteF (q H2 s2)
def znR (K:W.Frag) (tT:Addr):Sp:=fun vs H Q _=>∃(l:Addr) (ps:List (Addr × Cl)) (t:Int),vs=[.ref l,.int t]/\IsCs K H l ps/\Good (ps.map (·.2))/\ps.length<=40/\H tT=some (.tbl zbc lamQ)/\0<=t/\t<=1000000000000000/\(∀q,q∈ps->q.2.came<=t)/\∀m H',Same H H'->H m=none->H' m=some (.lst (((ord (ps.map (·.2)) t).map (·.n)).map V.int))->Q (.ref m) H'
theorem zj6:FnScope pl10 pl10 (zac zeV):=fsc
include T in
theorem zj7 (D:Dfn K mg "order_at" zeV pl10 f fd) (zdk:Cal P w K mg bf "check_turn" 2 pl10 (znQ K)) (zaK:Cal P w K mg bf "numbers_in_order" 7 pl10 (zgK K tT)):Cal P w K mg bf "order_at" 8 pl10 (znR K tT):=by
 refine D.cal (D.F.ok zj6 (fun vs H Q E h=>?_) (fun cdv A outer s H vs Q E hr h=>?_))
 ·obtain ⟨l,ps,t,rfl,_⟩:=h
  rfl
 obtain ⟨l,ps,t,rfl,hC,G,pl,hT,t0,t1,ca,q⟩:=h
 refine ⟨_,(zag (zc2 (zao zdk hr.o rfl (zaa (pv 0) (zaa (pv 1) zae))))
  (zaf (zak (zao zaK hr.o rfl (zaa (pv 0) (zaa (pv 1) zae)))))),?_⟩
 refine ⟨_,rfl,_,rfl,l,ps,t,rfl,hC,pl,t0,t1,ca,fun H1 s1=>?_⟩
 exact ⟨_,rfl,_,rfl,l,ps,t,rfl,hC.same s1,G,pl,s1 _ _ hT,fun m H2 s2 n2 h2=>q m H2 (s1.trans s2) (Same.free s1 n2) h2⟩
def zpO (K:W.Frag):Sp:=fun vs H Q _=>∃(l:Addr) (xs:List (Addr × Cl × Int)) (k0:Addr × Cl × Int),vs=[.ref l,.int k0.2.1.n]/\ChIn K H l xs/\k0∈xs/\0<k0.2.2/\∀H',Same H H'->Q (.bl true) H'
theorem zg9:FnScope pl15 pl15 (zac zcJ):=fsc
include T in
theorem zha (D:Dfn K mg "is_piece_of" zcJ pl15 f fd) (zau:Cal P w K mg bf "is_whole" 1 pl4 (zbL K)):Cal P w K mg bf "is_piece_of" 2 pl15 (zpO K):=by
 refine D.cal (D.F.ok zg9 (fun vs H Q E h=>?_) (fun cdv A outer s H vs Q E hr h=>?_))
 ·obtain ⟨l,xs,k0,rfl,_⟩:=h
  rfl
 obtain ⟨l,xs,k0,rfl,hI,hk0,p0,q⟩:=h
 refine ⟨_,(zaf (zak (zar (ziS rfl) rfl T.zso zpw (zaa (zbd (N:=["chore","number"]) (js:=[1]) rfl cpo (zaL (pv 0)) (fun _ _ _ _ _=>zcy) (fun _ _ _ _ _=>(zhl (zeD zg2 (zaH (r:=rIxT K) zaw (pv 0) zad (fun _ _=>rfl)) zad (zaJ _)) (zhk (zao zau hr.o rfl (zaa (pv 1) (zaa (zaH (r:=rIxT K) zaw (zaH (r:=rIxT K) zaw (pv 0) zad (fun _ _=>rfl)) zad (fun _ _=>rfl)) (zaa (zaH (r:=rIxT K) zaw (zaH (r:=rIxT K) zaw (pv 0) zad (fun _ _=>rfl)) zad (fun _ _=>rfl)) zae)))))))) zae)))),?_⟩
 have ml:(xs.map fun q=>V.ref q.1).length=xs.length:=length_map _
 refine ⟨_,rfl,l,rfl,⟨_,SqL.of hI.chs.at_⟩,?_⟩
 refine za6 (xs:=xs.map fun q=>V.ref q.1) (fun _=>true) (itm xs fun k=>V.bl (decide (0<k.2.2)&&(decide (k.2.1.n<=k0.2.1.n)&&decide (k0.2.1.n<=k.2.1.n)))) (SqL.of hI.chs.at_) (fun i x Hh Q' hx sh q'=>q' Hh (Same.refl _)) ?_ (zaI (by rw [ml];have:=hI.len;omega)) (fun D H2 s2 nD hD=>?_)
 ·intro i y Hh Q' hi _ sh q'
  rw [getElem?_map] at hi
  cases e:xs[i]? with
  | none=>rw [e] at hi;cases hi
  | some k=>
    rw [e] at hi
    cases hi
    have hk:=mem_of_getElem? e
    obtain ⟨k1,k2⟩:=(hI.chs.ch k hk).kc
    obtain ⟨_,_,c1,_,_⟩:=id k2.ex
    have z:Q' (V.bl (decide (0<k.2.2)&&(decide (k.2.1.n<=k0.2.1.n)&&decide (k0.2.1.n<=k.2.1.n)))) Hh:=by
     have z:=q' Hh (Same.refl _)
     unfold itm at z
     rw [e] at z
     exact z
    refine ⟨_,rfl,k.1,_,_,_,rfl,rfl,SqT.of (sh _ _ k1),rfl,_,_,rfl,rfl,_,rfl,?_⟩
    by_cases c:0<k.2.2
    ·refine iteD c ?_
     rw [decide_eq_true c,Bool.true_and] at z
     exact ⟨_,rfl,_,rfl,k.1,_,_,_,rfl,rfl,SqT.of (sh _ _ k1),rfl,_,_,_,_,rfl,rfl,SqT.of (sh _ _ c1),rfl,_,rfl,k.1,_,_,_,rfl,rfl,SqT.of (sh _ _ k1),rfl,_,_,_,_,rfl,rfl,SqT.of (sh _ _ c1),rfl,_,_,_,_,rfl,.inl ⟨_,rfl,rfl⟩,z⟩
    ·refine zgj c ?_
     rw [decide_eq_false c,Bool.false_and] at z
     exact z
 rw [zdt,ml,zgs] at hD
 have hD:H2 D=some (.lst ((xs.map fun k=>decide (0<k.2.2)&&(decide (k.2.1.n<=k0.2.1.n)&&decide (k0.2.1.n<=k.2.1.n))).map V.bl)):=by
  rw [hD,map_map]
  rfl
 refine ⟨D,_,rfl,SqL.of hD,?_⟩
 have an:(xs.map fun k=>decide (0<k.2.2)&&(decide (k.2.1.n<=k0.2.1.n)&&decide (k0.2.1.n<=k.2.1.n))).any id=true:=by
  rw [List.any_eq_true]
  refine ⟨_,mem_map.mpr ⟨k0,hk0,rfl⟩,?_⟩
  rw [decide_eq_true p0,decide_eq_true (Int.le_refl _)]
  rfl
 rw [an]
 exact q H2 s2
def zpP (K:W.Frag):Sp:=fun vs H Q _=>∃(l:Addr) (xs:List (Addr × Cl × Int)) (k0:Addr × Cl × Int),vs=[.ref l,.int k0.2.1.n]/\ChIn K H l xs/\k0∈xs/\0<k0.2.2/\∀H',Same H H'->Q .non H'
theorem zhb:FnScope pl15 pl15 (zac zcK):=fsc
include T in
theorem zhc (D:Dfn K mg "check_piece" zcK pl15 f fd) (zcS:Cal P w K mg bf "is_piece_of" 2 pl15 (zpO K)) (Cr:XCal P w K mg bf "NoPiece" Ao "number"):Cal P w K mg bf "check_piece" 3 pl15 (zpP K):=by
 refine D.cal (D.F.ok zhb (fun vs H Q E h=>?_) (fun cdv A outer s H vs Q E hr h=>?_))
 ·obtain ⟨l,xs,k0,rfl,_⟩:=h
  rfl
 obtain ⟨l,xs,k0,rfl,hI,hk0,p0,q⟩:=h
 refine ⟨_,(zaf (za9 (za0 (zaQ (zao zcS hr.o rfl (zaa (pv 0) (zaa (pv 1) zae))))) (zaf zcD) zaC)),?_⟩
 exact ⟨_,rfl,_,rfl,l,xs,k0,rfl,hI,hk0,p0,fun H1 s1=>⟨_,rfl,iteF (q H1 s1)⟩⟩
abbrev zbM (rs:List (Addr × Addr × Int × List Int)):List (Int × List Int):=rs.map fun r=>(r.2.2.1,r.2.2.2)
def znS (K:W.Frag):Sp:=fun vs H Q _=>∃(D:Addr) (rs:List (Addr × Addr × Int × List Int)),vs=[.ref D]/\IsRun H D rs/\(∀r,r∈rs->r.2.2.2.length<=40)/\rs.length<=1481/\
 ∀d H',Same H H'->H d=none->H' d=some (.dK (dI (zbo (zbM rs) [])))->Q (.ref d) H'
theorem zh1 {rs:List (Addr × Addr × Int × List Int)} {i j:Nat} {t:Int} {ws:List Int} (h1:∀r,r∈rs->r.2.2.2.length<=40) (h2:rs.length<=1481) (h3:ws.length<=40):(dI (zc4 t (ws.take j) (zbo (zbM (rs.take i)) []))).length<sizeLine:=by
 have a:=ziU (B:=40) (zbM (rs.take i)) [] fun r hr=>by
  obtain ⟨q,hq,rfl⟩:=mem_map.mp hr
  exact h1 q (List.mem_of_mem_take hq)
 have b:=zgx t (ws.take j) (zbo (zbM (rs.take i)) [])
 rw [length_map,length_take] at a
 rw [length_take] at b
 rw [zpD]
 have z:(100000:Nat)<=sizeLine:=by decide
 rw [length_nil,Nat.zero_add] at a
 omega
theorem znT {α:Type} {xs:List α} {i:Nat} {x : α} (h:xs[i]?=some x):xs.take (i+1)=xs.take i++[x]:=by
 rw [List.take_succ,h]
 rfl
theorem zb1:FnScope ["rows","turns","row","number"] ["rows"] (zac zc7):=fsc
include T in
theorem zh2 (D:Dfn K mg "last_turns" zc7 ["rows"] f fd):Cal P w K mg bf "last_turns" 1 ["rows"] (znS K):=by
 refine D.cal (D.F.ok zb1 (fun vs H Q E h=>?_) (fun cdv A outer s H vs Q E hr h=>?_))
 ·obtain ⟨D,rs,rfl,_⟩:=h
  rfl
 obtain ⟨D,rs,rfl,R,l40,l14,q⟩:=h
 refine ⟨_,(zag (zaz (i:=1) zb1.nd rfl (Or.inl rfl) zkM)
  (zag (zdB PassesOwn.never rfl (zaL (pv 0)) (zbN (i:=2) zb1.nd rfl (Or.inl rfl)) (zaf (zdB PassesOwn.never rfl (zaL (zaH zaw (pv 2) zad (fun _ _=>rfl))) (zbN (i:=3) zb1.nd rfl (Or.inl rfl)) (zaf (zmp hr.units1 (pv 1) (pv 3) (zaH zaw (pv 2) zad (fun _ _=>rfl)) rfl)))))
  (zaf (zak (pv 1))))),?_⟩
 refine fun d H1 s1 n1 h1=>?_
 have mr:(rs.map fun r=>V.ref r.1).length=rs.length:=length_map _
 refine ⟨_,rfl,D,rfl,⟨_,SqL.of (s1 _ _ R.at_)⟩,?_⟩
 refine zcj (K:=K) (a:=D) (xs:=rs.map fun r=>V.ref r.1) (fun i σ H'=>∃v2 v3:Option V,σ=[some (.ref D),some (.ref d),v2,v3]/\Same H H'/\H' d=some (.dK (dI (zbo (zbM (rs.take i)) []))))
  ⟨_,_,rfl,s1,h1⟩ (fun i σ H' _ ⟨_,_,_,s,_⟩=>SqL.of (s _ _ R.at_)) ?_ ?_
 ·rintro i x σ H2 hi ⟨v2,v3,rfl,s2,h2⟩
  rw [getElem?_map] at hi
  cases e:rs[i]? with
  | none=>rw [e] at hi;cases hi
  | some r=>
    rw [e] at hi
    cases hi
    have hr:=mem_of_getElem? e
    have er:zbM (rs.take (i+1))=zbM (rs.take i)++[(r.2.2.1,r.2.2.2)]:=by
     rw [znT e]
     exact map_append
    have mw:(r.2.2.2.map V.int).length=r.2.2.2.length:=length_map _
    refine ⟨_,rfl,r.1,_,_,_,rfl,rfl,SqT.of (s2 _ _ (R.row r hr)),rfl,r.2.1,rfl,⟨_,SqL.of (s2 _ _ (R.num r hr))⟩,?_⟩
    refine zcj (K:=K) (a:=r.2.1) (xs:=r.2.2.2.map V.int) (fun j σ H'=>∃v3:Option V,σ=[some (.ref D),some (.ref d),some (.ref r.1),v3]/\Same H H'/\H' d=some (.dK (dI (zc4 r.2.2.1 (r.2.2.2.take j) (zbo (zbM (rs.take i)) [])))))
     ⟨_,rfl,s2,h2⟩ (fun j σ H' _ ⟨_,_,s,_⟩=>SqL.of (s _ _ (R.num r hr))) ?_ ?_
    ·rintro j y σ H3 hj ⟨v3,rfl,s3,h3⟩
     rw [getElem?_map] at hj
     cases ej:r.2.2.2[j]? with
     | none=>rw [ej] at hj;cases hj
     | some n=>
       rw [ej] at hj
       cases hj
       refine ⟨_,rfl,r.1,_,_,_,rfl,rfl,SqT.of (s3 _ _ (R.row r hr)),rfl,_,rfl,_,rfl,d,_,rfl,DPut.k (k:=.inl n) h3 (zh1 l40 l14 (l40 r hr)),?_⟩
       refine ⟨_,rfl,s3.but n1 (But.upd _ _ _),?_⟩
       rw [zam,zpC,znT ej,zhs]
    ·rintro σ H3 ⟨v3,rfl,s3,h3⟩
     rw [mw,take_length] at h3
     refine ⟨_,_,rfl,s3,?_⟩
     rw [h3,er,zht]
 ·rintro σ H2 ⟨v2,v3,rfl,s2,h2⟩
  rw [mr,take_length] at h2
  exact ⟨_,rfl,q d H2 s2 n1 h2⟩
structure LatOf (H:Hp) (d:Addr) (h:Nat) (b:Int) (c:Ch) (L:List (Int × Int)):Prop where
 at_:H d=some (.dK (dI L))
 ex:∃N,L=zbo (runN h N b (bhC [] c)).1 []/\(runN h N b (bhC [] c)).2=[]/\∀k,k<N->(runN h k b (bhC [] c)).2≠[]
 len:(dI L).length<sizeLine
theorem RunOf.lat {H0 H H':Hp} {h:Nat} {b:Int} {c:Ch} {D d:Addr} {rs:List (Addr × Addr × Int × List Int)} (R:RunOf H0 H h b c D rs) (l40:∀r,r∈rs->r.2.2.2.length<=40) (l14:rs.length<=1481) (hd:H' d=some (.dK (dI (zbo (zbM rs) [])))):LatOf H' d h b c (zbo (zbM rs) []):=by
 obtain ⟨n,a1,a2,a3⟩:=R.eq
 have hL:=zh1 (i:=rs.length) (j:=0) (t:=0) (ws:=[]) l40 l14 (by decide)
 rw [take_length] at hL
 exact ⟨hd,⟨n,by rw [<-a1],a2,a3⟩,hL⟩
def zk4 (K:W.Frag) (tT:Addr):Sp:=fun vs H Q _=>∃(l:Addr) (xs:List (Addr × Cl × Int)) (h b:Int),vs=[.ref l,.int h,.int b]/\ChIn K H l xs/\0<h/\0<=b/\b<=1000/\H tT=some (.tbl zbc lamQ)/\
 ∀d H' L,Same H H'->H d=none->LatOf H' d h.toNat b (xs.map (·.2)) L->Q (.ref d) H'
theorem zh3:FnScope pl16 pl16 (zac zc8):=fsc
include T in
theorem zh4 (D:Dfn K mg "latest_all" zc8 pl16 f fd) (zdw:CalD P w K mg bf "run_of" 10 pl14 (zqT K tT)) (zbi:Cal P w K mg bf "last_turns" 1 ["rows"] (znS K)):Cal P w K mg bf "latest_all" 11 pl16 (zk4 K tT):=by
 refine D.cal (D.F.ok zh3 (fun vs H Q E h=>?_) (fun cdv A outer s H vs Q E hr h=>?_))
 ·obtain ⟨l,xs,h,b,rfl,_⟩:=h
  rfl
 obtain ⟨l,xs,h,b,rfl,hI,h0,b0,b1,hT,q⟩:=h
 refine ⟨_,(zaf (zak (zao zbi hr.o rfl (zaa (zna zdw hr.o rfl (zaa (pv 0) (zaa (pv 1) (zaa (pv 2) zae)))) zae)))),?_⟩
 refine ⟨_,rfl,_,rfl,_,rfl,l,xs,h,b,rfl,hI,h0,b0,b1,hT,fun D H1 rs s1 nD R l40 l14=>?_⟩
 exact ⟨D,rs,rfl,R.run,l40,l14,fun d H2 s2 nd hd=>q d H2 _ (s1.trans s2) (Same.free s1 nd) (R.lat l40 l14 hd)⟩
theorem LatOf.val {H:Hp} {d:Addr} {h:Nat} {b:Int} {c:Ch} {L:List (Int × Int)} (l:LatOf H d h b c L) {k:Cl × Int} (hk:k∈c) (pos:0<k.2):∃u,valI L k.1.n=some u:=by
 obtain ⟨N,e,n,_⟩:=l.ex
 have hm:k∈bhC [] c:=by
  rw [zjQ]
  exact mem_filter.mpr ⟨hk,decide_eq_true pos⟩
 obtain ⟨i,_,i2,i3⟩:=ziW (h:=h) (b:=b) (d:=bhC [] c) (j:=k.1.n) N 0 (mem_map.mpr ⟨k,hm,rfl⟩) (fun k hk=>zeO hk) (by rw [Nat.zero_add];exact n)
 obtain ⟨u,h1,_⟩:=zdv (L:=[]) (znk N).1 (.inr ⟨_,zhM (show i<N by omega),rfl,i3⟩)
 exact ⟨u,by rw [e];exact h1⟩
def znU (K:W.Frag) (tT:Addr):Sp:=fun vs H Q _=>∃(l:Addr) (xs:List (Addr × Cl × Int)) (h b:Int) (k:Addr × Cl × Int),vs=[.ref l,.int h,.int b,.int k.2.1.n]/\ChIn K H l xs/\0<h/\0<=b/\b<=1000/\H tT=some (.tbl zbc lamQ)/\k∈xs/\0<k.2.2/\∀u d H' L,Same H H'->LatOf H' d h.toNat b (xs.map (·.2)) L->valI L k.2.1.n=some u->Q (.int u) H'
theorem zjh:FnScope pl17 pl17 (zac zdN):=fsc
include T in
theorem zji (D:Dfn K mg "latest_of" zdN pl17 f fd) (zcT:Cal P w K mg bf "check_piece" 3 pl15 (zpP K)) (zdl:Cal P w K mg bf "latest_all" 11 pl16 (zk4 K tT)):Cal P w K mg bf "latest_of" 12 pl17 (znU K tT):=by
 refine D.cal (D.F.ok zjh (fun vs H Q E h=>?_) (fun cdv A outer s H vs Q E hr h=>?_))
 ·obtain ⟨l,xs,h,b,k,rfl,_⟩:=h
  rfl
 obtain ⟨l,xs,h,b,k,rfl,hI,h0,b0,b1,hT,hk,p,q⟩:=h
 refine ⟨_,(zag (zc2 (zao zcT hr.o rfl (zaa (pv 0) (zaa (pv 3) zae))))
  (zaf (zak (zeG hr.units1 (zao zdl hr.o rfl (zaa (pv 0) (zaa (pv 1) (zaa (pv 2) zae)))) (pv 3) (fun _ _=>rfl))))),?_⟩
 refine ⟨_,rfl,_,rfl,l,xs,k,rfl,hI,hk,p,fun H1 s1=>?_⟩
 refine ⟨_,rfl,_,rfl,_,rfl,l,xs,h,b,rfl,hI.same s1,h0,b0,b1,s1 _ _ hT,fun d H2 L s2 nd hA=>?_⟩
 obtain ⟨u,hu⟩:=hA.val (mem_map.mpr ⟨k,hk,rfl⟩) p
 have g:=zhu (.inl hA.at_) k.2.1.n
 rw [hu] at g
 exact ⟨_,rfl,d,_,rfl,g,q u d H2 L (s1.trans s2) hA hu⟩
def zpQ (K:W.Frag) (tT:Addr):Sp:=fun vs H Q _=>∃(l:Addr) (xs:List (Addr × Cl × Int)) (h b:Int) (a:Addr) (tl:List (Int × Int)),vs=[.ref l,.int h,.int b,.ref a]/\ChIn K H l xs/\0<h/\0<=b/\b<=1000/\H tT=some (.tbl zbc lamQ)/\Rd H a (.dK (dI tl))/\
 ∀D H' rs,Same H H'->H D=none->RunOf H H' h.toNat b (xs.map (·.2)) D rs->(∀r,r∈rs->r.2.2.2.length<=40)->
  (zeP (zbo (zbM rs) []) tl=[]->Q .non H')/\∀M v u p,M∈zeP (zbo (zbM rs) []) tl->(∀y,y∈zeP (zbo (zbM rs) []) tl->M<=y)->valI tl M=some v->valI (zbo (zbM rs) []) M=some u->H p=none->H' p=some (.tup [.int M,.int v,.int u,.ref D])->Q (.ref p) H'
theorem zch:FnScope ["chores","hands","begin","told","run","turns","late","least"] pl18 (zac zeW):=fsc
include T in
theorem zj8 (D:Dfn K mg "kept_all" zeW pl18 f fd) (zdw:CalD P w K mg bf "run_of" 10 pl14 (zqT K tT)) (zbi:Cal P w K mg bf "last_turns" 1 ["rows"] (znS K)):Cal P w K mg bf "kept_all" 11 pl18 (zpQ K tT):=by
 refine D.cal (D.F.ok zch (fun vs H Q E h=>?_) (fun cdv A outer s H vs Q E hr h=>?_))
 ·obtain ⟨l,xs,h,b,a,tl,rfl,_⟩:=h
  rfl
 obtain ⟨l,xs,h,b,a,tl,rfl,hI,h0,b0,b1,hT,hd,q⟩:=h
 refine ⟨_,(zag (zaz (i:=4) zch.nd rfl (Or.inl rfl) (zna zdw hr.o rfl (zaa (pv 0) (zaa (pv 1) (zaa (pv 2) zae)))))
  (zag (zaz (i:=5) zch.nd rfl (Or.inr rfl) (zao zbi hr.o rfl (zaa (pv 4) zae)))
  (zag (zhJ (i:=6) (N:=["number","told","turns"]) (js:=[3,5]) zch.nd rfl rfl rfl cpo (zqG (pv 5)) (fun _ _ _ _ _=>(zgk (PW.pt (zhj (zaE (zse hr.units1) (pv 0) (pv 1) rfl) (zeC (zaE zg2 (zeG hr.units1 (pv 2) (pv 0) (fun _ _=>rfl)) (zeG hr.units1 (pv 1) (pv 0) (fun _ _=>rfl)) (zaJ _))))))) (fun _ _ _ _ _=>(pv 0)))
  (zag (za9 (zaE zio (zar zaF rfl T.zdS zck (zaa (pv 6) zae)) zad (zaJ _)) (zaf (zak zec)) zaC)
  (zag (zaz (i:=7) zch.nd rfl (Or.inl rfl) (zar (zmP rfl) rfl T.ztm zrB (zaa (pv 6) zae)))
  (zaf (zak (zai (pai (zab (pv 7) (zab (zeG hr.units1 (pv 3) (pv 7) (fun _ _=>rfl)) (zab (zeG hr.units1 (pv 5) (pv 7) (fun _ _=>rfl)) (zab (pv 4) zay))))))))))))),?_⟩
 refine ⟨_,rfl,_,rfl,_,rfl,l,xs,h,b,rfl,hI,h0,b0,b1,hT,fun D H1 rs s1 nD R l40 l14=>?_⟩
 refine ⟨_,rfl,D,rs,rfl,R.run,l40,l14,fun d H2 s2 nd hd2=>?_⟩
 refine ⟨_,rfl,d,_,rfl,.inl hd2,fun ob H3 k3 h3=>?_⟩
 have nd0:H d=none:=Same.free s1 nd
 have s3:Same H H3:=(s1.trans s2).but nd0 k3
 have s13:Same H1 H3:=s2.but nd k3
 have R3:RunOf H H3 h.toNat b (xs.map (·.2)) D rs:=⟨R.run.same s13,R.new,R.ne,R.eq⟩
 have hL:=zh1 (i:=rs.length) (j:=0) (t:=0) (ws:=[]) l40 l14 (by decide)
 rw [take_length] at hL
 have hL:(dI (zbo (zbM rs) [])).length<sizeLine:=hL
 have q:=fun (H':Hp) (s:Same H H') (R':RunOf H H' h.toNat b (xs.map (·.2)) D rs)=>q D H' rs s nD R' l40
 generalize zbo (zbM rs) []=L at hd2 h3 hL q
 refine znf (tak L fun p=>ziV L tl p.1) (itm L fun p=>V.int p.1) h3 ?_ ?_ hL (fun D4 H4 s4 nD4 hD4=>?_)
 ·intro i kv Hh Q' hi sh q'
  unfold dI at hi
  rw [getElem?_map] at hi
  cases e:L[i]? with
  | none=>rw [e] at hi;cases hi
  | some p=>
    rw [e] at hi
    cases hi
    have z:=q' Hh (Same.refl _)
    unfold tak at z
    rw [e] at z
    have z:Q' (ziV L tl p.1) Hh:=z
    unfold ziV at z
    obtain ⟨u,hu⟩:=zfX (mem_of_getElem? e)
    refine ⟨_,rfl,_,rfl,a,_,rfl,zhu (hd.same (s3.trans sh)) p.1,_,rfl,?_⟩
    cases ev:valI tl p.1 with
    | none=>
      rw [ev] at z
      exact iteF z
    | some v=>
      rw [ev,hu] at z
      refine iteT ?_
      have g1:=zhu (.inr ⟨ob,sh _ _ h3⟩) p.1
      have g2:=zhu (hd.same (s3.trans sh)) p.1
      rw [hu] at g1
      rw [ev] at g2
      exact ⟨_,rfl,_,rfl,d,_,rfl,g1,_,rfl,_,rfl,a,_,rfl,g2,_,_,rfl,rfl,_,rfl,z⟩
 ·intro i kv Hh Q' hi _ sh q'
  unfold dI at hi
  rw [getElem?_map] at hi
  cases e:L[i]? with
  | none=>rw [e] at hi;cases hi
  | some p=>
    rw [e] at hi
    cases hi
    have z:=q' Hh (Same.refl _)
    unfold itm at z
    rw [e] at z
    exact ⟨_,rfl,z⟩
 rw [zpD,zc3,znh] at hD4
 have mlate:((zeP L tl).map V.int).length=(zeP L tl).length:=length_map _
 have s04:=s3.trans s4
 have R4:RunOf H H4 h.toNat b (xs.map (·.2)) D rs:=⟨R3.run.same s4,R3.new,R3.ne,R3.eq⟩
 have g1:=fun M=>zhu (.inr ⟨ob,s4 _ _ h3⟩) M
 have g2:=fun M=>zhu (hd.same s04) M
 refine ⟨_,rfl,D4,_,rfl,.inl (SqL.of hD4),rfl,_,rfl,?_⟩
 rw [mlate]
 refine ite2 (fun c=>?_) (fun c=>?_)
 ·have c0:=V.int.inj (of_decide_eq_true c)
  exact (q H4 s04 R4).1 (List.eq_nil_of_length_eq_zero (by omega))
 ·have c0:0<(zeP L tl).length:=Nat.pos_of_ne_zero fun z=>c (decide_eq_true (by rw [z];rfl))
  refine ⟨_,rfl,D4,zeP L tl,rfl,SqL.of hD4,c0,fun M hM hmin=>?_⟩
  obtain ⟨v,u,ev,eu,_⟩:=zoQ hM
  have g1:=g1 M
  have g2:=g2 M
  rw [eu] at g1
  rw [ev] at g2
  refine ⟨_,rfl,_,rfl,_,rfl,a,_,rfl,g2,_,rfl,_,rfl,d,_,rfl,g1,_,rfl,si4,fun p H5 s5 n5 h5=>?_⟩
  exact (q H5 (s04.trans s5) ⟨R4.run.same s5,R4.new,R4.ne,R4.eq⟩).2 M v u p hM hmin ev eu (Same.free s04 n5) h5
structure Hv where
 rs:List SR
 h:Int
 t:Int
 ps:List (Addr × Wd × Pv)
 nb:List (Key × V)
 aS:Addr
 aP:Addr
 aN:Addr
 aR:Addr
def Hv.fs (v:Hv):List (Str × V):=[("sorts",.ref v.aS),("hands",.int v.h),("turn",.int v.t),("pieces",.ref v.aP),("numbers",.ref v.aN),("rows",.ref v.aR)]
structure IsPs (cs:CsA) (H:Hp) (l:Addr) (ps:List (Addr × Wd × Pv)):Prop where
 at_:H l=some (.lst (ps.map fun q=>V.ref q.1))
 pc:∀q,q∈ps->IsPc cs H q.1 q.2.1 q.2.2
theorem IsPs.same {cs:CsA} {H H':Hp} {l:Addr} {ps:List (Addr × Wd × Pv)} (s:Same H H') (h:IsPs cs H l ps):IsPs cs H' l ps:=⟨s _ _ h.at_,fun q hq=>(h.pc q hq).same s⟩
structure HsP (cs:CsA) (cS:Addr) (H:Hp) (v:Hv):Prop where
 st:IsSt cS H v.aS v.rs
 ps:IsPs cs H v.aP v.ps
 nb:H v.aN=some (.dK v.nb)
theorem HsP.same {cs:CsA} {cS:Addr} {H H':Hp} {v:Hv} (s:Same H H') (h:HsP cs cS H v):HsP cs cS H' v:=⟨h.st.same s,h.ps.same s,s _ _ h.nb⟩
structure IsHs (cs:CsA) (cS cH:Addr) (H:Hp) (o:Addr) (v:Hv):Prop where
 at_:∃dx,H o=some (.ins cH dx v.fs)
 p:HsP cs cS H v
theorem IsHs.same {cs:CsA} {cS cH:Addr} {H H':Hp} {o:Addr} {v:Hv} (s:Same H H') (h:IsHs cs cS cH H o v):IsHs cs cS cH H' o v:=⟨let ⟨dx,e⟩:=h.at_;⟨dx,s _ _ e⟩,h.p.same s⟩
theorem HsP.but {cs:CsA} {cS cH o dx:Addr} {H H':Hp} {v v0:Hv} (ho:H o=some (.ins cH dx v0.fs)) (k:But o H H') (h:HsP cs cS H v):HsP cs cS H' v:=by
 have nl:∀ {z xs},H z=some (.lst xs)->z≠o:=fun e z=>by rw [z,ho] at e;cases e
 have nt:∀ {z xs},H z=some (.tup xs)->z≠o:=fun e z=>by rw [z,ho] at e;cases e
 have nk:∀ {z xs},H z=some (.dK xs)->z≠o:=fun e z=>by rw [z,ho] at e;cases e
 obtain ⟨sdx,l,xs,e1,e2,e3⟩:=h.st
 refine ⟨⟨sdx,l,xs,k _ _ (fun z=>?_) e1,⟨k _ _ (nl e2.at_) e2.at_,fun q hq=>?_⟩,e3⟩,⟨k _ _ (nl h.ps.at_) h.ps.at_,fun q hq=>?_⟩,k _ _ (nk h.nb) h.nb⟩
 ·rw [z,ho] at e1
  cases e1
 ·obtain ⟨pw,ps,a,b,c⟩:=e2.sr q hq
  exact ⟨pw,ps,k _ _ (nt a) a,k _ _ (nt b) b,k _ _ (nt c) c⟩
 ·obtain ⟨pdx,e⟩:=h.ps.pc q hq
  refine ⟨pdx,k _ _ (fun z=>?_) e⟩
  rw [z,ho] at e
  have e:=Option.some.inj e
  injection e with _ _ e
  unfold Hv.fs Pv.fs at e
  injection e with e _
  have:(Str.ofString "sorts")=Str.ofString "number" := (Prod.mk.inj e).1
  revert this
  decide +kernel
def zci (rs:List SR) (nm:Str):SR:=(rs.find? fun r=>decide (r.nm=nm)).getD ⟨"",0,1,0,1,1,1⟩
def chV (rs:List SR) (ps:List (Addr × Wd × Pv)):Ch:=(ps.filter fun q=>q.2.1.opn).map fun q=>(clOf q.2.2 (zci rs q.2.2.nm).low,q.2.2.left q.2.1)
structure PsOk (rs:List SR) (ps:List (Addr × Wd × Pv)):Prop where
 rl:rs.length<=8
 ro:∀r,r∈rs->r.Ok
 nm:∀(i:Nat) q,ps[i]?=some q->q.2.2.n=i
 ok:∀q,q∈ps->q.2.2.Ok/\0<=q.2.2.left q.2.1/\q.2.2.left q.2.1<=12/\0<=q.2.2.came/\q.2.2.came<=1000
 fd:∀q,q∈ps->znL rs q.2.2.nm (zci rs q.2.2.nm)
 len:ps.length<=200
 op:(ps.filter fun q=>q.2.1.opn).length<=40
theorem PsOk.nd {rs:List SR} {ps:List (Addr × Wd × Pv)} (h:PsOk rs ps):(ps.map (·.2.2.n)).Nodup:=by
 rw [List.nodup_iff_pairwise_ne,List.pairwise_map,List.pairwise_iff_getElem]
 intro i j hi hj lt e
 rw [h.nm i _ (getElem?_eq_getElem hi),h.nm j _ (getElem?_eq_getElem hj)] at e
 omega
theorem zqU {p:Pv} {r:SR} (n0:0<=p.n) (c0:0<=p.came) (c1:p.came<=1000) (o:r.Ok):(clOf p r.low).Ok:=by
 have l:=o.low
 exact ⟨n0,l.a0,l.a1,l.b0,l.b1,l.c0,l.c1,l.d0,l.d1,c0,by show p.came<=_;omega⟩
theorem PsOk.n0 {rs:List SR} {ps:List (Addr × Wd × Pv)} (h:PsOk rs ps):∀q,q∈ps->0<=q.2.2.n:=fun q hq=>by
 obtain ⟨i,hi,e⟩:=getElem_of_mem hq
 have:=h.nm i q (by rw [getElem?_eq_getElem hi,e])
 omega
theorem zsw {rs:List SR} {ps:List (Addr × Wd × Pv)} (h:PsOk rs ps) {H:Hp} {D:Addr} {bs:List (Addr × Cl × Int)} (hD:H D=some (.lst (bs.map fun b=>V.ref b.1))) (eb:bs.map (·.2)=chV rs ps) (hb:∀b,b∈bs->IsCh K H b.1 b.2):ChIn K H D bs:=by
 have mem:∀b,b∈bs->∃q,q∈ps/\b.2=(clOf q.2.2 (zci rs q.2.2.nm).low,q.2.2.left q.2.1):=fun b hb=>by
  have:b.2∈bs.map (·.2):=mem_map.mpr ⟨b,hb,rfl⟩
  rw [eb] at this
  obtain ⟨q,hq,e⟩:=mem_map.mp this
  exact ⟨q,(mem_filter.mp hq).1,e.symm⟩
 refine ⟨⟨hD,hb⟩,?_,fun b hb'=>?_,?_⟩
 ·have:=congrArg List.length eb
  unfold chV at this
  rw [length_map,length_map] at this
  rw [this]
  exact h.op
 ·obtain ⟨q,hq,e⟩:=mem b hb'
  obtain ⟨_,l0,l1,c0,c1⟩:=h.ok q hq
  rw [e]
  exact ⟨zqU (h.n0 q hq) c0 c1 (h.ro _ (h.fd q hq).1),l0,l1,c1⟩
 ·have e2:bs.map (·.2.1.n)=(ps.filter fun q=>q.2.1.opn).map (·.2.2.n):=by
   have:=congrArg (List.map fun x:Cl × Int=>x.1.n) eb
   unfold chV at this
   rw [map_map,map_map] at this
   exact this
  rw [e2]
  exact h.nd.sublist (filter_sublist.map _)
def zfc (K:W.Frag) (cs:CsA) (cS:Addr):Sp:=fun vs H Q _=>∃(l s:Addr) (ps:List (Addr × Wd × Pv)) (rs:List SR),vs=[.ref l,.ref s]/\IsPs cs H l ps/\IsSt cS H s rs/\PsOk rs ps/\∀D H' xs,Same H H'->H D=none->ChIn K H' D xs->xs.map (·.2)=chV rs ps->Q (.ref D) H'
theorem znV {H H':Hp} {u:Addr} {c:Cl × Int} (t:Tups H H') (h:IsCh K H u c):IsCh K H' u c:=by
 obtain ⟨p,a,b⟩:=h.ex
 obtain ⟨pw,ps,x,y,z⟩:=b.ex
 exact ⟨p,t _ _ a,⟨pw,ps,t _ _ x,t _ _ y,t _ _ z⟩⟩
theorem zjj:FnScope pl19 pl19 (zac zdQ):=fsc
include T in
theorem zjk (D:Dfn K mg "chores_of" zdQ pl19 f fd) (zfd:Cal P w K mg bf "chore_of" 9 pl8 (znM K (CsA.mk Ad Ab Aa) Ae)) (BA:∀d,MOk CX0 P w K mg bf 1 (CsA.cl (CsA.mk Ad Ab Aa) d) "is_open" (zi6 (CsA.mk Ad Ab Aa) d)):Cal P w K mg bf "chores_of" 10 pl19 (zfc K (CsA.mk Ad Ab Aa) Ae):=by
 refine D.cal (D.F.ok zjj (fun vs H Q E h=>?_) (fun cdv A outer s H vs Q E hr h=>?_))
 ·obtain ⟨l,s,ps,rs,rfl,_⟩:=h
  rfl
 obtain ⟨l,s,ps,rs,rfl,hP,hS,ok,q⟩:=h
 refine ⟨_,(zaf (zak (zbd (N:=pl8) (js:=[1]) rfl cpo (zaL (pv 0)) (fun _ _ _ _ _=>(zgk (zaQ (zkS (P:=P) (w:=w) (K:=K) (mg:=mg) (bf:=bf) (k:=1) rfl rfl rfl rfl rfl (pv 0) hr.o zaT)))) (fun _ _ _ _ _=>(zao zfd hr.o rfl (zaa (pv 0) (zaa (pv 1) zae))))))),?_⟩
 have ml:(ps.map fun q=>V.ref q.1).length=ps.length:=length_map _
 refine ⟨_,rfl,l,rfl,⟨_,SqL.of hP.at_⟩,?_⟩
 refine zkT (xs:=ps.map fun q=>V.ref q.1) (tak ps fun q=>q.2.1.opn) (itG ps (fun q=>(clOf q.2.2 (zci rs q.2.2.nm).low,q.2.2.left q.2.1)) (⟨0,0,0,0,0,0⟩,0)) (IsCh K) (fun H H' u c t h=>znV t h) (SqL.of hP.at_) ?_ ?_ (zaI (by rw [ml];have:=ok.len;omega)) (fun D H1 bs s1 nD hD eb hb=>?_)
 ·intro i x Hh Q' hx sh q'
  rw [getElem?_map] at hx
  cases e:ps[i]? with
  | none=>rw [e] at hx;cases hx
  | some z=>
    rw [e] at hx
    cases hx
    have zz:=q' Hh (Same.refl _)
    unfold tak at zz
    rw [e] at zz
    obtain ⟨dx,ez⟩:=(hP.pc z (mem_of_getElem? e)).same sh
    exact ⟨_,rfl,z.1,_,dx,_,_,rfl,ez,rfl,BA z.2.1,z.1,z.2.2,rfl,⟨dx,ez⟩,_,rfl,zz⟩
 ·intro i x Hh Q' hx _ sh q'
  rw [getElem?_map] at hx
  cases e:ps[i]? with
  | none=>rw [e] at hx;cases hx
  | some z=>
    rw [e] at hx
    cases hx
    have hz:=mem_of_getElem? e
    unfold itG at q'
    rw [e] at q'
    refine ⟨_,rfl,_,rfl,z.1,s,z.2.1,z.2.2,rs,_,rfl,(hP.pc z hz).same sh,(ok.ok z hz).1,hS.same sh,ok.rl,ok.ro,ok.fd z hz,fun t u H' s' hu ht=>q' u H' s' ⟨t,hu,ht⟩⟩
 rw [ml,zhO] at eb
 exact q D H1 bs s1 nD (zsw ok hD eb hb) eb
def IsGr (cG:Addr) (H:Hp) (a:Addr) (n:V):Prop:=∃dx,H a=some (.ins cG dx [("number",n)])
def zk5 (K:W.Frag):Sp:=fun vs H Q _=>∃(x C dx:Addr) (n:V),vs=[.ref x,n]/\H x=some (.ins C dx [])/\Cls K C/\zal K C "number" /\ ∀H',But x H H'->H' x=some (.ins C dx [("number",n)])->Q .non H'
def zk6 (cG:Addr):Sp:=fun vs H Q _=>∃n:V,vs=[n]/\∀a H',Same H H'->H a=none->IsGr cG H' a n->Q (.ref a) H'
theorem zsx {cG:Addr} (cl:Cls K cG) (no:zal K cG "number"):∀vs H Q E,zk6 cG vs H Q E->∀y dx,H y=none->H dx=none->dx≠y->zk5 K (.ref y::vs) (upd (upd H dx (.own y)) y (.ins cG dx [])) (fun v H2=>v=.non/\Q (.ref y) H2) E:=by
 rintro vs H Q E ⟨n,rfl,q⟩ y dx ny nd ne
 have up:Same H (upd (upd H dx (.own y)) y (.ins cG dx [])):=fun z o h=>by
  rw [zah (zaj h ny),zah (zaj h nd)]
  exact h
 exact ⟨y,cG,dx,n,rfl,zam,cl,no,fun H' k e=>⟨rfl,q y H' (fun w o hw=>k w o (zaj hw ny) (up w o hw)) ny ⟨dx,e⟩⟩⟩
theorem zdZ:FnScope pl0 pl0 (zac zbr):=fsc
include T in
theorem zd1 (D:Mfn K "__init__" "Granted.__init__" zbr pl0 f fd):FnOk P w K mg bf CX0 1 f fd pl0 (zk5 K):=by
 refine D.F.ok zdZ (fun vs H Q E h=>?_) (fun cdv A outer s H vs Q E hr h=>?_)
 ·obtain ⟨x,C,dx,n,rfl,_⟩:=h
  rfl
 obtain ⟨x,C,dx,n,rfl,hx,cl,no,q⟩:=h
 refine ⟨_,(zaf (zaO (pv 0) (pv 1))),?_⟩
 exact ⟨_,rfl,_,rfl,x,C,dx,_,rfl,hx,cl,no,(by show (0:Nat)<1000;decide),fun H1 k1 h1=>q H1 k1 h1⟩
def zgN (cG:Addr):Sp:=fun vs H Q _=>∃(a:Addr) (n:V),vs=[.ref a]/\IsGr cG H a n/\Q (.bl true) H
def znW (cG:Addr):Sp:=fun vs H Q _=>∃(a:Addr) (n:V),vs=[.ref a]/\IsGr cG H a n/\Q (.str "granted") H
def znX (cG:Addr):Sp:=fun vs H Q _=>∃(a:Addr) (n:V),vs=[.ref a]/\IsGr cG H a n/\∀p H',Same H H'->H' p=some (.tup [.str "granted",n])->Q (.ref p) H'
theorem zew:FnScope pl3 pl3 (zac zbB):=fsc
include T in
theorem zex (D:Mfn K "granted" "Granted.granted" zbB pl3 f fd):FnOk P w K mg bf CX0 1 f fd pl3 (zgN Af):=by
 refine D.F.ok zew (fun vs H Q E h=>?_) (fun cdv A outer s H vs Q E hr h=>?_)
 ·obtain ⟨a,n,rfl,_⟩:=h
  rfl
 obtain ⟨a,n,rfl,hg,q⟩:=h
 exact ⟨_,(zaf (zak zbm)),q⟩
theorem zgO:FnScope pl3 pl3 (zac zcq):=fsc
include T in
theorem zgP (D:Mfn K "word" "Granted.word" zcq pl3 f fd):FnOk P w K mg bf CX0 1 f fd pl3 (znW Af):=by
 refine D.F.ok zgO (fun vs H Q E h=>?_) (fun cdv A outer s H vs Q E hr h=>?_)
 ·obtain ⟨a,n,rfl,_⟩:=h
  rfl
 obtain ⟨a,n,rfl,hg,q⟩:=h
 exact ⟨_,(zaf (zak zaB)),q⟩
theorem zgQ:FnScope pl3 pl3 (zac zcr):=fsc
include T in
theorem zgR (D:Mfn K "told" "Granted.told" zcr pl3 f fd) (D9:MOk CX0 P w K mg bf 1 Af "word" (znW Af)):FnOk P w K mg bf CX0 2 f fd pl3 (znX Af):=by
 refine D.F.ok zgQ (fun vs H Q E h=>?_) (fun cdv A outer s H vs Q E hr h=>?_)
 ·obtain ⟨a,n,rfl,_⟩:=h
  rfl
 obtain ⟨a,n,rfl,⟨dx,e⟩,q⟩:=h
 have O:=T.B0
 refine ⟨_,(zaf (zak (zai (zaa (zaG (k:=1) (pv 0) hr.o zaT) (zaa (zap (pv 0) rfl) zae))))),?_⟩
 exact ⟨_,rfl,a,_,dx,_,_,rfl,e,rfl,D9,a,n,rfl,⟨dx,e⟩,_,rfl,a,_,dx,_,_,rfl,e,O.cl,T.BQ,rfl,si2,fun p H1 s1 n1 h1=>q p H1 s1 h1⟩
theorem IsSt.butI {ct:Addr} {H H':Hp} {a x C dx:Addr} {rs:List SR} {fs:List (Str × V)} (hx:H x=some (.ins C dx fs)) (ax:a≠x) (k:But x H H') (h:IsSt ct H a rs):IsSt ct H' a rs:=by
 obtain ⟨sdx,m,zs,e1,e2,e3⟩:=h
 refine ⟨sdx,m,zs,k _ _ ax e1,e2.but k hx (fun _ z=>by cases z) (fun z=>?_),e3⟩
 have:=e2.at_
 rw [z,hx] at this
 cases this
def hsN:List Str:=["sorts","hands","turn","pieces","numbers","rows"]
theorem noH {C:Addr} (a:zal K C "sorts") (b:zal K C "hands") (c:zal K C "turn") (d:zal K C "pieces") (e:zal K C "numbers") (f:zal K C "rows"):∀g,g∈hsN->zal K C g:=fun g hg=>by
 rcases mem_cons.mp hg with rfl | hg
 ·exact a
 rcases mem_cons.mp hg with rfl | hg
 ·exact b
 rcases mem_cons.mp hg with rfl | hg
 ·exact c
 rcases mem_cons.mp hg with rfl | hg
 ·exact d
 rcases mem_cons.mp hg with rfl | hg
 ·exact e
 rw [mem_singleton.mp hg]
 exact f
structure New (v:Hv) (rs:List SR) (h:Int):Prop where
 rs:v.rs=rs
 h:v.h=h
 t:v.t=0
 ps:v.ps=[]
 nb:v.nb=[]
def zk7 (K:W.Frag) (cs:CsA) (cS cN cH:Addr):Sp:=fun vs H Q E=>∃(x C dx:Addr) (y hd:V),vs=[.ref x,y,hd]/\H x=some (.ins C dx [])/\Cls K C/\(∀f,f∈hsN->zal K C f)/\
 ((RsB K H y false/\∀a H',Same H H'->Bare H' a cN->E (.ref cN) (some a) H') \/
  (∃l xs,y=.ref l/\IsSRs H l xs/\RsOk (xs.map (·.2))/\
    (((∀H',But x H H'->WhB K H' hd 1 6 false)/\∀a H',But x H H'->Told K H' a cH "hands" hd->E (.ref cH) (some a) H') \/
     (∃h,hd=.int h/\1<=h/\h<=6/\∀H' v,But x H H'->H' x=some (.ins C dx v.fs)->HsP cs cS H' v->New v (xs.map (·.2.low)) h->Q .non H'))))
def zk8 (K:W.Frag) (cs:CsA) (cS cHs cN cH:Addr):Sp:=fun vs H Q E=>∃(y hd:V),vs=[y,hd]/\
 ((RsB K H y false/\∀a H',Same H H'->Bare H' a cN->E (.ref cN) (some a) H') \/
  (∃l xs,y=.ref l/\IsSRs H l xs/\RsOk (xs.map (·.2))/\
    ((WhB K H hd 1 6 false/\∀a H',Same H H'->Told K H' a cH "hands" hd->E (.ref cH) (some a) H') \/
     (∃h,hd=.int h/\1<=h/\h<=6/\∀o H' v,Same H H'->H o=none->IsHs cs cS cHs H' o v->New v (xs.map (·.2.low)) h->Q (.ref o) H'))))
theorem zsy {cs:CsA} {cS cHs cN cH:Addr} (cl:Cls K cHs) (no:∀f,f∈hsN->zal K cHs f):∀vs H Q E,zk8 K cs cS cHs cN cH vs H Q E->∀y dx,H y=none->H dx=none->dx≠y->zk7 K cs cS cN cH (.ref y::vs) (upd (upd H dx (.own y)) y (.ins cHs dx [])) (fun v H2=>v=.non/\Q (.ref y) H2) E:=by
 rintro vs H Q E ⟨z,hd,rfl,h⟩ y dx ny nd ne
 have up:Same H (upd (upd H dx (.own y)) y (.ins cHs dx [])):=fun z o h=>by
  rw [zah (zaj h ny),zah (zaj h nd)]
  exact h
 have back:∀ {H':Hp},But y (upd (upd H dx (.own y)) y (.ins cHs dx [])) H'->Same H H':=fun k w o hw=>k w o (zaj hw ny) (up w o hw)
 refine ⟨y,cHs,dx,z,hd,rfl,zam,cl,no,?_⟩
 rcases h with ⟨hb,q⟩ | ⟨l,xs,e,g,k,⟨hb,q⟩ | ⟨h,eh,h0,h1,q⟩⟩
 ·exact .inl ⟨hb.same up,fun a H' s' hB=>q a H' (up.trans s') hB⟩
 ·exact .inr ⟨l,xs,e,g.same up,k,.inl ⟨fun H' k'=>hb.same (back k'),fun a H' k' t=>q a H' (back k') t⟩⟩
 ·exact .inr ⟨l,xs,e,g.same up,k,.inr ⟨h,eh,h0,h1,fun H' v k' hy hp nw=>⟨rfl,q y H' v (back k') ny ⟨⟨dx,hy⟩,hp⟩ nw⟩⟩⟩
theorem zfe:FnScope pl20 pl20 (zac zbT):=fsc
include T in
theorem zff (D:Mfn K "__init__" "House.__init__" zbT pl20 f fd) (zau:Cal P w K mg bf "is_whole" 1 pl4 (zbL K)) (Dg:XCal P w K mg bf "NoHands" Ai "hands") (DU:MakG (CX1 P w) P w K mg bf "Sorts" Ae 7 (znG K Ae Aj)):FnOk P w K mg bf (CX1 P w) 9 f fd pl20 (zk7 K (CsA.mk Ad Ab Aa) Ae Aj Ai):=by
 refine D.F.ok1 zfe (fun vs H Q E h=>?_) (fun cdv A outer s H vs Q E hr h=>?_)
 ·obtain ⟨x,C,dx,y,hd,rfl,_⟩:=h
  rfl
 obtain ⟨x,C,dx,y,hd,rfl,hx,cl,no,h⟩:=h
 refine ⟨_,(zag (zaO (pv 0) (zgA DU hr.o rfl zeJ (zaa (pv 1) zae)))
  (zag (za9 (za0 (zaQ (zao zau hr.o rfl (zaa (pv 2) (zaa zad (zaa (zaZ (v:=.int 6) rfl T.AZ.choose_spec ⟨_,rfl⟩) zae)))))) (zaf (zcF T.C6 hr.hd (zgo Dg hr.o rfl (zaa (pv 2) zae)))) zaC)
  (zag (zaO (pv 0) (pv 2))
  (zag (zaO (pv 0) zad)
  (zag (zaO (pv 0) (zat zae))
  (zag (zaO (pv 0) zkM)
  (zaf (zaO (pv 0) (zat zae))))))))),?_⟩
 rcases h with ⟨hb,qE⟩ | ⟨l,xs,rfl,hl,ro,h⟩
 ·exact ⟨_,rfl,_,rfl,.inr ⟨hb,qE⟩⟩
 refine ⟨_,rfl,_,rfl,.inl ⟨l,xs,rfl,hl,ro,fun a H1 s1 hst=>?_⟩⟩
 refine ⟨_,rfl,x,C,dx,_,rfl,s1 _ _ hx,cl,no _ (by decide),(by show (0:Nat)<1000;decide),fun H2 k2 h2=>?_⟩
 have h2:H2 x=some (.ins C dx [("sorts",.ref a)]):=by
  rw [h2]
  rfl
 have k02:But x H H2:=s1.toBut.trans k2
 have ax:a≠x:=fun z=>by
  obtain ⟨_,_,_,e,_⟩:=hst
  rw [z,s1 _ _ hx] at e
  cases e
 have hst2:IsSt Ae H2 a (xs.map (·.2.low)):=hst.butI (s1 _ _ hx) ax k2
 rcases h with ⟨hb,qE⟩ | ⟨h,rfl,h0,h1,q⟩
 ·refine ⟨_,rfl,hd,1,6,false,rfl,hb H2 k02,_,rfl,iteT ⟨_,rfl,_,rfl,zcz (Same.refl _) fun a H' s' t=>qE a H' (k02.trans s'.toBut) t⟩⟩
 ·refine ⟨_,rfl,.int h,1,6,_,rfl,.inl ⟨h,rfl,rfl⟩,?_⟩
  rw [decide_eq_true h0,decide_eq_true h1]
  refine ⟨_,rfl,iteF ?_⟩
  refine ⟨_,rfl,_,rfl,x,C,dx,_,rfl,h2,cl,no _ (by decide),(by show (1:Nat)<1000;decide),fun H3 k3 h3=>?_⟩
  have h3:H3 x=some (.ins C dx [("sorts",.ref a),("hands",.int h)]):=by
   rw [h3]
   rfl
  refine ⟨_,rfl,x,C,dx,_,rfl,h3,cl,no _ (by decide),(by show (2:Nat)<1000;decide),fun H4 k4 h4=>?_⟩
  have h4:H4 x=some (.ins C dx [("sorts",.ref a),("hands",.int h),("turn",.int 0)]):=by
   rw [h4]
   rfl
  refine ⟨si0,fun l5 H5 s5 n5 e5=>⟨_,rfl,x,C,dx,_,rfl,s5 _ _ h4,cl,no _ (by decide),(by show (3:Nat)<1000;decide),fun H6 k6 h6=>?_⟩⟩
  have h6:H6 x=some (.ins C dx [("sorts",.ref a),("hands",.int h),("turn",.int 0),("pieces",.ref l5)]):=by
   rw [h6]
   rfl
  refine fun d7 H7 s7 n7 e7=>⟨_,rfl,x,C,dx,_,rfl,s7 _ _ h6,cl,no _ (by decide),(by show (4:Nat)<1000;decide),fun H8 k8 h8=>?_⟩
  have h8:H8 x=some (.ins C dx [("sorts",.ref a),("hands",.int h),("turn",.int 0),("pieces",.ref l5),("numbers",.ref d7)]):=by
   rw [h8]
   rfl
  refine ⟨si0,fun l9 H9 s9 n9 e9=>⟨_,rfl,x,C,dx,_,rfl,s9 _ _ h8,cl,no _ (by decide),(by show (5:Nat)<1000;decide),fun H10 k10 h10=>?_⟩⟩
  have nl:∀ {z:Addr} {Hh:Hp} {fs:List (Str × V)} {ys:List V},Hh x=some (.ins C dx fs)->Hh z=some (.lst ys)->z≠x:=fun hw hz e=>by
   rw [e,hw] at hz
   cases hz
  have nd:d7≠x:=fun e=>by
   rw [e,s7 _ _ h6] at e7
   cases e7
  have k210:But x H2 H10:=k3.trans (k4.trans (s5.toBut.trans (k6.trans (s7.toBut.trans (k8.trans (s9.toBut.trans k10))))))
  have k510:But x H5 H10:=k6.trans (s7.toBut.trans (k8.trans (s9.toBut.trans k10)))
  refine q H10 ⟨xs.map (·.2.low),h,0,[],[],a,l5,d7,l9⟩ (k02.trans k210) (by rw [h10];rfl) ⟨hst2.butI h2 ax k210,⟨k510 _ _ (nl (s5 _ _ h4) e5) e5,fun q hq=>by simp at hq⟩,(k8.trans (s9.toBut.trans k10)) _ _ nd e7⟩ ⟨rfl,rfl,rfl,rfl,rfl⟩
def zpe (K:W.Frag) (cs:CsA) (cS cH:Addr):Sp:=fun vs H Q _=>∃(o:Addr) (v:Hv),vs=[.ref o]/\IsHs cs cS cH H o v/\PsOk v.rs v.ps/\∀D H' xs,Same H H'->H D=none->ChIn K H' D xs->xs.map (·.2)=chV v.rs v.ps->Q (.ref D) H'
theorem zd2:FnScope pl3 pl3 (zac zbv):=fsc
include T in
theorem zd3 (D:Mfn K "chores_now" "House.chores_now" zbv pl3 f fd) (zbE:Cal P w K mg bf "chores_of" 10 pl19 (zfc K (CsA.mk Ad Ab Aa) Ae)):FnOk P w K mg bf CX0 11 f fd pl3 (zpe K (CsA.mk Ad Ab Aa) Ae Ac):=by
 refine D.F.ok zd2 (fun vs H Q E h=>?_) (fun cdv A outer s H vs Q E hr h=>?_)
 ·obtain ⟨o,v,rfl,_⟩:=h
  rfl
 obtain ⟨o,v,rfl,⟨⟨dx,e⟩,hp⟩,ok,q⟩:=h
 have O:=T.An
 refine ⟨_,(zaf (zak (zao zbE hr.o rfl (zaa (zap (pv 0) rfl) (zaa (zap (pv 0) rfl) zae))))),?_⟩
 exact ⟨_,rfl,o,_,dx,_,_,rfl,e,O.cl,T.Al,rfl,_,rfl,o,_,dx,_,_,rfl,e,O.cl,T.At,rfl,v.aP,v.aS,v.ps,v.rs,rfl,hp.ps,hp.st,ok,q⟩
def ofW (d:Wd) (ps:List (Addr × Wd × Pv)):List (Addr × Wd × Pv):=ps.filter fun q=>decide (q.2.1=d)
theorem zbF {d:Wd} {ps:List (Addr × Wd × Pv)} {q:Addr × Wd × Pv}:q∈ofW d ps↔q∈ps/\q.2.1=d:=by
 unfold ofW
 rw [mem_filter,decide_eq_true_iff]
def zlQ (cs:CsA) (cS cH:Addr) (d:Wd):Sp:=fun vs H Q _=>∃(o:Addr) (v:Hv),vs=[.ref o]/\IsHs cs cS cH H o v/\v.ps.length<=200/\∀D H',Same H H'->H D=none->IsPs cs H' D (ofW d v.ps)->Q (.ref D) H'
theorem is_w (T:Txt K mg Ag Aj Ak Ai Am Ao Av Ah Az Bb Ad Ab Aa Ap Ae AA Af AB Ac):∀d,W.kitOne K (.ref (CsA.cl (CsA.mk Ad Ab Aa) d)) (.ref Ab)=some (decide (d=.waiting)):=fun d=>match d with
 | .held=>T.Do
 | .waiting=>T.CH
 | .calledOff=>T.Cm
theorem is_h (T:Txt K mg Ag Aj Ak Ai Am Ao Av Ah Az Bb Ad Ab Aa Ap Ae AA Af AB Ac):∀d,W.kitOne K (.ref (CsA.cl (CsA.mk Ad Ab Aa) d)) (.ref Ad)=some (decide (d=.held)):=fun d=>match d with
 | .held=>T.DT
 | .waiting=>T.Dp
 | .calledOff=>T.CY
theorem zcU:FnScope pl3 pl3 (zac za4):=fsc
include T in
theorem zcV (D:Mfn K "pieces_waiting" "House.pieces_waiting" za4 pl3 f fd):FnOk P w K mg bf CX0 1 f fd pl3 (zlQ (CsA.mk Ad Ab Aa) Ae Ac .waiting):=by
 refine D.F.ok zcU (fun vs H Q E h=>?_) (fun cdv A outer s H vs Q E hr h=>?_)
 ·obtain ⟨o,v,rfl,_⟩:=h
  rfl
 obtain ⟨o,v,rfl,⟨⟨dx,e⟩,hp⟩,len,q⟩:=h
 have O:=T.An
 have S:=zbK T
 refine ⟨_,(zaf (zak (zbd (N:=["piece"]) (js:=[]) rfl cpo (zaL (zap (pv 0) rfl)) (fun _ _ _ _ _=>(zgk (zaQ (zar (zdu (C:=Ab) (K:=K) rfl) rfl T.zaA zav (zaa (pv 0) (zaa (zaZ (v:=.ref Ab) rfl T.DH rfl) zae)))))) (fun _ _ _ _ _=>(pv 0))))),?_⟩
 have ml:(v.ps.map fun q=>V.ref q.1).length=v.ps.length:=length_map _
 refine ⟨_,rfl,o,_,dx,_,_,rfl,e,O.cl,T.Al,rfl,v.aP,rfl,⟨_,SqL.of hp.ps.at_⟩,?_⟩
 refine za6 (xs:=v.ps.map fun q=>V.ref q.1) (tak v.ps fun q=>decide (q.2.1=.waiting)) (itm v.ps fun q=>V.ref q.1) (SqL.of hp.ps.at_) ?_ ?_ (zaI (by rw [ml];omega)) (fun D H1 s1 nD hD=>?_)
 ·intro i x Hh Q' hx sh q'
  rw [getElem?_map] at hx
  cases ez:v.ps[i]? with
  | none=>rw [ez] at hx;cases hx
  | some z=>
    rw [ez] at hx
    cases hx
    have zz:=q' Hh (Same.refl _)
    unfold tak at zz
    rw [ez] at zz
    obtain ⟨zdx,e1⟩:=(hp.ps.pc z (mem_of_getElem? ez)).same sh
    exact ⟨_,rfl,_,_,_,rfl,.old ((S.ow z.2.1).ty e1),is_w T z.2.1,_,rfl,zz⟩
 ·intro i x Hh Q' hx _ sh q'
  rw [getElem?_map] at hx
  cases ez:v.ps[i]? with
  | none=>rw [ez] at hx;cases hx
  | some z=>
    rw [ez] at hx
    cases hx
    have zz:=q' Hh (Same.refl _)
    unfold itm at zz
    rw [ez] at zz
    exact ⟨_,rfl,zz⟩
 rw [ml,zc3] at hD
 exact q D H1 s1 nD ⟨hD,fun z hz=>(hp.ps.pc z (zbF.mp hz).1).same s1⟩
theorem zgS:FnScope pl3 pl3 (zac zcs):=fsc
include T in
theorem zgT (D:Mfn K "places" "House.places" zcs pl3 f fd):FnOk P w K mg bf CX0 1 f fd pl3 (zlQ (CsA.mk Ad Ab Aa) Ae Ac .held):=by
 refine D.F.ok zgS (fun vs H Q E h=>?_) (fun cdv A outer s H vs Q E hr h=>?_)
 ·obtain ⟨o,v,rfl,_⟩:=h
  rfl
 obtain ⟨o,v,rfl,⟨⟨dx,e⟩,hp⟩,len,q⟩:=h
 have O:=T.An
 have S:=zbK T
 refine ⟨_,(zaf (zak (zbd (N:=["piece"]) (js:=[]) rfl cpo (zaL (zap (pv 0) rfl)) (fun _ _ _ _ _=>(zgk (zaQ (zar (zdu (C:=Ad) (K:=K) rfl) rfl T.zaA zav (zaa (pv 0) (zaa (zaZ (v:=.ref Ad) rfl T.EK rfl) zae)))))) (fun _ _ _ _ _=>(pv 0))))),?_⟩
 have ml:(v.ps.map fun q=>V.ref q.1).length=v.ps.length:=length_map _
 refine ⟨_,rfl,o,_,dx,_,_,rfl,e,O.cl,T.Al,rfl,v.aP,rfl,⟨_,SqL.of hp.ps.at_⟩,?_⟩
 refine za6 (xs:=v.ps.map fun q=>V.ref q.1) (tak v.ps fun q=>decide (q.2.1=.held)) (itm v.ps fun q=>V.ref q.1) (SqL.of hp.ps.at_) ?_ ?_ (zaI (by rw [ml];omega)) (fun D H1 s1 nD hD=>?_)
 ·intro i x Hh Q' hx sh q'
  rw [getElem?_map] at hx
  cases ez:v.ps[i]? with
  | none=>rw [ez] at hx;cases hx
  | some z=>
    rw [ez] at hx
    cases hx
    have zz:=q' Hh (Same.refl _)
    unfold tak at zz
    rw [ez] at zz
    obtain ⟨zdx,e1⟩:=(hp.ps.pc z (mem_of_getElem? ez)).same sh
    exact ⟨_,rfl,_,_,_,rfl,.old ((S.ow z.2.1).ty e1),is_h T z.2.1,_,rfl,zz⟩
 ·intro i x Hh Q' hx _ sh q'
  rw [getElem?_map] at hx
  cases ez:v.ps[i]? with
  | none=>rw [ez] at hx;cases hx
  | some z=>
    rw [ez] at hx
    cases hx
    have zz:=q' Hh (Same.refl _)
    unfold itm at zz
    rw [ez] at zz
    exact ⟨_,rfl,zz⟩
 rw [ml,zc3] at hD
 exact q D H1 s1 nD ⟨hD,fun z hz=>(hp.ps.pc z (zbF.mp hz).1).same s1⟩
theorem znY {H H':Hp} {u:Addr} {c:Cl} (t:Tups H H') (h:IsCl K H u c):IsCl K H' u c:=by
 obtain ⟨pw,ps,x,y,z⟩:=h.ex
 exact ⟨pw,ps,t _ _ x,t _ _ y,t _ _ z⟩
def clV (rs:List SR) (ps:List (Addr × Wd × Pv)):List Cl:=(ofW .waiting ps).map fun q=>clOf q.2.2 (zci rs q.2.2.nm).low
theorem PsOk.len_w {rs:List SR} {ps:List (Addr × Wd × Pv)} (h:PsOk rs ps) (d:Wd) (od:d.opn=true):(ofW d ps).length<=40:=by
 refine Nat.le_trans ?_ h.op
 unfold ofW
 have:∀l:List (Addr × Wd × Pv),(l.filter fun q=>decide (q.2.1=d)).length<=(l.filter fun q=>q.2.1.opn).length:=fun l=>by
  induction l with
  | nil=>exact Nat.le_refl _
  | cons x l ih=>
    rw [filter_cons,filter_cons]
    by_cases c:x.2.1=d
    ·rw [if_pos (decide_eq_true c),if_pos (by rw [c];exact od),length_cons,length_cons]
     omega
    ·rw [if_neg (by simpa using c)]
     split
     ·rw [length_cons]
      omega
     ·exact ih
 exact this ps
theorem PsOk.good {rs:List SR} {ps:List (Addr × Wd × Pv)} (h:PsOk rs ps):Good (clV rs ps):=by
 refine ⟨fun c hc=>?_,?_⟩
 ·obtain ⟨q,hq,rfl⟩:=mem_map.mp hc
  have hq:=(zbF.mp hq).1
  obtain ⟨_,_,_,c0,c1⟩:=h.ok q hq
  exact zqU (h.n0 q hq) c0 c1 (h.ro _ (h.fd q hq).1)
 ·unfold clV
  rw [map_map]
  exact h.nd.sublist (filter_sublist.map _)
def znZ (K:W.Frag) (cs:CsA) (cS cH:Addr):Sp:=fun vs H Q _=>∃(o:Addr) (v:Hv),vs=[.ref o]/\IsHs cs cS cH H o v/\PsOk v.rs v.ps/\∀D H' bs,Same H H'->H D=none->IsCs K H' D bs->bs.map (·.2)=clV v.rs v.ps->Q (.ref D) H'
theorem zd4:FnScope pl3 pl3 (zac zbu):=fsc
include T in
theorem zd5 (D:Mfn K "claims_now" "House.claims_now" zbu pl3 f fd) (zb4:Cal P w K mg bf "claim_of" 8 pl8 (zj2 K (CsA.mk Ad Ab Aa) Ae)) (Au:MOk CX0 P w K mg bf 1 Ac "pieces_waiting" (zlQ (CsA.mk Ad Ab Aa) Ae Ac .waiting)):FnOk P w K mg bf CX0 9 f fd pl3 (znZ K (CsA.mk Ad Ab Aa) Ae Ac):=by
 refine D.F.ok zd4 (fun vs H Q E h=>?_) (fun cdv A outer s H vs Q E hr h=>?_)
 ·obtain ⟨o,v,rfl,_⟩:=h
  rfl
 obtain ⟨o,v,rfl,hh,ok,q⟩:=h
 obtain ⟨dx,e⟩:=hh.at_
 have O:=T.An
 refine ⟨_,(zaf (zak (zbd (N:=["piece","self"]) (js:=[0]) rfl cpo (zaL (zaG (k:=1) (pv 0) hr.o zaT)) (fun _ _ _ _ _=>zcy) (fun _ _ _ _ _=>(zao zb4 hr.o rfl (zaa (pv 0) (zaa (zbP (K:=K) rfl (pv 1) rfl) zae))))))),?_⟩
 refine ⟨_,rfl,o,_,dx,_,_,rfl,e,rfl,Au,o,v,rfl,hh,ok.len,fun l H1 s1 nl hl=>⟨l,rfl,⟨_,SqL.of hl.at_⟩,?_⟩⟩
 have hh1:=hh.same s1
 have lw:=ok.len_w .waiting rfl
 have ml:((ofW .waiting v.ps).map fun q=>V.ref q.1).length=(ofW .waiting v.ps).length:=length_map _
 refine zkT (xs:=(ofW .waiting v.ps).map fun q=>V.ref q.1) (tak (ofW .waiting v.ps) fun _=>true) (itG (ofW .waiting v.ps) (fun q=>clOf q.2.2 (zci v.rs q.2.2.nm).low) ⟨0,0,0,0,0,0⟩) (IsCl K) (fun H H' u c t h=>znY t h) (SqL.of hl.at_) ?_ ?_ (zaI (by rw [ml];omega)) (fun D H2 bs s2 nD hD eb hb=>?_)
 ·intro i x Hh Q' hx sh q'
  rw [getElem?_map] at hx
  cases ez:(ofW .waiting v.ps)[i]? with
  | none=>rw [ez] at hx;cases hx
  | some z=>
    have zz:=q' Hh (Same.refl _)
    unfold tak at zz
    rw [ez] at zz
    exact zz
 ·intro i x Hh Q' hx _ sh q'
  rw [getElem?_map] at hx
  cases ez:(ofW .waiting v.ps)[i]? with
  | none=>rw [ez] at hx;cases hx
  | some z=>
    rw [ez] at hx
    cases hx
    have hz:=mem_of_getElem? ez
    have hz2:=(zbF.mp hz).1
    unfold itG at q'
    rw [ez] at q'
    obtain ⟨dx2,e2⟩:=(hh1.same sh).at_
    exact ⟨_,rfl,_,rfl,o,_,dx2,_,_,rfl,e2,O.cl,T.At,rfl,z.1,v.aS,z.2.1,z.2.2,v.rs,_,rfl,(hl.pc z hz).same sh,(hh1.same sh).p.st,ok.rl,ok.ro,ok.fd z hz2,fun t H' s' ht=>q' t H' s' ht⟩
 rw [ml,zhO,zfW] at eb
 exact q D H2 bs (s1.trans s2) (Same.free s1 nD) ⟨hD,hb⟩ eb
def zn1 (K:W.Frag) (cs:CsA) (cS cH tT:Addr):Sp:=fun vs H Q _=>∃(o:Addr) (v:Hv),vs=[.ref o]/\IsHs cs cS cH H o v/\PsOk v.rs v.ps/\0<=v.t/\v.t<=1000/\(∀q,q∈v.ps->q.2.1=.waiting->q.2.2.came<=v.t)/\H tT=some (.tbl zbc lamQ)/\∀D H',Same H H'->H D=none->H' D=some (.lst (((ord (clV v.rs v.ps) v.t).map (·.n)).map V.int))->Q (.ref D) H'
theorem zfJ:FnScope pl3 pl3 (zac zce):=fsc
include T in
theorem zfK (D:Mfn K "waiting" "House.waiting" zce pl3 f fd) (zfg:Cal P w K mg bf "order_at" 8 pl10 (znR K tT)) (B1:MOk CX0 P w K mg bf 9 Ac "claims_now" (znZ K (CsA.mk Ad Ab Aa) Ae Ac)):FnOk P w K mg bf CX0 10 f fd pl3 (zn1 K (CsA.mk Ad Ab Aa) Ae Ac tT):=by
 refine D.F.ok zfJ (fun vs H Q E h=>?_) (fun cdv A outer s H vs Q E hr h=>?_)
 ·obtain ⟨o,v,rfl,_⟩:=h
  rfl
 obtain ⟨o,v,rfl,hh,ok,t0,t1,ca,hT,q⟩:=h
 obtain ⟨dx,e⟩:=hh.at_
 have O:=T.An
 refine ⟨_,(zaf (zak (zao zfg hr.o rfl (zaa (zaG (k:=9) (pv 0) hr.o zaT) (zaa (zap (pv 0) rfl) zae))))),?_⟩
 refine ⟨_,rfl,o,_,dx,_,_,rfl,e,rfl,B1,o,v,rfl,hh,ok,fun l H1 bs s1 nl hl eb=>?_⟩
 have e1:=s1 _ _ e
 have lb:bs.length<=40:=by
  have:=congrArg List.length eb
  unfold clV at this
  rw [length_map,length_map] at this
  rw [this]
  exact ok.len_w .waiting rfl
 refine ⟨_,rfl,o,_,dx,_,_,rfl,e1,O.cl,T.Ax,rfl,l,bs,v.t,rfl,hl,by rw [eb];exact ok.good,lb,s1 _ _ hT,t0,by omega,fun b hb=>?_,fun m H2 s2 n2 h2=>q m H2 (s1.trans s2) (Same.free s1 n2) (by rw [h2,eb])⟩
 have:b.2∈bs.map (·.2):=mem_map.mpr ⟨b,hb,rfl⟩
 rw [eb] at this
 obtain ⟨z,hz,ez⟩:=mem_map.mp this
 rw [<-ez]
 exact ca z (zbF.mp hz).1 (zbF.mp hz).2
def zpR (K:W.Frag) (cs:CsA) (cS cH:Addr):Sp:=fun vs H Q _=>∃(o:Addr) (v:Hv),vs=[.ref o]/\IsHs cs cS cH H o v/\PsOk v.rs v.ps/\∀D H' (bs:List (Addr × List V)),Same H H'->H D=none->H' D=some (.lst (bs.map fun b=>V.ref b.1))->bs.map (·.2)=(ofW .held v.ps).map (fun q=>[V.int q.2.2.n,V.str q.2.2.nm,V.int q.2.2.came])->(∀b,b∈bs->H' b.1=some (.tup b.2))->Q (.ref D) H'
theorem zh5:FnScope pl3 pl3 (zac zdg):=fsc
include T in
theorem zh6 (D:Mfn K "held" "House.held" zdg pl3 f fd) (Ce:MOk CX0 P w K mg bf 1 Ac "places" (zlQ (CsA.mk Ad Ab Aa) Ae Ac .held)):FnOk P w K mg bf CX0 2 f fd pl3 (zpR K (CsA.mk Ad Ab Aa) Ae Ac):=by
 refine D.F.ok zh5 (fun vs H Q E h=>?_) (fun cdv A outer s H vs Q E hr h=>?_)
 ·obtain ⟨o,v,rfl,_⟩:=h
  rfl
 obtain ⟨o,v,rfl,hh,ok,q⟩:=h
 obtain ⟨dx,e⟩:=hh.at_
 have S:=zbK T
 refine ⟨_,(zaf (zak (zbd (N:=["place"]) (js:=[]) rfl cpo (zaL (zaG (k:=1) (pv 0) hr.o zaT)) (fun _ _ _ _ _=>zcy) (fun _ _ _ _ _=>(zai (zaa (zbP (K:=K) rfl (pv 0) rfl) (zaa (zbP (K:=K) rfl (pv 0) rfl) (zaa (zbP (K:=K) rfl (pv 0) rfl) zae)))))))),?_⟩
 refine ⟨_,rfl,o,_,dx,_,_,rfl,e,rfl,Ce,o,v,rfl,hh,ok.len,fun l H1 s1 nl hl=>⟨l,rfl,⟨_,SqL.of hl.at_⟩,?_⟩⟩
 have lw:=ok.len_w .held rfl
 have ml:((ofW .held v.ps).map fun q=>V.ref q.1).length=(ofW .held v.ps).length:=length_map _
 refine zgu (xs:=(ofW .held v.ps).map fun q=>V.ref q.1) (tak (ofW .held v.ps) fun _=>true) (itl (ofW .held v.ps) fun q=>[V.int q.2.2.n,V.str q.2.2.nm,V.int q.2.2.came]) (SqL.of hl.at_) ?_ ?_ (zaI (by rw [ml];omega)) (fun D H2 bs s2 nD hD eb hb=>?_)
 ·intro i x Hh Q' hx sh q'
  rw [getElem?_map] at hx
  cases ez:(ofW .held v.ps)[i]? with
  | none=>rw [ez] at hx;cases hx
  | some z=>
    have zz:=q' Hh (Same.refl _)
    unfold tak at zz
    rw [ez] at zz
    exact zz
 ·intro i x Hh Q' hx _ sh q'
  rw [getElem?_map] at hx
  cases ez:(ofW .held v.ps)[i]? with
  | none=>rw [ez] at hx;cases hx
  | some z=>
    rw [ez] at hx
    cases hx
    have hz:=mem_of_getElem? ez
    unfold itl at q'
    rw [ez] at q'
    obtain ⟨zdx,e1⟩:=(hl.pc z hz).same sh
    exact ⟨_,rfl,z.1,_,zdx,_,_,rfl,e1,(S.ow z.2.1).cl,S.n1 z.2.1,rfl,_,rfl,z.1,_,zdx,_,_,rfl,e1,(S.ow z.2.1).cl,S.n2 z.2.1,rfl,_,rfl,z.1,_,zdx,_,_,rfl,e1,(S.ow z.2.1).cl,S.n3 z.2.1,rfl,si3,fun p H3 s3 n3 h3=>q' p H3 s3 h3⟩
 rw [ml,zgv,zfW] at eb
 exact q D H2 bs (s1.trans s2) (Same.free s1 nD) hD eb hb
def zgU (cs:CsA) (cS cH:Addr):Sp:=fun vs H Q _=>∃(o:Addr) (v:Hv) (i:Nat) (q0:Addr × Wd × Pv),vs=[.ref o,.int i]/\IsHs cs cS cH H o v/\v.ps[i]?=some q0/\Q (.ref q0.1) H
theorem zfh:FnScope pl0 pl0 (zac zbU):=fsc
include T in
theorem zfi (D:Mfn K "piece_of" "House.piece_of" zbU pl0 f fd) (zau:Cal P w K mg bf "is_whole" 1 pl4 (zbL K)) (Cr:XCal P w K mg bf "NoPiece" Ao "number"):FnOk P w K mg bf CX0 2 f fd pl0 (zgU (CsA.mk Ad Ab Aa) Ae Ac):=by
 refine D.F.ok zfh (fun vs H Q E h=>?_) (fun cdv A outer s H vs Q E hr h=>?_)
 ·obtain ⟨o,v,i,q0,rfl,_⟩:=h
  rfl
 obtain ⟨o,v,i,q0,rfl,hh,ei,q⟩:=h
 obtain ⟨dx,e⟩:=hh.at_
 have O:=T.An
 refine ⟨_,(zag (za9 (za0 (zaQ (zao zau hr.o rfl (zaa (pv 1) (zaa zad (zaa (zaD zkt (zar zaF rfl T.zdS zck (zaa (zap (pv 0) rfl) zae)) zad) zae)))))) (zaf zcD) zaC)
  (zaf (zak (zaH zeH (zap (pv 0) rfl) (pv 1) (fun _ _=>rfl))))),?_⟩
 have il:i<v.ps.length:=(List.getElem?_eq_some_iff.mp ei).1
 have ml:(v.ps.map fun q=>V.ref q.1).length=v.ps.length:=length_map _
 refine ⟨_,rfl,_,rfl,o,_,dx,_,_,rfl,e,O.cl,T.Al,rfl,v.aP,_,rfl,.inl (SqL.of hh.p.ps.at_),_,_,rfl,rfl,.int i,0,_,_,rfl,.inl ⟨i,rfl,rfl⟩,?_⟩
 rw [decide_eq_true (by omega:(0:Int)<=i),decide_eq_true (by rw [ml];omega:(i:Int)<=((v.ps.map fun q=>V.ref q.1).length:Int)-1)]
 refine ⟨_,rfl,iteF ?_⟩
 refine ⟨_,rfl,o,_,dx,_,_,rfl,e,O.cl,T.Al,rfl,_,rfl,v.aP,_,i,_,rfl,rfl,SqL.of hh.p.ps.at_,?_,q⟩
 exact zjH (by rw [getElem?_map,ei];rfl)
def zk9 (cs:CsA) (cS cH:Addr):Sp:=fun vs H Q _=>∃(o:Addr) (v:Hv) (i:Nat) (q0:Addr × Wd × Pv),vs=[.ref o,.int i]/\IsHs cs cS cH H o v/\v.ps[i]?=some q0/\q0.2.1=.waiting/\Q (.ref q0.1) H
theorem zbx:FnScope ["self","number","piece"] pl0 (zac za7):=fsc
include T in
theorem zc0 (D:Mfn K "waiting_piece" "House.waiting_piece" za7 pl0 f fd) (CW:XCal P w K mg bf "Over" Av "number") (Ba:MOk CX0 P w K mg bf 2 Ac "piece_of" (zgU (CsA.mk Ad Ab Aa) Ae Ac)):FnOk P w K mg bf CX0 3 f fd pl0 (zk9 (CsA.mk Ad Ab Aa) Ae Ac):=by
 refine D.F.ok zbx (fun vs H Q E h=>?_) (fun cdv A outer s H vs Q E hr h=>?_)
 ·obtain ⟨o,v,i,q0,rfl,_⟩:=h
  rfl
 obtain ⟨o,v,i,q0,rfl,hh,ei,ew,q⟩:=h
 obtain ⟨dx,e⟩:=hh.at_
 have S:=zbK T
 refine ⟨_,(zag (zaz (i:=2) zbx.nd rfl (Or.inl rfl) (zbh (k:=2) (pv 0) hr.o zaT (zaa (pv 1) zae)))
  (zag (za9 (za0 (zaQ (zar (ziN (C:=Ab)) rfl T.zaA zav (zaa (pv 2) (zaa (zaZ (v:=.ref Ab) rfl T.DH rfl) zae))))) (zaf zcD) zaC)
  (zaf (zak (pv 2))))),?_⟩
 obtain ⟨zdx,e1⟩:=hh.p.ps.pc q0 (mem_of_getElem? ei)
 refine ⟨_,rfl,o,_,dx,_,_,rfl,e,rfl,Ba,_,rfl,o,v,i,q0,rfl,hh,ei,?_⟩
 refine ⟨_,rfl,_,_,_,rfl,.old ((S.ow q0.2.1).ty e1),is_w T q0.2.1,?_⟩
 rw [decide_eq_true ew]
 exact ⟨_,rfl,iteF ⟨_,rfl,q⟩⟩
def wiP (b:Addr × Wd × Pv) (ps:List (Addr × Wd × Pv)):List (Addr × Wd × Pv):=ps.map fun q=>if q.2.2.n=b.2.2.n then b else q
def zj9 (cs:CsA):Sp:=fun vs H Q _=>∃(l:Addr) (b:Addr × Wd × Pv) (ps:List (Addr × Wd × Pv)),vs=[.ref l,.ref b.1]/\IsPs cs H l ps/\IsPc cs H b.1 b.2.1 b.2.2/\ps.length<=200/\∀D H',Same H H'->H D=none->IsPs cs H' D (wiP b ps)->Q (.ref D) H'
theorem zh7:FnScope pl21 pl21 (zac zc9):=fsc
include T in
theorem zh8 (D:Dfn K mg "with_piece" zc9 pl21 f fd):Cal P w K mg bf "with_piece" 1 pl21 (zj9 (CsA.mk Ad Ab Aa)):=by
 refine D.cal (D.F.ok zh7 (fun vs H Q E h=>?_) (fun cdv A outer s H vs Q E hr h=>?_))
 ·obtain ⟨l,b,ps,rfl,_⟩:=h
  rfl
 obtain ⟨l,b,ps,rfl,hP,hb,len,q⟩:=h
 have S:=zbK T
 refine ⟨_,(zaf (zak (zbd (N:=["piece","changed"]) (js:=[1]) rfl cpo (zaL (pv 0)) (fun _ _ _ _ _=>zcy) (fun _ _ _ _ _=>(zhD (zaE zio (zbP (K:=K) rfl (pv 0) rfl) (zbP (K:=K) rfl (pv 1) rfl) (zaJ _)) (pv 1) (pv 0)))))),?_⟩
 have ml:(ps.map fun q=>V.ref q.1).length=ps.length:=length_map _
 refine ⟨_,rfl,l,rfl,⟨_,SqL.of hP.at_⟩,?_⟩
 refine za6 (xs:=ps.map fun q=>V.ref q.1) (fun _=>true) (itm ps fun q=>V.ref (if q.2.2.n=b.2.2.n then b else q).1) (SqL.of hP.at_) (fun i x Hh Q' hx sh q'=>q' Hh (Same.refl _)) ?_ (zaI (by rw [ml];omega)) (fun D H1 s1 nD hD=>?_)
 ·intro i x Hh Q' hx _ sh q'
  rw [getElem?_map] at hx
  cases ez:ps[i]? with
  | none=>rw [ez] at hx;cases hx
  | some z=>
    rw [ez] at hx
    cases hx
    have zz:=q' Hh (Same.refl _)
    unfold itm at zz
    rw [ez] at zz
    have zz:Q' (V.ref (if z.2.2.n=b.2.2.n then b else z).1) Hh:=zz
    obtain ⟨zdx,e1⟩:=(hP.pc z (mem_of_getElem? ez)).same sh
    obtain ⟨bdx,e2⟩:=hb.same sh
    refine ⟨_,rfl,z.1,_,zdx,_,_,rfl,e1,(S.ow z.2.1).cl,S.n1 z.2.1,rfl,_,rfl,b.1,_,bdx,_,_,rfl,e2,(S.ow b.2.1).cl,S.n1 b.2.1,rfl,rfl,_,rfl,?_⟩
    by_cases c:z.2.2.n=b.2.2.n
    ·rw [if_pos c] at zz
     exact iteD (by rw [c]) ⟨_,rfl,zz⟩
    ·rw [if_neg c] at zz
     exact zgj (fun w=>c (V.int.inj w)) ⟨_,rfl,zz⟩
 rw [zdt,ml,zgs] at hD
 refine q D H1 s1 nD ⟨by rw [hD];unfold wiP;rw [map_map];rfl,fun z hz=>?_⟩
 obtain ⟨y,hy,ey⟩:=mem_map.mp hz
 rw [<-ey]
 split
 ·exact hb.same s1
 ·exact (hP.pc y hy).same s1
theorem ztq {rs:List SR} {ps:List (Addr × Wd × Pv)} {xs:List (Addr × Cl × Int)} (ex:xs.map (·.2)=chV rs ps) {q0:Addr × Wd × Pv} (hq:q0∈ps) (op:q0.2.1.opn=true):∃k,k∈xs/\k.2=(clOf q0.2.2 (zci rs q0.2.2.nm).low,q0.2.2.left q0.2.1):=by
 have:(clOf q0.2.2 (zci rs q0.2.2.nm).low,q0.2.2.left q0.2.1)∈xs.map (·.2):=by
  rw [ex]
  exact mem_map.mpr ⟨q0,mem_filter.mpr ⟨hq,op⟩,rfl⟩
 obtain ⟨k,hk,e⟩:=mem_map.mp this
 exact ⟨k,hk,e⟩
structure HvOk (v:Hv):Prop where
 p:PsOk v.rs v.ps
 h0:0<v.h
 t0:0<=v.t
 t1:v.t<=1000
def zn2 (K:W.Frag) (cs:CsA) (cS cH tT:Addr):Sp:=fun vs H Q _=>∃(o:Addr) (v:Hv) (i:Nat) (q0:Addr × Wd × Pv),vs=[.ref o,.int i]/\IsHs cs cS cH H o v/\HvOk v/\H tT=some (.tbl zbc lamQ)/\v.ps[i]?=some q0/\q0.2.1.opn=true/\0<q0.2.2.left q0.2.1/\∀u d H' L,Same H H'->LatOf H' d v.h.toNat v.t (chV v.rs v.ps) L->valI L i=some u->Q (.int u) H'
theorem zdz:FnScope pl0 pl0 (zac zbg):=fsc
include T in
theorem zdA (D:Mfn K "latest_turn" "House.latest_turn" zbg pl0 f fd) (zd6:Cal P w K mg bf "latest_of" 12 pl17 (znU K tT)) (Aq:MOk CX0 P w K mg bf 11 Ac "chores_now" (zpe K (CsA.mk Ad Ab Aa) Ae Ac)):FnOk P w K mg bf CX0 13 f fd pl0 (zn2 K (CsA.mk Ad Ab Aa) Ae Ac tT):=by
 refine D.F.ok zdz (fun vs H Q E h=>?_) (fun cdv A outer s H vs Q E hr h=>?_)
 ·obtain ⟨o,v,i,q0,rfl,_⟩:=h
  rfl
 obtain ⟨o,v,i,q0,rfl,hh,ok,hT,ei,op,l0,q⟩:=h
 obtain ⟨dx,e⟩:=hh.at_
 have O:=T.An
 refine ⟨_,(zaf (zak (zao zd6 hr.o rfl (pai (zab (zaG (k:=11) (pv 0) hr.o zaT) (zab (zap (pv 0) rfl) (zab (zap (pv 0) rfl) (zab (pv 1) zay)))))))),?_⟩
 refine ⟨_,rfl,o,_,dx,_,_,rfl,e,rfl,Aq,o,v,rfl,hh,ok.p,fun D H1 xs s1 nD hI ex=>?_⟩
 have e1:=s1 _ _ e
 obtain ⟨k,hk,ek⟩:=ztq ex (mem_of_getElem? ei) op
 have en:k.2.1.n=i:=by
  rw [ek]
  exact ok.p.nm i q0 ei
 refine ⟨_,rfl,o,_,dx,_,_,rfl,e1,O.cl,T.A9,rfl,_,rfl,o,_,dx,_,_,rfl,e1,O.cl,T.Ax,rfl,_,rfl,D,xs,v.h,v.t,k,by rw [en];rfl,hI,ok.h0,ok.t0,ok.t1,s1 _ _ hT,hk,by rw [ek];exact l0,fun u d H2 L s2 hL hu=>?_⟩
 rw [ex] at hL
 rw [en] at hu
 exact q u d H2 L (s1.trans s2) hL hu
def zpS (K:W.Frag) (cs:CsA) (cS cH cM:Addr):Sp:=fun vs H Q E=>∃(o:Addr) (v:Hv),vs=[.ref o]/\IsHs cs cS cH H o v/\PsOk v.rs v.ps/\
 (((v.ps.filter fun q=>q.2.1.opn).length<40/\∀H',Same H H'->Q .non H')\/((v.ps.filter fun q=>q.2.1.opn).length=40/\∀a H',Same H H'->Bare H' a cM->E (.ref cM) (some a) H'))
theorem zd7:FnScope pl3 pl3 (zac zbs):=fsc
include T in
theorem zd8 (D:Mfn K "check_room" "House.check_room" zbs pl3 f fd) (Dh:XCal0 K mg "TooMany" Ah) (Aq:MOk CX0 P w K mg bf 11 Ac "chores_now" (zpe K (CsA.mk Ad Ab Aa) Ae Ac)):FnOk P w K mg bf (CX1 P w) 12 f fd pl3 (zpS K (CsA.mk Ad Ab Aa) Ae Ac Ah):=by
 refine D.F.ok1 zd7 (fun vs H Q E h=>?_) (fun cdv A outer s H vs Q E hr h=>?_)
 ·obtain ⟨o,v,rfl,_⟩:=h
  rfl
 obtain ⟨o,v,rfl,hh,ok,h⟩:=h
 obtain ⟨dx,e⟩:=hh.at_
 refine ⟨_,(zaf (za9 (zaE zrp (zar zaF rfl T.zdS zck (zaa (zaG (k:=11) (pv 0) hr.o zaT) zae)) (zaZ (v:=.int 40) rfl T.Bf.choose_spec ⟨_,rfl⟩) (zaJ _)) (zaf (zcF T.C8 hr.hd (zkG Dh rfl))) zaC)),?_⟩
 refine ⟨_,rfl,o,_,dx,_,_,rfl,e,rfl,Aq,o,v,rfl,hh,ok,fun D H1 xs s1 nD hI ex=>?_⟩
 have lx:(xs.map fun q=>V.ref q.1).length=(v.ps.filter fun q=>q.2.1.opn).length:=by
  have:=congrArg List.length ex
  unfold chV at this
  rw [length_map,length_map] at this
  rw [length_map,this]
 refine ⟨D,_,rfl,.inl (SqL.of hI.chs.at_),_,_,rfl,rfl,_,rfl,?_⟩
 rw [lx]
 rcases h with ⟨c,q⟩ | ⟨c,qE⟩
 ·exact zgj (by omega) (q H1 s1)
 ·exact iteD (by omega) (zhB s1 qE)
theorem zpf {L:List (Int × Int)} {bs:List (Addr × List V)} (eb:bs.map (·.2)=L.map fun p=>[V.int p.1,V.int p.2]):∃cs:List (Addr × Key × V),(cs.map fun b=>V.ref b.1)=(bs.map fun b=>V.ref b.1)/\cs.map (·.2)=dI L/\∀c,c∈cs->∃b,b∈bs/\b.1=c.1/\b.2=[kV c.2.1,c.2.2]:=by
 refine ⟨List.zipWith (fun b p=>(b.1,(Sum.inl p.1:Key),V.int p.2)) bs L,?_,?_,fun c hc=>?_⟩
 ·have hl:bs.length=L.length:=by
   have:=congrArg List.length eb
   rw [length_map,length_map] at this
   exact this
  rw [map_zipWith]
  refine List.ext_getElem (by simp [hl]) fun i h1 h2=>?_
  simp
 ·have hl:bs.length=L.length:=by
   have:=congrArg List.length eb
   rw [length_map,length_map] at this
   exact this
  unfold dI
  rw [map_zipWith]
  refine List.ext_getElem (by simp [hl]) fun i h1 h2=>?_
  simp
 ·obtain ⟨i,hi,ei⟩:=getElem_of_mem hc
  have hi2:i<bs.length/\i<L.length:=by
   rw [List.length_zipWith] at hi
   omega
  have e:=congrArg (fun l:List (List V)=>l[i]?) eb
  simp [hi2.1,hi2.2] at e
  have ec:c=(bs[i].1,(Sum.inl L[i].1:Key),V.int L[i].2):=by
   rw [<-ei,List.getElem_zipWith]
  subst ec
  exact ⟨bs[i],getElem_mem hi2.1,rfl,e⟩
def TlP (H:Hp) (v:Hv) (tl:Int->Int):Prop:=∀q,q∈v.ps->q.2.1=.waiting->∃(l:Addr) (us:List Int),valV v.nb (.inl q.2.2.n)=some (.ref l)/\H l=some (.lst ((us++[tl q.2.2.n]).map V.int))
theorem TlP.same {H H':Hp} {v:Hv} {tl:Int->Int} (s:Same H H') (h:TlP H v tl):TlP H' v tl:=fun q hq w=>let ⟨l,us,a,b⟩:=h q hq w;⟨l,us,a,s _ _ b⟩
def tlL (tl:Int->Int) (ps:List (Addr × Wd × Pv)):List (Int × Int):=(ofW .waiting ps).map fun q=>(q.2.2.n,tl q.2.2.n)
theorem zqV (xs:List V) (x:V):atI (xs++[x]) (-1)=some x:=by
 have z:ixN (xs.length+1) (-1)=some xs.length:=by
  unfold ixN
  rw [if_neg (by decide),if_pos (by omega)]
  congr 1
  omega
 unfold atI
 rw [length_append,show [x].length=1 from rfl,z]
 simp
theorem zpg (us:List Int) (u:Int):atI ((us++[u]).map V.int) (-1)=some (.int u):=by
 rw [map_append]
 exact zqV _ _
def zpT (K:W.Frag) (cs:CsA) (cS cH:Addr):Sp:=fun vs H Q _=>∃(o:Addr) (v:Hv) (tl:Int->Int),vs=[.ref o]/\IsHs cs cS cH H o v/\PsOk v.rs v.ps/\TlP H v tl/\∀d H',Same H H'->H d=none->H' d=some (.dK (dI (tlL tl v.ps)))->Q (.ref d) H'
theorem zfj:FnScope pl3 pl3 (zac zbW):=fsc
include T in
theorem zfk (D:Mfn K "told_now" "House.told_now" zbW pl3 f fd) (Au:MOk CX0 P w K mg bf 1 Ac "pieces_waiting" (zlQ (CsA.mk Ad Ab Aa) Ae Ac .waiting)):FnOk P w K mg bf CX0 2 f fd pl3 (zpT K (CsA.mk Ad Ab Aa) Ae Ac):=by
 refine D.F.ok zfj (fun vs H Q E h=>?_) (fun cdv A outer s H vs Q E hr h=>?_)
 ·obtain ⟨o,v,tl,rfl,_⟩:=h
  rfl
 obtain ⟨o,v,tl,rfl,hh,ok,ht,q⟩:=h
 obtain ⟨dx,e⟩:=hh.at_
 have O:=T.An
 have S:=zbK T
 refine ⟨_,(zaf (zak (zgf (zlC hr.hd) rfl T.zsq zqm (zaa (zbd (N:=["piece","self"]) (js:=[0]) rfl cpo (zaL (zaG (k:=1) (pv 0) hr.o zaT)) (fun _ _ _ _ _=>zcy) (fun _ _ _ _ _=>(zai (zaa (zbP (K:=K) rfl (pv 0) rfl) (zaa (zaH (r:=rIxL K) zeH (zeG hr.units1 (zbP (K:=K) rfl (pv 1) rfl) (zbP (K:=K) rfl (pv 0) rfl) (fun _ _=>rfl)) (zmb zin zad) (fun _ _=>rfl)) zae))))) zae)))),?_⟩
 refine ⟨_,rfl,o,_,dx,_,_,rfl,e,rfl,Au,o,v,rfl,hh,ok.len,fun l H1 s1 nl hl=>⟨l,rfl,⟨_,SqL.of hl.at_⟩,?_⟩⟩
 have hh1:=hh.same s1
 have ht1:=ht.same s1
 have lw:=ok.len_w .waiting rfl
 have ml:((ofW .waiting v.ps).map fun q=>V.ref q.1).length=(ofW .waiting v.ps).length:=length_map _
 refine zgu (xs:=(ofW .waiting v.ps).map fun q=>V.ref q.1) (tak (ofW .waiting v.ps) fun _=>true) (itl (ofW .waiting v.ps) fun q=>[V.int q.2.2.n,V.int (tl q.2.2.n)]) (SqL.of hl.at_) ?_ ?_ (zaI (by rw [ml];omega)) (fun D H2 bs s2 nD hD eb hb=>?_)
 ·intro i x Hh Q' hx sh q'
  rw [getElem?_map] at hx
  cases ez:(ofW .waiting v.ps)[i]? with
  | none=>rw [ez] at hx;cases hx
  | some z=>
    have zz:=q' Hh (Same.refl _)
    unfold tak at zz
    rw [ez] at zz
    exact zz
 ·intro i x Hh Q' hx _ sh q'
  rw [getElem?_map] at hx
  cases ez:(ofW .waiting v.ps)[i]? with
  | none=>rw [ez] at hx;cases hx
  | some z=>
    rw [ez] at hx
    cases hx
    have hz:=mem_of_getElem? ez
    have hz2:=zbF.mp hz
    unfold itl at q'
    rw [ez] at q'
    obtain ⟨zdx,e1⟩:=(hl.pc z hz).same sh
    obtain ⟨dx2,e2⟩:=(hh1.same sh).at_
    obtain ⟨lt,us,g1,g2⟩:=ht1 z hz2.1 hz2.2
    have g:=DGet.k (k:=.inl z.2.2.n) (hh1.same sh).p.nb
    rw [g1] at g
    exact ⟨_,rfl,z.1,_,zdx,_,_,rfl,e1,(S.ow z.2.1).cl,S.n1 z.2.1,rfl,_,rfl,o,_,dx2,_,_,rfl,e2,O.cl,T.AH,rfl,_,rfl,z.1,_,zdx,_,_,rfl,e1,(S.ow z.2.1).cl,S.n1 z.2.1,rfl,v.aN,_,rfl,g,_,rfl,lt,_,_,_,rfl,rfl,SqL.of (sh _ _ g2),zpg us _,si2,fun p H3 s3 n3 h3=>q' p H3 s3 h3⟩
 rw [ml,zgv,zfW] at eb
 obtain ⟨cs,c1,c2,c3⟩:=zpf (L:=tlL tl v.ps) (bs:=bs) (by rw [eb];unfold tlL;rw [map_map];rfl)
 have nd:((tlL tl v.ps).map (·.1)).Nodup:=by
  unfold tlL
  rw [map_map]
  exact ok.nd.sublist (filter_sublist.map _)
 refine ⟨D,cs,rfl,by rw [c1];exact hD,fun c hc=>?_,fun d H3 s3 nd3 hd=>q d H3 (s1.trans (s2.trans s3)) (Same.free (s1.trans s2) nd3) ?_⟩
 ·obtain ⟨b,b1,b2,b3⟩:=c3 c hc
  rw [<-b2,hb b b1,b3]
 ·rw [hd,c2,zsi nd]
def NbP (H:Hp) (v:Hv) (n:Int) (km:Nat):Prop:=∀x,valV v.nb (.inl n)=some x->∃(l:Addr) (us:List Int),x=.ref l/\H l=some (.lst (us.map V.int))/\us.length<=km
def zn3 (K:W.Frag) (cs:CsA) (cS cH tT:Addr):Sp:=fun vs H Q _=>∃(o:Addr) (v:Hv) (i:Nat) (q0:Addr × Wd × Pv) (km:Nat),vs=[.ref o,.int i]/\IsHs cs cS cH H o v/\HvOk v/\H tT=some (.tbl zbc lamQ)/\v.ps[i]?=some q0/\q0.2.1=.waiting/\0<q0.2.2.left q0.2.1/\NbP H v i km/\km<=1000/\v.nb.length<=1000/\
 ∀u d Hd L l us H',Same H Hd->LatOf Hd d v.h.toNat v.t (chV v.rs v.ps) L->valI L i=some u->But v.aN H H'->H l=none->H' l=some (.lst ((us++[u]).map V.int))->us.length<=km->H' v.aN=some (.dK (putK v.nb (.inl (i:Int)) (.ref l)))->Q (.int u) H'
theorem zey:FnScope ["self","number","turn"] pl0 (zac zdf):=fsc
include T in
theorem zh9 (D:Mfn K "tell" "House.tell" zdf pl0 f fd) (BL:MOk CX0 P w K mg bf 13 Ac "latest_turn" (zn2 K (CsA.mk Ad Ab Aa) Ae Ac tT)) (Bh:MOk CX0 P w K mg bf 3 Ac "waiting_piece" (zk9 (CsA.mk Ad Ab Aa) Ae Ac)):FnOk P w K mg bf CX0 14 f fd pl0 (zn3 K (CsA.mk Ad Ab Aa) Ae Ac tT):=by
 refine D.F.ok zey (fun vs H Q E h=>?_) (fun cdv A outer s H vs Q E hr h=>?_)
 ·obtain ⟨o,v,i,q0,km,rfl,_⟩:=h
  rfl
 obtain ⟨o,v,i,q0,km,rfl,hh,ok,hT,ei,ew,lf,hn,hkm,ln,q⟩:=h
 obtain ⟨dx,e⟩:=hh.at_
 have O:=T.An
 refine ⟨_,(zag (zc2 (zbh (k:=3) (pv 0) hr.o zaT (zaa (pv 1) zae)))
  (zag (zaz (i:=2) zey.nd rfl (Or.inl rfl) (zbh (k:=13) (pv 0) hr.o zaT (zaa (pv 1) zae)))
  (zag (zmp hr.units1 (zap (pv 0) rfl) (pv 1) (zaD zdH (zor hr.units1 (zap (pv 0) rfl) (pv 1) (zat zae) ⟨rfl,rfl,rfl,rfl⟩) (zat (zaa (pv 2) zae))) rfl)
  (zaf (zak (pv 2)))))),?_⟩
 refine ⟨_,rfl,o,_,dx,_,_,rfl,e,rfl,Bh,_,rfl,o,v,i,q0,rfl,hh,ei,ew,?_⟩
 refine ⟨_,rfl,o,_,dx,_,_,rfl,e,rfl,BL,_,rfl,o,v,i,q0,rfl,hh,ok,hT,ei,by rw [ew];rfl,lf,fun u d H1 L s1 hL hu=>?_⟩
 have e1:=s1 _ _ e
 have hh1:=hh.same s1
 refine ⟨_,rfl,o,_,dx,_,_,rfl,e1,O.cl,T.AH,rfl,v.aN,rfl,.inl ⟨_,.inl hh1.p.nb⟩,_,rfl,si0,fun nl H2 s2 n2 h2=>⟨_,DGet.k (k:=.inl (i:Int)) (s2 _ _ hh1.p.nb),?_⟩⟩
 obtain ⟨m,us,em,hm,lu⟩:∃(m:Addr) (us:List Int),(valV v.nb (.inl (i:Int))).getD (.ref nl)=.ref m/\H2 m=some (.lst (us.map V.int))/\us.length<=km:=by
  cases ev:valV v.nb (.inl (i:Int)) with
  | none=>exact ⟨nl,[],rfl,h2,Nat.zero_le _⟩
  | some x=>
    obtain ⟨l,us,rfl,h3,h4⟩:=hn x ev
    exact ⟨l,us,rfl,s2 _ _ (s1 _ _ h3),h4⟩
 rw [em]
 have big:(10000:Nat)<=sizeLine:=by decide
 refine ⟨_,rfl,si1,fun l3 H3 s3 n3 h3=>⟨m,l3,_,_,rfl,rfl,SqL.of (s3 _ _ hm),SqL.of h3,by rw [length_map];show us.length+1<=_;omega,fun C H4 s4 n4 h4=>?_⟩⟩
 have s14:=s2.trans (s3.trans s4)
 have hh4:=hh1.same s14
 obtain ⟨dx4,e4⟩:=hh4.at_
 refine ⟨_,rfl,o,_,dx4,_,_,rfl,e4,O.cl,T.AH,rfl,_,rfl,v.aN,_,rfl,DPut.k (k:=.inl (i:Int)) hh4.p.nb (zaI ln),?_⟩
 have CN:C≠v.aN:=fun z=>by
  have:=hh4.p.nb
  rw [<-z,h4] at this
  cases this
 refine ⟨_,rfl,q u d H1 L C us _ s1 hL hu ((s1.trans s14).toBut.trans (But.upd _ _ _)) (Same.free (s1.trans (s2.trans s3)) n4) ?_ lu zam⟩
 rw [zah CN,h4,map_append]
 rfl
def zgV (cs:CsA) (cS cH:Addr):Sp:=fun vs H Q _=>∃(o:Addr) (v:Hv) (i:Nat) (q0:Addr × Wd × Pv),vs=[.ref o,.int i]/\IsHs cs cS cH H o v/\v.ps.length<=200/\v.ps[i]?=some q0/\q0.2.1.opn=true/\
 ∀a l' H',But o H H'->IsHs cs cS cH H' o { v with ps:=wiP (a,.calledOff,q0.2.2) v.ps,aP:=l' }->Q .non H'
theorem zfl:FnScope pl0 pl0 (zac zbV):=fsc
include T in
theorem zfm (D:Mfn K "call_off" "House.call_off" zbV pl0 f fd) (zbj:Cal P w K mg bf "with_piece" 1 pl21 (zj9 (CsA.mk Ad Ab Aa))) (B3:∀d,MOk (CX1 P w) P w K mg bf 4 (CsA.cl (CsA.mk Ad Ab Aa) d) "called_off" (zgH K (CsA.mk Ad Ab Aa) Av zgG d)) (Ba:MOk CX0 P w K mg bf 2 Ac "piece_of" (zgU (CsA.mk Ad Ab Aa) Ae Ac)):FnOk P w K mg bf CX0 5 f fd pl0 (zgV (CsA.mk Ad Ab Aa) Ae Ac):=by
 refine D.F.ok zfl (fun vs H Q E h=>?_) (fun cdv A outer s H vs Q E hr h=>?_)
 ·obtain ⟨o,v,i,q0,rfl,_⟩:=h
  rfl
 obtain ⟨o,v,i,q0,rfl,hh,len,ei,op,q⟩:=h
 obtain ⟨dx,e⟩:=hh.at_
 have O:=T.An
 obtain ⟨zdx,ez⟩:=hh.p.ps.pc q0 (mem_of_getElem? ei)
 refine ⟨_,(zaf (zaO (pv 0) (zao zbj hr.o rfl (zaa (zap (pv 0) rfl) (zaa (zaG (k:=4) (zbh (k:=2) (pv 0) hr.o zaT (zaa (pv 1) zae)) hr.o zbH) zae))))),?_⟩
 have g:zgG q0.2.1 q0.2.2=some (.calledOff,q0.2.2):=by
  revert op
  cases q0.2.1 with
  | held=>exact fun _=>rfl
  | waiting=>exact fun _=>rfl
  | calledOff=>exact fun z=>by cases z
 refine ⟨_,rfl,o,_,dx,_,_,rfl,e,O.cl,T.Al,rfl,_,rfl,o,_,dx,_,_,rfl,e,rfl,Ba,_,rfl,o,v,i,q0,rfl,hh,ei,q0.1,_,zdx,_,_,rfl,ez,rfl,B3 q0.2.1,q0.1,q0.2.2,rfl,⟨zdx,ez⟩,?_,?_⟩
 ·intro d' p' er a H1 s1 ha
  rw [g] at er
  cases er
  refine ⟨v.aP,(a,.calledOff,q0.2.2),v.ps,rfl,hh.p.ps.same s1,ha,len,fun D H2 s2 nD hD=>?_⟩
  have s02:=s1.trans s2
  have e2:=s02 _ _ e
  refine ⟨_,rfl,o,_,dx,_,rfl,e2,O.cl,T.Al,(by show (6:Nat)<1000;decide),fun H3 k3 h3=>?_⟩
  have p2:HsP (CsA.mk Ad Ab Aa) Ae H2 { v with ps:=wiP (a,.calledOff,q0.2.2) v.ps,aP:=D }:=⟨hh.p.st.same s02,hD,s02 _ _ hh.p.nb⟩
  exact q a D H3 (s02.toBut.trans k3) ⟨⟨dx,h3⟩,p2.but e2 k3⟩
 ·intro er
  rw [g] at er
  cases er
theorem PsOk.one {rs:List SR} {ps:List (Addr × Wd × Pv)} (h:PsOk rs ps) {q z:Addr × Wd × Pv} (hq:q∈ps) (hz:z∈ps) (e:q.2.2.n=z.2.2.n):q=z:=by
 obtain ⟨i,hi,ei⟩:=getElem_of_mem hq
 obtain ⟨j,hj,ej⟩:=getElem_of_mem hz
 have a:=h.nm i q (by rw [getElem?_eq_getElem hi,ei])
 have b:=h.nm j z (by rw [getElem?_eq_getElem hj,ej])
 have:i=j:=by omega
 subst this
 rw [<-ei,<-ej]
structure Alike (b q0:Addr × Wd × Pv):Prop where
 p:b.2.2=q0.2.2
 o:b.2.1.opn=q0.2.1.opn
theorem Alike.left {b q0:Addr × Wd × Pv} (h:Alike b q0):b.2.2.left b.2.1=q0.2.2.left q0.2.1:=by
 unfold Pv.left
 rw [h.p,h.o]
theorem zqW {b q:Addr × Wd × Pv} {ps:List (Addr × Wd × Pv)} (j:Nat):(wiP b ps)[j]?=(ps[j]?).map fun q=>if q.2.2.n=b.2.2.n then b else q:=by
 unfold wiP
 rw [getElem?_map]
theorem zjl {rs:List SR} {ps:List (Addr × Wd × Pv)} (h:PsOk rs ps) {b q0:Addr × Wd × Pv} (hq:q0∈ps) (al:Alike b q0):(wiP b ps).filter (fun q=>q.2.1.opn)=wiP b (ps.filter fun q=>q.2.1.opn):=by
 unfold wiP
 rw [filter_map]
 congr 1
 refine List.filter_congr fun q hq'=>?_
 show (if q.2.2.n=b.2.2.n then b else q).2.1.opn=q.2.1.opn
 by_cases c:q.2.2.n=b.2.2.n
 ·rw [if_pos c]
  rw [al.p] at c
  rw [h.one hq' hq c,al.o]
 ·rw [if_neg c]
theorem zqX {rs:List SR} {ps:List (Addr × Wd × Pv)} (h:PsOk rs ps) {b q0:Addr × Wd × Pv} (hq:q0∈ps) (al:Alike b q0):chV rs (wiP b ps)=chV rs ps:=by
 unfold chV
 rw [zjl h hq al]
 unfold wiP
 rw [map_map]
 refine map_congr_left fun q hq'=>?_
 have hq':=(mem_filter.mp hq').1
 have e:∀z:Addr × Wd × Pv,z=(if q.2.2.n=b.2.2.n then b else q)->(clOf z.2.2 (zci rs z.2.2.nm).low,z.2.2.left z.2.1)=(clOf q.2.2 (zci rs q.2.2.nm).low,q.2.2.left q.2.1):=fun z ez=>by
  by_cases c:q.2.2.n=b.2.2.n
  ·rw [if_pos c] at ez
   rw [al.p] at c
   rw [h.one hq' hq c,ez,al.left,al.p]
  ·rw [if_neg c] at ez
   rw [ez]
 exact e _ rfl
theorem zsz {rs:List SR} {ps:List (Addr × Wd × Pv)} (h:PsOk rs ps) {b q0:Addr × Wd × Pv} (hq:q0∈ps) (al:Alike b q0):PsOk rs (wiP b ps):=by
 have mem:∀z,z∈wiP b ps->z∈ps\/z=b:=fun z hz=>by
  obtain ⟨q,hq',e⟩:=mem_map.mp hz
  rw [<-e]
  split
  ·exact .inr rfl
  ·exact .inl hq'
 refine ⟨h.rl,h.ro,fun j z hz=>?_,fun z hz=>?_,fun z hz=>?_,?_,?_⟩
 ·rw [zqW (q:=b)] at hz
  cases e:ps[j]? with
  | none=>rw [e] at hz;cases hz
  | some q=>
    rw [e] at hz
    have hz:(if q.2.2.n=b.2.2.n then b else q)=z:=Option.some.inj hz
    have:=h.nm j q e
    rw [<-hz]
    by_cases c:q.2.2.n=b.2.2.n
    ·rw [if_pos c,<-c]
     exact this
    ·rw [if_neg c]
     exact this
 ·rcases mem z hz with m | rfl
  ·exact h.ok z m
  ·rw [al.left,al.p]
   exact h.ok q0 hq
 ·rcases mem z hz with m | rfl
  ·exact h.fd z m
  ·rw [al.p]
   exact h.fd q0 hq
 ·unfold wiP
  rw [length_map]
  exact h.len
 ·rw [zjl h hq al]
  unfold wiP
  rw [length_map]
  exact h.op
theorem IsHs.put {cs:CsA} {cS cH o:Addr} {H H':Hp} {v:Hv} {kvs:List (Key × V)} (h:IsHs cs cS cH H o v) (k:But v.aN H H') (e:H' v.aN=some (.dK kvs)):IsHs cs cS cH H' o { v with nb:=kvs }:=by
 have hn:=h.p.nb
 have nl:∀ {z xs},H z=some (.lst xs)->z≠v.aN:=fun e z=>by rw [z,hn] at e;cases e
 have nt:∀ {z xs},H z=some (.tup xs)->z≠v.aN:=fun e z=>by rw [z,hn] at e;cases e
 have ni:∀ {z C dx fs},H z=some (.ins C dx fs)->z≠v.aN:=fun e z=>by rw [z,hn] at e;cases e
 obtain ⟨dx,e0⟩:=h.at_
 obtain ⟨sdx,l,xs,e1,e2,e3⟩:=h.p.st
 refine ⟨⟨dx,k _ _ (ni e0) e0⟩,⟨sdx,l,xs,k _ _ (ni e1) e1,⟨k _ _ (nl e2.at_) e2.at_,fun q hq=>?_⟩,e3⟩,⟨k _ _ (nl h.p.ps.at_) h.p.ps.at_,fun q hq=>?_⟩,e⟩
 ·obtain ⟨pw,ps,a,b,c⟩:=e2.sr q hq
  exact ⟨pw,ps,k _ _ (nt a) a,k _ _ (nt b) b,k _ _ (nt c) c⟩
 ·obtain ⟨pdx,ep⟩:=h.p.ps.pc q hq
  exact ⟨pdx,k _ _ (ni ep) ep⟩
def But2 (a b:Addr) (H H':Hp):Prop:=∀c u,c≠a->c≠b->H c=some u->H' c=some u
def zla (K:W.Frag) (cs:CsA) (cS cH cG tT:Addr):Sp:=fun vs H Q _=>∃(o:Addr) (v:Hv) (i:Nat) (q0:Addr × Wd × Pv) (km:Nat),vs=[.ref o,.ref q0.1]/\IsHs cs cS cH H o v/\HvOk v/\H tT=some (.tbl zbc lamQ)/\v.ps[i]?=some q0/\q0.2.1=.held/\0<q0.2.2.left q0.2.1/\NbP H v i km/\km<=1000/\v.nb.length<=1000/\
 ∀a l' l us u d Hd L g H',But2 o v.aN H H'->LatOf Hd d v.h.toNat v.t (chV v.rs v.ps) L->valI L i=some u->H' l=some (.lst ((us++[u]).map V.int))->us.length<=km->IsHs cs cS cH H' o { v with ps:=wiP (a,.waiting,q0.2.2) v.ps,aP:=l',nb:=putK v.nb (.inl (i:Int)) (.ref l) }->IsGr cG H' g (.int i)->Q (.ref g) H'
theorem zfL:FnScope ["self","place"] ["self","place"] (zac zcd):=fsc
include T in
theorem zfM (D:Mfn K "come_to" "House.come_to" zcd ["self","place"] f fd) (zbj:Cal P w K mg bf "with_piece" 1 pl21 (zj9 (CsA.mk Ad Ab Aa))) (BC:MakG CX0 P w K mg bf "Granted" Af 1 (zk6 Af)) (DV:∀d,MOk (CX1 P w) P w K mg bf 4 (CsA.cl (CsA.mk Ad Ab Aa) d) "taken" (zgH K (CsA.mk Ad Ab Aa) Av zkX d)) (Dx:MOk CX0 P w K mg bf 14 Ac "tell" (zn3 K (CsA.mk Ad Ab Aa) Ae Ac tT)):FnOk P w K mg bf CX0 15 f fd ["self","place"] (zla K (CsA.mk Ad Ab Aa) Ae Ac Af tT):=by
 refine D.F.ok zfL (fun vs H Q E h=>?_) (fun cdv A outer s H vs Q E hr h=>?_)
 ·obtain ⟨o,v,i,q0,km,rfl,_⟩:=h
  rfl
 obtain ⟨o,v,i,q0,km,rfl,hh,ok,hT,ei,ew,lf,hn,hkm,ln,q⟩:=h
 obtain ⟨dx,e⟩:=hh.at_
 have O:=T.An
 have S:=zbK T
 have hm:=mem_of_getElem? ei
 obtain ⟨zdx,ez⟩:=hh.p.ps.pc q0 hm
 refine ⟨_,(zag (zaO (pv 0) (zao zbj hr.o rfl (zaa (zap (pv 0) rfl) (zaa (zaG (k:=4) (pv 1) hr.o zbH) zae))))
  (zag (zc2 (zbh (k:=14) (pv 0) hr.o zaT (zaa (zap (pv 1) rfl) zae)))
  (zaf (zak (zgA BC hr.o rfl zaT (zaa (zap (pv 1) rfl) zae)))))),?_⟩
 have g:zkX q0.2.1 q0.2.2=some (.waiting,q0.2.2):=by
  rw [ew]
  rfl
 refine ⟨_,rfl,o,_,dx,_,_,rfl,e,O.cl,T.Al,rfl,_,rfl,q0.1,_,zdx,_,_,rfl,ez,rfl,DV q0.2.1,q0.1,q0.2.2,rfl,⟨zdx,ez⟩,?_,?_⟩
 rotate_left
 ·intro er
  rw [g] at er
  cases er
 intro d' p' er a H1 s1 ha
 rw [g] at er
 cases er
 refine ⟨v.aP,(a,.waiting,q0.2.2),v.ps,rfl,hh.p.ps.same s1,ha,ok.p.len,fun D H2 s2 nD hD=>?_⟩
 have s02:=s1.trans s2
 have e2:=s02 _ _ e
 refine ⟨_,rfl,o,_,dx,_,rfl,e2,O.cl,T.Al,(by show (6:Nat)<1000;decide),fun H3 k3 h3=>?_⟩
 have p2:HsP (CsA.mk Ad Ab Aa) Ae H2 { v with ps:=wiP (a,.waiting,q0.2.2) v.ps,aP:=D }:=⟨hh.p.st.same s02,hD,s02 _ _ hh.p.nb⟩
 have h3':IsHs (CsA.mk Ad Ab Aa) Ae Ac H3 o { v with ps:=wiP (a,.waiting,q0.2.2) v.ps,aP:=D }:=⟨⟨dx,h3⟩,p2.but e2 k3⟩
 have al:Alike (a,.waiting,q0.2.2) q0:=⟨rfl,by rw [ew];rfl⟩
 have ne:∀ {z:Addr} {u:HO},H z=some u->(∀C dx fs,u≠.ins C dx fs)->z≠o:=fun hz hu w=>by
  rw [w,e] at hz
  cases hz
  exact hu _ _ _ rfl
 have zo:q0.1≠o:=fun w=>by
  have:=ez
  rw [w,e] at this
  have:=Option.some.inj this
  injection this with _ _ this
  unfold Hv.fs Pv.fs at this
  injection this with this _
  have:(Str.ofString "sorts")=Str.ofString "number" := (Prod.mk.inj this).1
  revert this
  decide +kernel
 have ez3:=k3 _ _ zo (s02 _ _ ez)
 have hT3:=k3 _ _ (ne hT fun _ _ _ w=>by cases w) (s02 _ _ hT)
 have en:=ok.p.nm i q0 ei
 obtain ⟨dx3,e3⟩:=h3'.at_
 have ei3:(wiP (a,.waiting,q0.2.2) v.ps)[i]?=some (a,.waiting,q0.2.2):=by
  rw [zqW (q:=q0),ei]
  show some (if q0.2.2.n=q0.2.2.n then _ else _)=_
  rw [if_pos rfl]
 refine ⟨_,rfl,o,_,dx3,_,_,rfl,e3,rfl,Dx,_,rfl,q0.1,_,zdx,_,_,rfl,ez3,(S.ow q0.2.1).cl,S.n1 q0.2.1,rfl,o,_,i,_,km,by rw [en],h3',⟨zsz ok.p hm al,ok.h0,ok.t0,ok.t1⟩,hT3,ei3,rfl,by have:=al.left;rw [<-this] at lf;exact lf,?_,hkm,ln,?_⟩
 ·intro x hx
  obtain ⟨l,us,e1,e2,e3⟩:=hn x hx
  exact ⟨l,us,e1,k3 _ _ (ne e2 fun _ _ _ w=>by cases w) (s02 _ _ e2),e3⟩
 ·intro u d Hd L l us H4 sd hL hu k4 nl hl lk h4
  have hh4:=h3'.put k4 h4
  rw [zqX ok.p hm al] at hL
  have ez4:=k4 _ _ (fun w=>by have:=h3'.p.nb;rw [<-w,ez3] at this;cases this) ez3
  refine ⟨_,rfl,q0.1,_,zdx,_,_,rfl,ez4,(S.ow q0.2.1).cl,S.n1 q0.2.1,rfl,.int q0.2.2.n,rfl,fun g H5 s5 ng hg=>?_⟩
  rw [en] at hg
  exact q a D l us u d Hd L g H5 (fun c u c1 c2 hc=>s5 _ _ (k4 _ _ c2 (k3 _ _ c1 (s02 _ _ hc)))) hL hu (s5 _ _ hl) lk (hh4.same s5) hg
def Kept (h:Nat) (b:Int) (c:Ch) (tl:List (Int × Int)):Prop:=∀N,(runN h N b (bhC [] c)).2=[]->zeP (zbo (runN h N b (bhC [] c)).1 []) tl=[]
def zn4 (K:W.Frag) (cs:CsA) (cS cH cG tT:Addr):Sp:=fun vs H Q _=>∃(o:Addr) (v:Hv) (tl:Int->Int) (l':Addr) (ps':List (Addr × Wd × Pv)) (n:V),vs=[.ref o,.ref l',.ref v.aS,.int v.h,n]/\IsHs cs cS cH H o v/\HvOk v/\TlP H v tl/\IsPs cs H l' ps'/\PsOk v.rs ps'/\H tT=some (.tbl zbc lamQ)/\Kept v.h.toNat v.t (chV v.rs ps') (tlL tl v.ps)/\
 ∀g H',But o H H'->IsHs cs cS cH H' o { v with ps:=ps',aP:=l' }->IsGr cG H' g n->Q (.ref g) H'
theorem zdD:FnScope ["self","pieces","sorts","hands","number","late"] pl22 (zac zcO):=fsc
include T in
theorem zhd (D:Mfn K "asked" "House.asked" zcO pl22 f fd) (zfn:Cal P w K mg bf "kept_all" 11 pl18 (zpQ K tT)) (zbE:Cal P w K mg bf "chores_of" 10 pl19 (zfc K (CsA.mk Ad Ab Aa) Ae)) (BC:MakG CX0 P w K mg bf "Granted" Af 1 (zk6 Af)) (CI:MOk CX0 P w K mg bf 2 Ac "told_now" (zpT K (CsA.mk Ad Ab Aa) Ae Ac)):FnOk P w K mg bf CX0 13 f fd pl22 (zn4 K (CsA.mk Ad Ab Aa) Ae Ac Af tT):=by
 refine D.F.ok zdD (fun vs H Q E h=>?_) (fun cdv A outer s H vs Q E hr h=>?_)
 ·obtain ⟨o,v,tl,l',ps',n,rfl,_⟩:=h
  rfl
 obtain ⟨o,v,tl,l',ps',n,rfl,hh,ok,ht,hP,ok',hT,kp,q⟩:=h
 obtain ⟨dx,e⟩:=hh.at_
 have O:=T.An
 refine ⟨_,(zag (zaz (i:=5) zdD.nd rfl (Or.inl rfl) (zao zfn hr.o rfl (pai (zab (zao zbE hr.o rfl (zaa (pv 1) (zaa (pv 2) zae))) (zab (pv 3) (zab (zap (pv 0) rfl) (zab (zaG (k:=2) (pv 0) hr.o zaT) zay)))))))
  (zag (za9 (zaE zqd (pv 5) zec (zaJ _)) (zaf zcD) zaC)
  (zag (zaO (pv 0) (pv 1))
  (zag (zaO (pv 0) (pv 2))
  (zag (zaO (pv 0) (pv 3))
  (zaf (zak (zgA BC hr.o rfl zaT (zaa (pv 4) zae))))))))),?_⟩
 refine ⟨_,rfl,_,rfl,l',v.aS,ps',v.rs,rfl,hP,hh.p.st,ok',fun D H1 xs s1 nD hI ex=>?_⟩
 have e1:=s1 _ _ e
 have hh1:=hh.same s1
 refine ⟨_,rfl,_,rfl,o,_,dx,_,_,rfl,e1,O.cl,T.Ax,rfl,_,rfl,o,_,dx,_,_,rfl,e1,rfl,CI,o,v,tl,rfl,hh1,ok.p,ht.same s1,fun d H2 s2 nd hd=>?_⟩
 have s02:=s1.trans s2
 refine ⟨D,xs,v.h,v.t,d,tlL tl v.ps,rfl,hI.same s2,ok.h0,ok.t0,ok.t1,s02 _ _ hT,.inl hd,fun E1 H3 rs s3 nE R l40=>⟨fun _=>?_,fun M _ _ _ hM=>?_⟩⟩
 ·have s03:=s02.trans s3
  have e3:=s03 _ _ e
  refine ⟨_,rfl,rfl,_,rfl,iteF ?_⟩
  have p3:HsP (CsA.mk Ad Ab Aa) Ae H3 { v with ps:=ps',aP:=l' }:=⟨hh.p.st.same s03,hP.same s03,s03 _ _ hh.p.nb⟩
  refine ⟨_,rfl,_,rfl,o,_,dx,_,rfl,e3,O.cl,T.Al,(by show (6:Nat)<1000;decide),fun H4 k4 h4=>?_⟩
  have p4:=p3.but e3 k4
  have e4:H4 o=some (.ins Ac dx ({ v with ps:=ps',aP:=l' }:Hv).fs):=h4
  refine ⟨_,rfl,_,rfl,o,_,dx,_,rfl,e4,O.cl,T.At,(by show (6:Nat)<1000;decide),fun H5 k5 h5=>?_⟩
  have p5:=p4.but e4 k5
  have e5:H5 o=some (.ins Ac dx ({ v with ps:=ps',aP:=l' }:Hv).fs):=h5
  refine ⟨_,rfl,_,rfl,o,_,dx,_,rfl,e5,O.cl,T.A9,(by show (6:Nat)<1000;decide),fun H6 k6 h6=>?_⟩
  have p6:=p5.but e5 k6
  have e6:H6 o=some (.ins Ac dx ({ v with ps:=ps',aP:=l' }:Hv).fs):=h6
  refine ⟨_,rfl,n,rfl,fun g H7 s7 ng hg=>q g H7 (s03.toBut.trans (k4.trans (k5.trans (k6.trans s7.toBut)))) ⟨⟨dx,s7 _ _ e6⟩,p6.same s7⟩ hg⟩
 ·exfalso
  obtain ⟨N,a1,a2,_⟩:=R.eq
  have a1:zbM rs=_:=a1
  rw [ex] at a1 a2
  rw [a1,kp N a2] at hM
  cases hM
def zia (K:W.Frag) (cs:CsA) (cS cH cG cM tT:Addr):Sp:=fun vs H Q E=>∃(o:Addr) (v:Hv) (tl:Int->Int) (b:Addr × Wd × Pv),vs=[.ref o,.ref b.1]/\IsHs cs cS cH H o v/\HvOk v/\TlP H v tl/\IsPc cs H b.1 b.2.1 b.2.2/\H tT=some (.tbl zbc lamQ)/\
 (((v.ps.filter fun q=>q.2.1.opn).length=40/\∀a H',Same H H'->Bare H' a cM->E (.ref cM) (some a) H') \/
  ((v.ps.filter fun q=>q.2.1.opn).length<40/\PsOk v.rs (v.ps++[b])/\Kept v.h.toNat v.t (chV v.rs (v.ps++[b])) (tlL tl v.ps)/\
    ∀g l' H',But o H H'->IsHs cs cS cH H' o { v with ps:=v.ps++[b],aP:=l' }->IsGr cG H' g (.int b.2.2.n)->Q (.ref g) H'))
theorem zd9:FnScope ["self","piece"] ["self","piece"] (zac zbt):=fsc
include T in
theorem zea (D:Mfn K "asked_with" "House.asked_with" zbt ["self","piece"] f fd) (DW:MOk CX0 P w K mg bf 13 Ac "asked" (zn4 K (CsA.mk Ad Ab Aa) Ae Ac Af tT)) (Bq:MOk (CX1 P w) P w K mg bf 12 Ac "check_room" (zpS K (CsA.mk Ad Ab Aa) Ae Ac Ah)):FnOk P w K mg bf (CX1 P w) 14 f fd ["self","piece"] (zia K (CsA.mk Ad Ab Aa) Ae Ac Af Ah tT):=by
 refine D.F.ok1 zd9 (fun vs H Q E h=>?_) (fun cdv A outer s H vs Q E hr h=>?_)
 ·obtain ⟨o,v,tl,b,rfl,_⟩:=h
  rfl
 obtain ⟨o,v,tl,b,rfl,hh,ok,ht,hb,hT,h⟩:=h
 obtain ⟨dx,e⟩:=hh.at_
 have O:=T.An
 have S:=zbK T
 refine ⟨_,(zag (zc2 (zaG (k:=12) (pv 0) hr.o zeJ))
  (zaf (zak (zbh (k:=13) (pv 0) hr.o zaT (pai (zab (zaD zdH (zap (pv 0) rfl) (zat (zaa (pv 1) zae))) (zab (zap (pv 0) rfl) (zab (zap (pv 0) rfl) (zab (zap (pv 1) rfl) zay))))))))),?_⟩
 rcases h with ⟨c,qE⟩ | ⟨c,ok',kp,q⟩
 ·exact ⟨_,rfl,o,_,dx,_,_,rfl,e,rfl,Bq,o,v,rfl,hh,ok.p,.inr ⟨c,qE⟩⟩
 refine ⟨_,rfl,o,_,dx,_,_,rfl,e,rfl,Bq,o,v,rfl,hh,ok.p,.inl ⟨c,fun H1 s1=>?_⟩⟩
 have e1:=s1 _ _ e
 have hh1:=hh.same s1
 have big:(10000:Nat)<=sizeLine:=by decide
 have ll:=ok.p.len
 refine ⟨_,rfl,o,_,dx,_,_,rfl,e1,rfl,DW,_,rfl,o,_,dx,_,_,rfl,e1,O.cl,T.Al,rfl,_,rfl,si1,fun l2 H2 s2 n2 h2=>?_⟩
 have hh2:=hh1.same s2
 refine ⟨v.aP,l2,_,_,rfl,rfl,SqL.of hh2.p.ps.at_,SqL.of h2,by rw [length_map];show v.ps.length+1<=_;omega,fun C H3 s3 n3 h3=>?_⟩
 have s03:=s1.trans (s2.trans s3)
 have hh3:=hh.same s03
 have e3:=s03 _ _ e
 obtain ⟨bdx,eb⟩:=hb.same s03
 have hP:IsPs (CsA.mk Ad Ab Aa) H3 C (v.ps++[b]):=by
  refine ⟨by rw [h3,map_append];rfl,fun q hq=>?_⟩
  rcases mem_append.mp hq with hq | hq
  ·exact hh3.p.ps.pc q hq
  ·rw [mem_singleton.mp hq]
   exact ⟨bdx,eb⟩
 exact ⟨_,rfl,o,_,dx,_,_,rfl,e3,O.cl,T.At,rfl,_,rfl,o,_,dx,_,_,rfl,e3,O.cl,T.A9,rfl,_,rfl,b.1,_,bdx,_,_,rfl,eb,(S.ow b.2.1).cl,S.n1 b.2.1,rfl,o,v,tl,C,v.ps++[b],.int b.2.2.n,rfl,hh3,ok,ht.same s03,hP,ok',s03 _ _ hT,kp,fun g H4 k4 h4 hg=>q g C H4 (s03.toBut.trans k4) h4 hg⟩
def pvOf (r:SR) (n:Nat) (c:Int):Pv:=⟨n,r.nm,c,r.sp,r.tr,0⟩
def NewP (cs:CsA) (cS cH cG cM:Addr) (H:Hp) (o:Addr) (v:Hv) (tl:Int->Int) (d:Wd) (p:Pv) (Q:VK) (E:XK):Prop:=
 ((v.ps.filter fun q=>q.2.1.opn).length=40/\∀a H',Same H H'->Bare H' a cM->E (.ref cM) (some a) H') \/
 ((v.ps.filter fun q=>q.2.1.opn).length<40/\(∀a,PsOk v.rs (v.ps++[(a,d,p)]))/\(∀a,Kept v.h.toNat v.t (chV v.rs (v.ps++[(a,d,p)])) (tlL tl v.ps))/\
   ∀a g l' H',But o H H'->H a=none->IsHs cs cS cH H' o { v with ps:=v.ps++[(a,d,p)],aP:=l' }->IsGr cG H' g (.int p.n)->Q (.ref g) H')
def zgW (K:W.Frag) (cs:CsA) (cS cH cG cN cT cM tT:Addr):Sp:=fun vs H Q E=>∃(o:Addr) (v:Hv) (tl:Int->Int) (x y:V),vs=[.ref o,x,y]/\IsHs cs cS cH H o v/\HvOk v/\TlP H v tl/\H tT=some (.tbl zbc lamQ)/\
 ((NoNm K H v.rs x/\∀b H',Same H H'->Told K H' b cN "name" x->E (.ref cN) (some b) H') \/
  (∃r,r∈v.rs/\x=.str r.nm/\(∀s,s∈v.rs->s.nm=r.nm->s=r)/\
    ((WhB K H y v.t (v.t+400) false/\∀b H',Same H H'->Told K H' b cT "turn" y->E (.ref cT) (some b) H') \/
     (∃c,y=.int c/\v.t<=c/\c<=v.t+400/\NewP cs cS cH cG cM H o v tl .held (pvOf r v.ps.length c) Q E))))
theorem zez:FnScope ["self","sort","turn","known"] ["self","sort","turn"] (zac zde):=fsc
include T in
theorem zib (D:Mfn K "hold" "House.hold" zde ["self","sort","turn"] f fd) (zau:Cal P w K mg bf "is_whole" 1 pl4 (zbL K)) (Cq:XCal P w K mg bf "NoTurn" Am "turn") (Ea:Mak P w K mg bf "Held" Ad 1 pl1 (.int 0)) (AF:MOk (CX1 P w) P w K mg bf 14 Ac "asked_with" (zia K (CsA.mk Ad Ab Aa) Ae Ac Af Ah tT)) (AC:MOk (CX1 P w) P w K mg bf 7 Ae "sort_of" (zfZ K Ap Ae Ak)):FnOk P w K mg bf (CX1 P w) 15 f fd ["self","sort","turn"] (zgW K (CsA.mk Ad Ab Aa) Ae Ac Af Ak Am Ah tT):=by
 refine D.F.ok1 zez (fun vs H Q E h=>?_) (fun cdv A outer s H vs Q E hr h=>?_)
 ·obtain ⟨o,v,tl,x,y,rfl,_⟩:=h
  rfl
 obtain ⟨o,v,tl,x,y,rfl,hh,ok,ht,hT,h⟩:=h
 obtain ⟨dx,e⟩:=hh.at_
 have O:=T.An
 have S:=zbK T
 have hst:=hh.p.st
 obtain ⟨sdx,sl,sxs,es,_,_⟩:=id hst
 refine ⟨_,(zag (zaz (i:=3) zez.nd rfl (Or.inl rfl) (zbh (k:=7) (zap (pv 0) rfl) hr.o zeJ (zaa (pv 1) zae)))
  (zag (za9 (za0 (zaQ (zao zau hr.o rfl (zaa (pv 2) (zaa (zap (pv 0) rfl) (zaa (zaD zbY (zap (pv 0) rfl) (zaZ (v:=.int 400) rfl T.As.choose_spec ⟨_,rfl⟩)) zae)))))) (zaf (zcF T.D0 hr.hd (zgo Cq hr.o rfl (zaa (pv 2) zae)))) zaC)
  (zaf (zak (zbh (k:=14) (pv 0) hr.o zeJ (zaa (zno Ea hr.o rfl (pai (zab (zar zaF rfl T.zdS zck (zaa (zap (pv 0) rfl) zae)) (zab (zap (pv 3) rfl) (zab (pv 2) (zab (zap (pv 3) rfl) (zab (zap (pv 3) rfl) zay))))))) zae)))))),?_⟩
 rcases h with ⟨hn,qE⟩ | ⟨r,hr',rfl,un,h⟩
 ·exact ⟨_,rfl,o,_,dx,_,_,rfl,e,O.cl,T.At,rfl,v.aS,_,sdx,_,_,rfl,es,rfl,AC,_,rfl,v.aS,v.rs,x,rfl,hst,ok.p.rl,ok.p.ro,.inr ⟨hn,qE⟩⟩
 refine ⟨_,rfl,o,_,dx,_,_,rfl,e,O.cl,T.At,rfl,v.aS,_,sdx,_,_,rfl,es,rfl,AC,_,rfl,v.aS,v.rs,_,rfl,hst,ok.p.rl,ok.p.ro,.inl ⟨r,hr',rfl,un,fun b H1 s1 hb=>?_⟩⟩
 obtain ⟨bdx,pw,pz,b1,b2,b3⟩:=hb
 have e1:=s1 _ _ e
 have hh1:=hh.same s1
 have SO:=T.Dw
 refine ⟨_,rfl,_,rfl,o,_,dx,_,_,rfl,e1,O.cl,T.Ax,rfl,_,rfl,o,_,dx,_,_,rfl,e1,O.cl,T.Ax,rfl,_,_,rfl,rfl,?_⟩
 rcases h with ⟨hw,qE⟩ | ⟨c,rfl,c0,c1,h⟩
 ·refine ⟨y,v.t,v.t+400,false,rfl,hw.same s1,_,rfl,iteT ⟨_,rfl,_,rfl,zcz s1 qE⟩⟩
 refine ⟨.int c,v.t,v.t+400,_,rfl,.inl ⟨c,rfl,rfl⟩,?_⟩
 rw [decide_eq_true c0,decide_eq_true c1]
 refine ⟨_,rfl,iteF ?_⟩
 refine ⟨_,rfl,o,_,dx,_,_,rfl,e1,rfl,AF,_,rfl,o,_,dx,_,_,rfl,e1,O.cl,T.Al,rfl,v.aP,_,rfl,.inl (SqL.of hh1.p.ps.at_),_,rfl,b,_,bdx,_,_,rfl,b1,SO.cl,T.BI,rfl,_,rfl,_,rfl,b,_,bdx,_,_,rfl,b1,SO.cl,T.BK,rfl,_,rfl,b,_,bdx,_,_,rfl,b1,SO.cl,T.Bp,rfl,rfl,fun a adx H2 s2 n2 h2=>?_⟩
 have s02:=s1.trans s2
 have ml:(v.ps.map fun q=>V.ref q.1).length=v.ps.length:=length_map _
 have ha:IsPc (CsA.mk Ad Ab Aa) H2 a .held (pvOf r v.ps.length c):=⟨adx,by rw [h2,ml];rfl⟩
 refine ⟨o,v,tl,(a,.held,pvOf r v.ps.length c),rfl,hh.same s02,ok,ht.same s02,ha,s02 _ _ hT,?_⟩
 rcases h with ⟨ch,qE⟩ | ⟨ch,okn,kp,q⟩
 ·exact .inl ⟨ch,fun b H' s' hB=>qE b H' (s02.trans s') hB⟩
 ·exact .inr ⟨ch,okn a,kp a,fun g l' H' k' hH hg=>q a g l' H' (s02.toBut.trans k') (Same.free s1 n2) hH hg⟩
theorem PsOk.add {rs:List SR} {ps:List (Addr × Wd × Pv)} (h:PsOk rs ps) {b:Addr × Wd × Pv} (n:b.2.2.n=ps.length) (l:ps.length<200) (op:(ps.filter fun q=>q.2.1.opn).length<40) (ok:b.2.2.Ok/\0<=b.2.2.left b.2.1/\b.2.2.left b.2.1<=12/\0<=b.2.2.came/\b.2.2.came<=1000) (fd:znL rs b.2.2.nm (zci rs b.2.2.nm)):PsOk rs (ps++[b]):=by
 refine ⟨h.rl,h.ro,fun i q hq=>?_,fun q hq=>?_,fun q hq=>?_,?_,?_⟩
 ·by_cases c:i<ps.length
  ·rw [getElem?_append_left c] at hq
   exact h.nm i q hq
  ·rw [getElem?_append_right (by omega)] at hq
   cases e:i-ps.length with
   | zero=>
     rw [e] at hq
     cases hq
     omega
   | succ j=>rw [e] at hq;cases hq
 ·rcases mem_append.mp hq with hq | hq
  ·exact h.ok q hq
  ·rw [mem_singleton.mp hq]
   exact ok
 ·rcases mem_append.mp hq with hq | hq
  ·exact h.fd q hq
  ·rw [mem_singleton.mp hq]
   exact fd
 ·rw [length_append]
  show ps.length+1<=200
  omega
 ·rw [filter_append,length_append]
  have:([b].filter fun q=>q.2.1.opn).length<=1:=length_filter_le _ _
  omega
theorem zn5 {rs:List SR} {ps:List (Addr × Wd × Pv)} {b:Addr × Wd × Pv} (ob:b.2.1.opn=true):chV rs (ps++[b])=chV rs ps++[(clOf b.2.2 (zci rs b.2.2.nm).low,b.2.2.left b.2.1)]:=by
 unfold chV
 rw [filter_append,map_append,filter_cons,if_pos ob]
 rfl
def plL (nm:Str) (t:Int) (ps:List (Addr × Wd × Pv)):List (Addr × Wd × Pv):=(ofW .held ps).filter fun q=>decide (q.2.2.nm=nm)&&decide (q.2.2.came=t)
def zsA (cs:CsA) (cS cH cG:Addr) (H:Hp) (o:Addr) (v:Hv) (ps':Addr->List (Addr × Wd × Pv)) (i:Nat) (km:Nat) (Q:VK):Prop:=
 ∀a l' l us u d Hd L g H',But2 o v.aN H H'->LatOf Hd d v.h.toNat v.t (chV v.rs (ps' a)) L->valI L i=some u->H' l=some (.lst ((us++[u]).map V.int))->us.length<=km->IsHs cs cS cH H' o { v with ps:=ps' a,aP:=l',nb:=putK v.nb (.inl (i:Int)) (.ref l) }->IsGr cG H' g (.int i)->Q (.ref g) H'
def zeA (K:W.Frag) (cs:CsA) (cS cH cG cN cM tT:Addr):Sp:=fun vs H Q E=>∃(o:Addr) (v:Hv) (tl:Int->Int) (x:V) (km:Nat),vs=[.ref o,x]/\IsHs cs cS cH H o v/\HvOk v/\TlP H v tl/\H tT=some (.tbl zbc lamQ)/\(∀n,NbP H v n km)/\km<=1000/\v.nb.length<=1000/\
 ((NoNm K H v.rs x/\∀b H',Same H H'->Told K H' b cN "name" x->E (.ref cN) (some b) H') \/
  (∃r,r∈v.rs/\x=.str r.nm/\(∀s,s∈v.rs->s.nm=r.nm->s=r)/\
    ((∃(i:Nat) (q0:Addr × Wd × Pv) (ys:List (Addr × Wd × Pv)),plL r.nm v.t v.ps=q0::ys/\v.ps[i]?=some q0/\0<q0.2.2.left q0.2.1/\zsA cs cS cH cG H o v (fun a=>wiP (a,.waiting,q0.2.2) v.ps) i km Q) \/
     (plL r.nm v.t v.ps=[]/\
       (((v.ps.filter fun q=>q.2.1.opn).length=40/\∀a H',Same H H'->Bare H' a cM->E (.ref cM) (some a) H') \/
        ((v.ps.filter fun q=>q.2.1.opn).length<40/\(∀a,PsOk v.rs (v.ps++[(a,.waiting,pvOf r v.ps.length v.t)]))/\(∀a,Kept v.h.toNat v.t (chV v.rs (v.ps++[(a,.waiting,pvOf r v.ps.length v.t)])) (tlL tl v.ps))/\0<(pvOf r v.ps.length v.t).left .waiting/\
          zsA cs cS cH cG H o v (fun a=>v.ps++[(a,.waiting,pvOf r v.ps.length v.t)]) v.ps.length km Q))))))
theorem zbw:FnScope ["self","sort","known","places","piece","verdict"] ["self","sort"] (zac zdd):=fsc
include T in
theorem zic (D:Mfn K "come" "House.come" zdd ["self","sort"] f fd) (BB:Mak P w K mg bf "Waiting" Ab 1 pl1 (.int 0)) (AF:MOk (CX1 P w) P w K mg bf 14 Ac "asked_with" (zia K (CsA.mk Ad Ab Aa) Ae Ac Af Ah tT)) (Di:MOk CX0 P w K mg bf 15 Ac "come_to" (zla K (CsA.mk Ad Ab Aa) Ae Ac Af tT)) (AI:MOk CX0 P w K mg bf 1 Af "granted" (zgN Af)) (Ce:MOk CX0 P w K mg bf 1 Ac "places" (zlQ (CsA.mk Ad Ab Aa) Ae Ac .held)) (AC:MOk (CX1 P w) P w K mg bf 7 Ae "sort_of" (zfZ K Ap Ae Ak)) (Dx:MOk CX0 P w K mg bf 14 Ac "tell" (zn3 K (CsA.mk Ad Ab Aa) Ae Ac tT)):FnOk P w K mg bf (CX1 P w) 16 f fd ["self","sort"] (zeA K (CsA.mk Ad Ab Aa) Ae Ac Af Ak Ah tT):=by
 refine D.F.ok1 zbw (fun vs H Q E h=>?_) (fun cdv A outer s H vs Q E hr h=>?_)
 ·obtain ⟨o,v,tl,x,km,rfl,_⟩:=h
  rfl
 obtain ⟨o,v,tl,x,km,rfl,hh,ok,ht,hT,hn,hkm,ln,h⟩:=h
 obtain ⟨dx,e⟩:=hh.at_
 have O:=T.An
 have S:=zbK T
 have hst:=hh.p.st
 obtain ⟨sdx,sl,sxs,es,_,_⟩:=id hst
 refine ⟨_,(zag (zaz (i:=2) zbw.nd rfl (Or.inl rfl) (zbh (k:=7) (zap (pv 0) rfl) hr.o zeJ (zaa (pv 1) zae)))
  (zag (zhJ (i:=3) (N:=["place","self","sort"]) (js:=[0,1]) zbw.nd rfl rfl rfl cpo (zaL (zaG (k:=1) (pv 0) hr.o zaT)) (fun _ _ _ _ _=>(zgk (zaE (zlD (K:=K) rfl hr.units0) (zai (zaa (zbP (K:=K) rfl (pv 0) rfl) (zaa (zbP (K:=K) rfl (pv 0) rfl) zae))) (zai (zaa (pv 2) (zaa (zbP (K:=K) rfl (pv 1) rfl) zae))) (zaJ _)))) (fun _ _ _ _ _=>(pv 0)))
  (zag (za9 (zaE zg2 (zar zaF rfl T.zdS zck (zaa (pv 3) zae)) zad (zaJ _)) (zaf (zak (zbh (k:=15) (pv 0) hr.o zaT (zaa (zaH zeH (pv 3) zad (fun _ _=>rfl)) zae)))) zaC)
  (zag (zaz (i:=4) zbw.nd rfl (Or.inl rfl) (zno BB hr.o rfl (pai (zab (zar zaF rfl T.zdS zck (zaa (zap (pv 0) rfl) zae)) (zab (zap (pv 2) rfl) (zab (zap (pv 0) rfl) (zab (zap (pv 2) rfl) (zab (zap (pv 2) rfl) zay))))))))
  (zag (zaz (i:=5) zbw.nd rfl (Or.inl rfl) (zbh (k:=14) (pv 0) hr.o zeJ (zaa (pv 4) zae)))
  (zag (za9 (zaQ (zaG (k:=1) (pv 5) hr.o zaT)) (zaf (zc2 (zbh (k:=14) (pv 0) hr.o zaT (zaa (zap (pv 4) rfl) zae)))) zaC)
  (zaf (zak (pv 5))))))))),?_⟩
 rcases h with ⟨hn,qE⟩ | ⟨r,hr',rfl,un,h⟩
 ·exact ⟨_,rfl,o,_,dx,_,_,rfl,e,O.cl,T.At,rfl,v.aS,_,sdx,_,_,rfl,es,rfl,AC,_,rfl,v.aS,v.rs,x,rfl,hst,ok.p.rl,ok.p.ro,.inr ⟨hn,qE⟩⟩
 refine ⟨_,rfl,o,_,dx,_,_,rfl,e,O.cl,T.At,rfl,v.aS,_,sdx,_,_,rfl,es,rfl,AC,_,rfl,v.aS,v.rs,_,rfl,hst,ok.p.rl,ok.p.ro,.inl ⟨r,hr',rfl,un,fun b H1 s1 hb=>?_⟩⟩
 have e1:=s1 _ _ e
 have hh1:=hh.same s1
 refine ⟨_,rfl,o,_,dx,_,_,rfl,e1,rfl,Ce,o,v,rfl,hh1,ok.p.len,fun l H2 s2 nl hl=>⟨l,rfl,⟨_,SqL.of hl.at_⟩,?_⟩⟩
 have s02:=s1.trans s2
 have hh2:=hh1.same s2
 have lw:=ok.p.len_w .held rfl
 have ml:((ofW .held v.ps).map fun q=>V.ref q.1).length=(ofW .held v.ps).length:=length_map _
 refine za6 (xs:=(ofW .held v.ps).map fun q=>V.ref q.1) (tak (ofW .held v.ps) fun q=>decide (q.2.2.nm=r.nm)&&decide (q.2.2.came=v.t)) (itm (ofW .held v.ps) fun q=>V.ref q.1) (SqL.of hl.at_) ?_ ?_ (zaI (by rw [ml];omega)) (fun D H3 s3 nD hD=>?_)
 ·intro i x Hh Q' hx sh q'
  rw [getElem?_map] at hx
  cases ez:(ofW .held v.ps)[i]? with
  | none=>rw [ez] at hx;cases hx
  | some z=>
    rw [ez] at hx
    cases hx
    unfold tak at q'
    rw [ez] at q'
    obtain ⟨zdx,z1⟩:=(hl.pc z (mem_of_getElem? ez)).same sh
    obtain ⟨dx2,e2⟩:=(hh2.same sh).at_
    refine ⟨_,rfl,z.1,_,zdx,_,_,rfl,z1,(S.ow z.2.1).cl,S.n2 z.2.1,rfl,_,rfl,z.1,_,zdx,_,_,rfl,z1,(S.ow z.2.1).cl,S.n3 z.2.1,rfl,si2,fun p H4 s4 n4 h4=>?_⟩
    refine ⟨_,rfl,_,rfl,o,_,dx2,_,_,rfl,s4 _ _ e2,O.cl,T.Ax,rfl,si2,fun p' H5 s5 n5 h5=>?_⟩
    refine ⟨p,p',_,_,rfl,rfl,SqT.of (s5 _ _ h4),SqT.of h5,rfl,rfl,?_⟩
    have ev:eqVs [V.str z.2.2.nm,V.int z.2.2.came] [V.str r.nm,V.int v.t]=(decide (z.2.2.nm=r.nm)&&decide (z.2.2.came=v.t)):=by
     show ((z.2.2.nm==r.nm)&&((z.2.2.came==v.t)&&true))=_
     rw [Bool.and_true]
     rfl
    rw [ev]
    exact ⟨_,rfl,q' H5 (s4.trans s5)⟩
 ·intro i x Hh Q' hx _ sh q'
  rw [getElem?_map] at hx
  cases ez:(ofW .held v.ps)[i]? with
  | none=>rw [ez] at hx;cases hx
  | some z=>
    rw [ez] at hx
    cases hx
    have zz:=q' Hh (Same.refl _)
    unfold itm at zz
    rw [ez] at zz
    exact ⟨_,rfl,zz⟩
 rw [ml,zc3] at hD
 have hD:H3 D=some (.lst ((plL r.nm v.t v.ps).map fun q=>V.ref q.1)):=hD
 have s03:=s02.trans s3
 have hh3:=hh.same s03
 have e3:=s03 _ _ e
 refine ⟨_,rfl,D,_,rfl,.inl (SqL.of hD),_,_,rfl,rfl,_,rfl,?_⟩
 rcases h with ⟨i,q0,ys,pl,ei,lf,q⟩ | ⟨pl,h⟩
 ·rw [pl] at hD ⊢
  have hq:q0∈plL r.nm v.t v.ps:=by rw [pl];exact mem_cons_self
  have hw:=(zbF.mp (mem_filter.mp hq).1).2
  refine iteD (by simp) ?_
  refine ⟨_,rfl,o,_,dx,_,_,rfl,e3,rfl,Di,_,rfl,D,_,_,_,rfl,rfl,SqL.of hD,zjH (j:=0) rfl,o,v,i,q0,km,rfl,hh3,ok,s03 _ _ hT,ei,hw,lf,?_,hkm,ln,?_⟩
  ·intro x hx
   obtain ⟨l,us,a1,a2,a3⟩:=hn i x hx
   exact ⟨l,us,a1,s03 _ _ a2,a3⟩
  ·intro a l' l us u d Hd L g H' k hL hu hl lk hH hg
   refine q a l' l us u d Hd L g H' (fun c u c1 c2 hc=>k c u c1 c2 (s03 _ _ hc)) ?_ hu hl lk hH hg
   show LatOf Hd d v.h.toNat v.t (chV v.rs (wiP (a,Wd.waiting,q0.2.2) v.ps)) L
   rw [zqX (b:=(a,Wd.waiting,q0.2.2)) ok.p (mem_of_getElem? ei) ⟨rfl,by rw [hw];rfl⟩]
   exact hL
 rw [pl] at ⊢
 refine zgj (by simp) ?_
 obtain ⟨bdx,pw,pz,b1,b2,b3⟩:=hb.same (s2.trans s3)
 have SO:=T.Dw
 refine ⟨_,rfl,o,_,dx,_,_,rfl,e3,O.cl,T.Al,rfl,v.aP,_,rfl,.inl (SqL.of hh3.p.ps.at_),_,rfl,b,_,bdx,_,_,rfl,b1,SO.cl,T.BI,rfl,_,rfl,o,_,dx,_,_,rfl,e3,O.cl,T.Ax,rfl,_,rfl,b,_,bdx,_,_,rfl,b1,SO.cl,T.BK,rfl,_,rfl,b,_,bdx,_,_,rfl,b1,SO.cl,T.Bp,rfl,rfl,fun a adx H4 s4 n4 h4=>?_⟩
 have s04:=s03.trans s4
 have hh4:=hh.same s04
 have e4:=s04 _ _ e
 have ml2:(v.ps.map fun q=>V.ref q.1).length=v.ps.length:=length_map _
 have ha:IsPc (CsA.mk Ad Ab Aa) H4 a .waiting (pvOf r v.ps.length v.t):=⟨adx,by rw [h4,ml2];rfl⟩
 refine ⟨_,rfl,o,_,dx,_,_,rfl,e4,rfl,AF,_,rfl,o,v,tl,(a,.waiting,pvOf r v.ps.length v.t),rfl,hh4,ok,ht.same s04,ha,s04 _ _ hT,?_⟩
 rcases h with ⟨ch,qE⟩ | ⟨ch,okn,kp,lf,q⟩
 ·exact .inl ⟨ch,fun b H' s' hB=>qE b H' (s04.trans s') hB⟩
 refine .inr ⟨ch,okn a,kp a,fun g l' H5 k5 hH5 hg=>?_⟩
 obtain ⟨gdx,g1⟩:=id hg
 have ao:a≠o:=fun z=>by
  rw [z,e3] at n4
  cases n4
 obtain ⟨adx4,a4⟩:=id ha
 have a5:=k5 _ _ ao a4
 obtain ⟨dx5,e5⟩:=hH5.at_
 have ne:∀ {z:Addr} {u:HO},H z=some u->(∀C dx fs,u≠.ins C dx fs)->z≠o:=fun hz hu w=>by
  rw [w,e] at hz
  cases hz
  exact hu _ _ _ rfl
 have hT5:=k5 _ _ (ne hT fun _ _ _ w=>by cases w) (s04 _ _ hT)
 have ei5:(v.ps++[(a,Wd.waiting,pvOf r v.ps.length v.t)])[v.ps.length]?=some (a,Wd.waiting,pvOf r v.ps.length v.t):=by
  rw [getElem?_append_right (Nat.le_refl _),Nat.sub_self]
  rfl
 refine ⟨_,rfl,g,_,gdx,_,_,rfl,g1,rfl,AI,g,_,rfl,hg,_,rfl,iteT ?_⟩
 refine ⟨_,rfl,o,_,dx5,_,_,rfl,e5,rfl,Dx,_,rfl,a,_,adx4,_,_,rfl,a5,(S.ow .waiting).cl,S.n1 .waiting,rfl,o,_,v.ps.length,_,km,rfl,hH5,⟨okn a,ok.h0,ok.t0,ok.t1⟩,hT5,ei5,rfl,lf,?_,hkm,ln,?_⟩
 ·intro x hx
  obtain ⟨l,us,b1,b2,b3⟩:=hn _ x hx
  exact ⟨l,us,b1,k5 _ _ (ne b2 fun _ _ _ w=>by cases w) (s04 _ _ b2),b3⟩
 ·intro u d Hd L l us H6 sd hL hu k6 nl hl lk h6
  have g6:=k6 _ _ (fun w=>by have:=hH5.p.nb;rw [<-w,g1] at this;cases this) g1
  exact ⟨_,rfl,q a l' l us u d Hd L g H6 (fun c u c1 c2 hc=>k6 _ _ c2 (k5 _ _ c1 (s04 _ _ hc))) hL hu hl lk (hH5.put k6 h6) ⟨gdx,g6⟩⟩
theorem PsOk.gd {rs:List SR} {ps:List (Addr × Wd × Pv)} (h:PsOk rs ps):GdC (chV rs ps):=by
 refine ⟨fun k hk=>?_,?_⟩
 ·obtain ⟨q,hq,rfl⟩:=mem_map.mp hk
  have hq:=(mem_filter.mp hq).1
  obtain ⟨_,_,_,c0,c1⟩:=h.ok q hq
  exact zqU (h.n0 q hq) c0 c1 (h.ro _ (h.fd q hq).1)
 ·have e2:(chV rs ps).map (·.1.n)=(ps.filter fun q=>q.2.1.opn).map (·.2.2.n):=by
   unfold chV
   rw [map_map]
   rfl
  rw [e2]
  exact h.nd.sublist (filter_sublist.map _)
theorem PsOk.end_ {rs:List SR} {ps:List (Addr × Wd × Pv)} (h:PsOk rs ps) {hd:Nat} (h0:0<hd) (b:Int):∃N,(runN hd N b (bhC [] (chV rs ps))).2=[]:=
 zoW h0 fun k hk=>by
  obtain ⟨q,hq,rfl⟩:=mem_map.mp hk
  exact (h.ok q (mem_filter.mp hq).1).2.2.2.2
theorem zgX {rs:List SR} {ps:List (Addr × Wd × Pv)} {k:Cl × Int}:k∈chV rs ps↔∃q,q∈ps/\q.2.1.opn=true/\k=(clOf q.2.2 (zci rs q.2.2.nm).low,q.2.2.left q.2.1):=by
 unfold chV
 rw [mem_map]
 constructor
 ·rintro ⟨q,hq,e⟩
  exact ⟨q,(mem_filter.mp hq).1,(mem_filter.mp hq).2,e.symm⟩
 ·rintro ⟨q,h1,h2,e⟩
  exact ⟨q,mem_filter.mpr ⟨h1,h2⟩,e.symm⟩
theorem zn6 {r:SR}:zci [r] r.nm=r:=by
 unfold zci
 rw [List.find?_cons_of_pos (by simp)]
 rfl
structure Ones (r:SR) (ps:List (Addr × Wd × Pv)):Prop where
 ok:r.Ok
 sp:r.sp=1
 tr:r.tr=1
 pv:∀q,q∈ps->q.2.2.nm=r.nm/\q.2.2.span=1/\q.2.2.tries=1/\q.2.2.spent=0/\0<=q.2.2.came/\q.2.2.came<=400
 wt:∀q,q∈ps->q.2.1=.waiting->q.2.2.came=0
theorem Ones.twin {r:SR} {ps:List (Addr × Wd × Pv)} (h:Ones r ps) {c:Cl} (hc:c∈(chV [r] ps).map (·.1)) {p:Pv} (hp:p.nm=r.nm):Twin c (clOf p (zci [r] p.nm).low):=by
 obtain ⟨k,hk,rfl⟩:=mem_map.mp hc
 obtain ⟨q,hq,_,e⟩:=zgX.mp hk
 subst e
 have:=(h.pv q hq).1
 show Twin (clOf q.2.2 (zci [r] q.2.2.nm).low) _
 rw [this,hp]
 exact ⟨rfl,rfl,rfl,rfl⟩
theorem zlb {tl:Int->Int} {ps:List (Addr × Wd × Pv)} {n v:Int} (h:valI (tlL tl ps) n=some v):(∃q,q∈ps/\q.2.1=.waiting/\q.2.2.n=n)/\v=tl n:=by
 unfold valI tlL at h
 rw [Option.map_eq_some_iff] at h
 obtain ⟨z,hz,ez⟩:=h
 have h1:=List.mem_of_find?_eq_some hz
 have h2:=List.find?_some hz
 obtain ⟨q,hq,eq⟩:=mem_map.mp h1
 subst eq
 have h2:q.2.2.n=n:=by simpa using h2
 refine ⟨⟨q,(zbF.mp hq).1,(zbF.mp hq).2,h2⟩,?_⟩
 rw [<-ez,<-h2]
def KpF (h:Nat) (c:Ch) (tl:Int->Int) (ps:List (Addr × Wd × Pv)):Prop:=∀N,(runN h N 0 (bhC [] c)).2=[]->∀q,q∈ps->q.2.1=.waiting->∀u,valI (zbo (runN h N 0 (bhC [] c)).1 []) q.2.2.n=some u->u<=tl q.2.2.n
theorem KpF.kept {h:Nat} {c:Ch} {tl:Int->Int} {ps:List (Addr × Wd × Pv)} (k:KpF h c tl ps):Kept h 0 c (tlL tl ps):=fun N e=>zoX.mpr fun n v u e1 e2=>by
 obtain ⟨⟨q,hq,hw,en⟩,ev⟩:=zlb e1
 subst en
 rw [ev]
 exact k N e q hq hw u e2
theorem ztr {tl:Int->Int} {ps:List (Addr × Wd × Pv)} {q:Addr × Wd × Pv} (hq:q∈ps) (hw:q.2.1=.waiting):valI (tlL tl ps) q.2.2.n=some (tl q.2.2.n):=by
 obtain ⟨v,hv⟩:=zfX (show (q.2.2.n,tl q.2.2.n)∈tlL tl ps from mem_map.mpr ⟨q,zbF.mpr ⟨hq,hw⟩,rfl⟩)
 have hv:valI (tlL tl ps) q.2.2.n=some v:=hv
 rw [hv,(zlb hv).2]
theorem zjm {h:Nat} {c d:Ch} {k:Cl} {tl:Int->Int} {ps ps':List (Addr × Wd × Pv)} (gc:GdC c) (gd:GdC d) (tc:∀x,x∈c.map (·.1)->Twin x k) (td:∀x,x∈d.map (·.1)->Twin x k) (al:∀x v,tie x k=true->((x,v)∈c↔(x,v)∈d)) (en:∃N,(runN h N 0 (bhC [] c)).2=[]) (kp:KpF h c tl ps)
  (sub:∀q,q∈ps'->q.2.1=.waiting->(∃z,z∈ps/\z.2.1=.waiting/\z.2.2.n=q.2.2.n)/\∃x,x∈d.map (·.1)/\x.n=q.2.2.n/\tie x k=true):KpF h d tl ps':=fun N ed q hq hw u hu=>by
 refine zlG (tl:=tlL tl ps') gc gd tc td al en (fun N ec n v u e1 e2=>?_) (fun n v e1=>?_) N ed _ _ _ (ztr hq hw) hu
 ·obtain ⟨⟨q,hq,hw,en⟩,ev⟩:=zlb e1
  obtain ⟨⟨z,hz,zw,ez⟩,_⟩:=sub q hq hw
  rw [ev,<-en,<-ez]
  exact kp N ec z hz zw u (by rw [ez,en];exact e2)
 ·obtain ⟨⟨q,hq,hw,en⟩,ev⟩:=zlb e1
  obtain ⟨_,x,h1,h2,h3⟩:=sub q hq hw
  exact ⟨x,h1,by rw [h2,en],h3⟩
theorem zn7 {x k:Cl} (h:tie x k=true):x≠k:=fun e=>by
 rw [e] at h
 unfold tie at h
 rw [decide_eq_true_iff] at h
 omega
theorem zdm {b z:Addr × Wd × Pv} {ps:List (Addr × Wd × Pv)} (h:z∈wiP b ps):z=b\/(z∈ps/\z.2.2.n≠b.2.2.n):=by
 obtain ⟨q,hq,e⟩:=mem_map.mp h
 subst e
 by_cases c:q.2.2.n=b.2.2.n
 ·rw [if_pos c]
  exact .inl rfl
 ·rw [if_neg c]
  exact .inr ⟨hq,c⟩
theorem zsB {b z:Addr × Wd × Pv} {ps:List (Addr × Wd × Pv)} (h:z∈ps) (ne:z.2.2.n≠b.2.2.n):z∈wiP b ps:=mem_map.mpr ⟨z,h,by rw [if_neg ne]⟩
theorem Ones.left {r:SR} {ps:List (Addr × Wd × Pv)} (h:Ones r ps) {q:Addr × Wd × Pv} (hq:q∈ps) (op:q.2.1.opn=true):q.2.2.left q.2.1=1:=by
 obtain ⟨_,h1,h2,h3,_⟩:=h.pv q hq
 unfold Pv.left
 rw [if_pos op,h1,h2,h3]
 rfl
theorem Ones.add {r:SR} {ps:List (Addr × Wd × Pv)} (h:Ones r ps) {a:Addr} {d:Wd} {n:Nat} {c:Int} (c0:0<=c) (c1:c<=400) (w:d=.waiting->c=0):Ones r (ps++[(a,d,pvOf r n c)]):=by
 refine ⟨h.ok,h.sp,h.tr,fun q hq=>?_,fun q hq hw=>?_⟩
 ·rcases mem_append.mp hq with hq | hq
  ·exact h.pv q hq
  ·rw [mem_singleton.mp hq]
   exact ⟨rfl,h.sp,h.tr,rfl,c0,c1⟩
 ·rcases mem_append.mp hq with hq | hq
  ·exact h.wt q hq hw
  ·have e:=mem_singleton.mp hq
   subst e
   exact w hw
theorem zn8 {r:SR} {ps:List (Addr × Wd × Pv)} (h:Ones r ps) (p:PsOk [r] ps) (l:ps.length<200) (op:(ps.filter fun q=>q.2.1.opn).length<40) {a:Addr} {d:Wd} {c:Int} (c0:0<=c) (c1:c<=400):PsOk [r] (ps++[(a,d,pvOf r ps.length c)]):=by
 have l0:0<=(pvOf r ps.length c).left d/\(pvOf r ps.length c).left d<=12:=by
  unfold Pv.left pvOf
  show 0<=(if d.opn=true then r.tr*r.sp-0 else 0)/\(if d.opn=true then r.tr*r.sp-0 else 0)<=12
  rw [h.sp,h.tr]
  split
  ·decide
  ·decide
 refine p.add rfl l op ⟨⟨?_,?_,?_,?_⟩,l0.1,l0.2,c0,?_⟩ ?_
 ·exact h.ok.s0
 ·exact h.ok.s1
 ·exact h.ok.t1
 ·have:=h.ok.t0
  show 0<=r.tr
  omega
 ·show c<=1000
  omega
 ·show znL [r] r.nm (zci [r] r.nm)
  rw [zn6]
  exact ⟨mem_singleton.mpr rfl,rfl,fun s hs _=>mem_singleton.mp hs⟩
theorem PsOk.lt {rs:List SR} {ps:List (Addr × Wd × Pv)} (h:PsOk rs ps) {q:Addr × Wd × Pv} (hq:q∈ps):q.2.2.n<ps.length:=by
 obtain ⟨i,hi,e⟩:=getElem_of_mem hq
 have:=h.nm i q (by rw [getElem?_eq_getElem hi,e])
 omega
theorem zn9 {r:SR} {ps:List (Addr × Wd × Pv)} (h:Ones r ps) (p:PsOk [r] ps) {hd:Nat} (h0:0<hd) {tl:Int->Int} (kp:KpF hd (chV [r] ps) tl ps) {a:Addr} {d:Wd} (od:d.opn=true) {c:Int} (c0:0<=c) (c1:c<=400) (w:d=.waiting->c=0) (p':PsOk [r] (ps++[(a,d,pvOf r ps.length c)])):KpF hd (chV [r] (ps++[(a,d,pvOf r ps.length c)])) tl ps:=by
 have h':Ones r (ps++[(a,d,pvOf r ps.length c)]):=h.add c0 c1 w
 have gd:=p'.gd
 rw [zn5 (rs:=[r]) (ps:=ps) (b:=(a,d,pvOf r ps.length c)) od] at gd ⊢
 refine zjm (k:=clOf (pvOf r ps.length c) (zci [r] (pvOf r ps.length c).nm).low) p.gd gd (fun x hx=>h.twin hx rfl) (fun x hx=>?_) (fun x v hx=>?_) (p.end_ h0 0) kp (fun q hq hw=>⟨⟨q,hq,hw,rfl⟩,?_⟩)
 ·rw [<-zn5 (rs:=[r]) (ps:=ps) (b:=(a,d,pvOf r ps.length c)) od] at hx
  exact h'.twin hx rfl
 ·rw [mem_append]
  constructor
  ·exact .inl
  ·rintro (z | z)
   ·exact z
   ·exact (zn7 hx (congrArg Prod.fst (mem_singleton.mp z))).elim
 ·refine ⟨clOf q.2.2 (zci [r] q.2.2.nm).low,?_,rfl,?_⟩
  ·rw [map_append]
   exact mem_append_left _ (mem_map.mpr ⟨_,zgX.mpr ⟨q,hq,by rw [hw];rfl,rfl⟩,rfl⟩)
  ·have:=h.wt q hq hw
   have:=p.lt hq
   unfold tie
   rw [decide_eq_true_iff]
   show q.2.2.came<c\/(q.2.2.came=c/\q.2.2.n<(ps.length:Int))
   omega
theorem zpU {rs:List SR} {ps:List (Addr × Wd × Pv)} (p:PsOk rs ps) {q0:Addr × Wd × Pv} (hq:q0∈ps) (a:Addr):PsOk rs (wiP (a,.calledOff,q0.2.2) ps):=by
 have len:∀l:List (Addr × Wd × Pv),((wiP (a,.calledOff,q0.2.2) l).filter fun q=>q.2.1.opn).length<=(l.filter fun q=>q.2.1.opn).length:=fun l=>by
  induction l with
  | nil=>exact Nat.le_refl _
  | cons x l ih=>
    show (((if x.2.2.n=q0.2.2.n then (a,Wd.calledOff,q0.2.2) else x)::wiP (a,.calledOff,q0.2.2) l).filter fun q=>q.2.1.opn).length<=_
    by_cases c:x.2.2.n=q0.2.2.n
    ·rw [if_pos c,filter_cons,if_neg (fun z=>by cases z),filter_cons]
     split
     ·rw [length_cons]
      omega
     ·exact ih
    ·rw [if_neg c,filter_cons,filter_cons]
     split
     ·rw [length_cons,length_cons]
      omega
     ·exact ih
 refine ⟨p.rl,p.ro,fun i z hz=>?_,fun z hz=>?_,fun z hz=>?_,?_,?_⟩
 ·rw [zqW (q:=q0)] at hz
  cases e:ps[i]? with
  | none=>rw [e] at hz;cases hz
  | some q=>
    rw [e] at hz
    have hz:(if q.2.2.n=q0.2.2.n then (a,Wd.calledOff,q0.2.2) else q)=z:=Option.some.inj hz
    have:=p.nm i q e
    rw [<-hz]
    by_cases c:q.2.2.n=q0.2.2.n
    ·rw [if_pos c]
     show q0.2.2.n=i
     omega
    ·rw [if_neg c]
     exact this
 ·rcases zdm hz with rfl | ⟨hz,_⟩
  ·obtain ⟨h1,_,_,h4,h5⟩:=p.ok q0 hq
   exact ⟨h1,Int.le_refl _,by show (0:Int)<=12;decide,h4,h5⟩
  ·exact p.ok z hz
 ·rcases zdm hz with rfl | ⟨hz,_⟩
  ·exact p.fd q0 hq
  ·exact p.fd z hz
 ·unfold wiP
  rw [length_map]
  exact p.len
 ·exact Nat.le_trans (len ps) p.op
theorem Ones.wi {r:SR} {ps:List (Addr × Wd × Pv)} (h:Ones r ps) {q0:Addr × Wd × Pv} (hq:q0∈ps) (a:Addr) (d:Wd) (w:d=.waiting->q0.2.2.came=0):Ones r (wiP (a,d,q0.2.2) ps):=by
 refine ⟨h.ok,h.sp,h.tr,fun z hz=>?_,fun z hz hw=>?_⟩
 ·rcases zdm hz with rfl | ⟨hz,_⟩
  ·exact h.pv q0 hq
  ·exact h.pv z hz
 ·rcases zdm hz with rfl | ⟨hz,_⟩
  ·exact w hw
  ·exact h.wt z hz hw
theorem zqY {r:SR} {ps:List (Addr × Wd × Pv)} (h:Ones r ps) (p:PsOk [r] ps) {hd:Nat} (h0:0<hd) {tl:Int->Int} (kp:KpF hd (chV [r] ps) tl ps) {q0:Addr × Wd × Pv} (hq:q0∈ps) (w0:q0.2.1=.waiting) (last:∀z,z∈ps->z.2.1=.waiting->z.2.2.n<=q0.2.2.n) (a:Addr):KpF hd (chV [r] (wiP (a,.calledOff,q0.2.2) ps)) tl (wiP (a,.calledOff,q0.2.2) ps):=by
 have h':Ones r (wiP (a,.calledOff,q0.2.2) ps):=h.wi hq a .calledOff fun z=>by cases z
 have p':=zpU p hq a
 refine zjm (k:=clOf q0.2.2 (zci [r] q0.2.2.nm).low) p.gd p'.gd (fun x hx=>h.twin hx (h.pv q0 hq).1) (fun x hx=>h'.twin hx (h.pv q0 hq).1) (fun x v hx=>?_) (p.end_ h0 0) kp (fun q hq' hw=>?_)
 ·rw [zgX,zgX]
  constructor
  ·rintro ⟨z,z1,z2,z3⟩
   refine ⟨z,zsB z1 fun e=>?_,z2,z3⟩
   have:z=q0:=p.one z1 hq e
   subst this
   exact zn7 hx (congrArg Prod.fst z3)
  ·rintro ⟨z,z1,z2,z3⟩
   rcases zdm z1 with rfl | ⟨z1,_⟩
   ·cases z2
   ·exact ⟨z,z1,z2,z3⟩
 ·rcases zdm hq' with rfl | ⟨z1,ne⟩
  ·cases hw
  ·refine ⟨⟨q,z1,hw,rfl⟩,clOf q.2.2 (zci [r] q.2.2.nm).low,mem_map.mpr ⟨_,zgX.mpr ⟨q,hq',by rw [hw];rfl,rfl⟩,rfl⟩,rfl,?_⟩
   have a1:=h.wt q z1 hw
   have a2:=h.wt q0 hq w0
   have a3:=last q z1 hw
   have ne:q.2.2.n≠q0.2.2.n:=ne
   unfold tie
   rw [decide_eq_true_iff]
   show q.2.2.came<q0.2.2.came\/(q.2.2.came=q0.2.2.came/\q.2.2.n<q0.2.2.n)
   omega
theorem zph {H:Hp} {d:Addr} {h:Nat} {c:Ch} {L:List (Int × Int)} (gc:GdC c) (l:LatOf H d h 0 c L) {N:Nat} {n u w:Int} (hu:valI L n=some u) (hw:valI (zbo (runN h N 0 (bhC [] c)).1 []) n=some w):w<=u:=by
 obtain ⟨M,e1,e2,_⟩:=l.ex
 have hx:∃x,x∈(bhC [] c).map (·.1)/\x.n=n:=by
  rcases zem hw with y | ⟨r,hr,_,hj⟩
  ·cases y
  obtain ⟨m,_,e⟩:=zhQ hr
  subst e
  obtain ⟨y,hy,ey,_⟩:=(zgy (zfw (gc.bh []) m)).mp hj
  obtain ⟨v,hv,_,_⟩:=zdI.mp hy
  exact ⟨y,(zeo m).subset (mem_map.mpr ⟨_,hv,rfl⟩),ey⟩
 obtain ⟨x,hx,ex⟩:=hx
 obtain ⟨w',h1,h2⟩:=zhy (P:=fun _=>True) (gc.bh []) (gc.bh []) (fun _ _ _ _ _ _=>trivial) (fun _ _ _ _ _ _=>trivial) (fun _ _ _=>Iff.rfl) e2 (p:=trivial) hx (u:=w) (N':=N) (by rw [ex];exact hw)
 rw [ex,<-e1,hu] at h1
 cases h1
 exact h2
structure HI (cs:CsA) (cS cH tT:Addr) (H:Hp) (o:Addr) (v:Hv) (tl:Int->Int) (r:SR) (km:Nat):Prop where
 hh:IsHs cs cS cH H o v
 hT:H tT=some (.tbl zbc lamQ)
 rs:v.rs=[r]
 t:v.t=0
 h0:0<v.h
 p:PsOk v.rs v.ps
 ht:TlP H v tl
 nb:∀n,NbP H v n km
 nl:v.nb.length<=km
 kp:KpF v.h.toNat (chV v.rs v.ps) tl v.ps
 on:Ones r v.ps
theorem HI.same {cs:CsA} {cS cH tT:Addr} {H H':Hp} {o:Addr} {v:Hv} {tl:Int->Int} {r:SR} {km:Nat} (s:Same H H') (h:HI cs cS cH tT H o v tl r km):HI cs cS cH tT H' o v tl r km:=
 ⟨h.hh.same s,s _ _ h.hT,h.rs,h.t,h.h0,h.p,h.ht.same s,fun n x e=>let ⟨l,us,a,b,c⟩:=h.nb n x e;⟨l,us,a,s _ _ b,c⟩,h.nl,h.kp,h.on⟩
theorem HI.ok {cs:CsA} {cS cH tT:Addr} {H:Hp} {o:Addr} {v:Hv} {tl:Int->Int} {r:SR} {km:Nat} (h:HI cs cS cH tT H o v tl r km):HvOk v:=⟨h.p,h.h0,by rw [h.t];decide,by rw [h.t];decide⟩
def Lsts (H H':Hp):Prop:=∀l xs,H l=some (.lst xs)->H' l=some (.lst xs)
theorem zfo {cs:CsA} {cS cH o:Addr} {H H':Hp} {v:Hv} (h:IsHs cs cS cH H o v) (k:But2 o v.aN H H'):Lsts H H'/\∀z g q,H z=some (.tbl g q)->H' z=some (.tbl g q):=by
 obtain ⟨dx,e⟩:=h.at_
 have n:=h.p.nb
 exact ⟨fun l xs hl=>k _ _ (fun z=>by rw [z,e] at hl;cases hl) (fun z=>by rw [z,n] at hl;cases hl) hl,fun l g q hl=>k _ _ (fun z=>by rw [z,e] at hl;cases hl) (fun z=>by rw [z,n] at hl;cases hl) hl⟩
theorem But.two {a b:Addr} {H H':Hp} (k:But a H H'):But2 a b H H':=fun c u ca _ h=>k c u ca h
theorem HI.step {cs:CsA} {cS cH tT:Addr} {H H':Hp} {o:Addr} {v:Hv} {tl:Int->Int} {r:SR} {km:Nat} (h:HI cs cS cH tT H o v tl r km) (k:But o H H') {ps':List (Addr × Wd × Pv)} {l':Addr} (hh':IsHs cs cS cH H' o { v with ps:=ps',aP:=l' }) (p':PsOk v.rs ps') (on':Ones r ps') (kp':KpF v.h.toNat (chV v.rs ps') tl ps') (sub:∀q,q∈ps'->q.2.1=.waiting->∃z,z∈v.ps/\z.2.1=.waiting/\z.2.2.n=q.2.2.n):HI cs cS cH tT H' o { v with ps:=ps',aP:=l' } tl r km:=by
 obtain ⟨ls,tb⟩:=zfo h.hh (But.two k)
 refine ⟨hh',tb _ _ _ h.hT,h.rs,h.t,h.h0,p',fun q hq hw=>?_,fun n x e=>?_,h.nl,kp',on'⟩
 ·obtain ⟨z,z1,z2,z3⟩:=sub q hq hw
  obtain ⟨l,us,a,b⟩:=h.ht z z1 z2
  rw [z3] at a b
  exact ⟨l,us,a,ls _ _ b⟩
 ·obtain ⟨l,us,a,b,c⟩:=h.nb n x e
  exact ⟨l,us,a,ls _ _ b,c⟩
theorem HI.told {cs:CsA} {cS cH tT:Addr} {H H':Hp} {o:Addr} {v:Hv} {tl:Int->Int} {r:SR} {km:Nat} (h:HI cs cS cH tT H o v tl r km) (k:But2 o v.aN H H') {ps':List (Addr × Wd × Pv)} {l' l:Addr} {us:List Int} {u:Int} {i:Nat} {d:Addr} {Hd:Hp} {L:List (Int × Int)} (hL:LatOf Hd d v.h.toNat v.t (chV v.rs ps') L) (hu:valI L i=some u) (hl:H' l=some (.lst ((us++[u]).map V.int))) (lk:us.length<=km)
  (hh':IsHs cs cS cH H' o { v with ps:=ps',aP:=l',nb:=putK v.nb (.inl (i:Int)) (.ref l) }) (p':PsOk v.rs ps') (on':Ones r ps') (kp':KpF v.h.toNat (chV v.rs ps') tl v.ps) (sub:∀q,q∈ps'->q.2.1=.waiting->q.2.2.n≠i->q∈v.ps):HI cs cS cH tT H' o { v with ps:=ps',aP:=l',nb:=putK v.nb (.inl (i:Int)) (.ref l) } (fun n=>if n=i then u else tl n) r (km+1):=by
 obtain ⟨ls,tb⟩:=zfo h.hh k
 refine ⟨hh',tb _ _ _ h.hT,h.rs,h.t,h.h0,p',fun q hq hw=>?_,fun n x e=>?_,?_,fun N en q hq hw w hw'=>?_,on'⟩
 ·by_cases c:q.2.2.n=i
  ·refine ⟨l,us,?_,?_⟩
   ·show valV (putK v.nb _ _) _=_
    rw [zfR,if_pos (by rw [c])]
   ·show H' l=some (.lst ((us++[if q.2.2.n=i then u else tl q.2.2.n]).map V.int))
    rw [if_pos c]
    exact hl
  ·obtain ⟨m,ws,a,b⟩:=h.ht q (sub q hq hw c) hw
   refine ⟨m,ws,?_,?_⟩
   ·show valV (putK v.nb _ _) _=_
    rw [zfR,if_neg (fun z=>c (Sum.inl.inj z))]
    exact a
   ·show H' m=some (.lst ((ws++[if q.2.2.n=i then u else tl q.2.2.n]).map V.int))
    rw [if_neg c]
    exact ls _ _ b
 ·have e:valV (putK v.nb (.inl (i:Int)) (.ref l)) (.inl n)=some x:=e
  rw [zfR] at e
  by_cases c:n=i
  ·rw [if_pos (by rw [c])] at e
   cases e
   refine ⟨l,us++[u],rfl,hl,?_⟩
   rw [length_append]
   show us.length+1<=km+1
   omega
  ·rw [if_neg (fun z=>c (Sum.inl.inj z))] at e
   obtain ⟨m,ws,a,b,c⟩:=h.nb n x e
   exact ⟨m,ws,a,ls _ _ b,by omega⟩
 ·have:=zqM v.nb (.inl (i:Int)) (.ref l)
  have:=h.nl
  show (putK v.nb (.inl (i:Int)) (.ref l)).length<=km+1
  omega
 ·show w<=(if q.2.2.n=i then u else tl q.2.2.n)
  by_cases c:q.2.2.n=i
  ·rw [if_pos c]
   rw [h.t] at hL
   rw [c] at hw'
   exact zph p'.gd hL hu hw'
  ·rw [if_neg c]
   exact kp' N en q (sub q hq hw c) hw w hw'
def HiQ (cs:CsA) (cS cH cG tT:Addr) (H:Hp) (o:Addr) (r:SR) (km:Nat) (ps':Addr->List (Addr × Wd × Pv)) (n:Int) (Q:VK):Prop:=
 ∀a g v' tl' H',HI cs cS cH tT H' o v' tl' r km->v'.ps=ps' a->IsGr cG H' g (.int n)->Lsts H H'->Q (.ref g) H'
theorem HI.mem {cs:CsA} {cS cH tT:Addr} {H:Hp} {o:Addr} {v:Hv} {tl:Int->Int} {r:SR} {km:Nat} (h:HI cs cS cH tT H o v tl r km):r∈v.rs/\∀s,s∈v.rs->s.nm=r.nm->s=r:=by
 rw [h.rs]
 exact ⟨mem_singleton.mpr rfl,fun s hs _=>mem_singleton.mp hs⟩
theorem HI.pr {cs:CsA} {cS cH tT:Addr} {H:Hp} {o:Addr} {v:Hv} {tl:Int->Int} {r:SR} {km:Nat} (h:HI cs cS cH tT H o v tl r km):PsOk [r] v.ps:=by
 rw [<-h.rs]
 exact h.p
theorem HI.kr {cs:CsA} {cS cH tT:Addr} {H:Hp} {o:Addr} {v:Hv} {tl:Int->Int} {r:SR} {km:Nat} (h:HI cs cS cH tT H o v tl r km):KpF v.h.toNat (chV [r] v.ps) tl v.ps:=by
 rw [<-h.rs]
 exact h.kp
theorem HI.hN {cs:CsA} {cS cH tT:Addr} {H:Hp} {o:Addr} {v:Hv} {tl:Int->Int} {r:SR} {km:Nat} (h:HI cs cS cH tT H o v tl r km):0<v.h.toNat:=by
 have:=h.h0
 omega
theorem zsC {ps:List (Addr × Wd × Pv)} {b q:Addr × Wd × Pv} (hq:q∈ps++[b]) (nb:q.2.2.n≠b.2.2.n):q∈ps:=by
 rcases mem_append.mp hq with h | h
 ·exact h
 ·exact (nb (by rw [mem_singleton.mp h])).elim
theorem HI.hold {cs:CsA} {cS cH cG cN cTn cM tT:Addr} {H:Hp} {o:Addr} {v:Hv} {tl:Int->Int} {r:SR} {km:Nat} (h:HI cs cS cH tT H o v tl r km) {c:Int} (c0:0<=c) (c1:c<=400) (l:v.ps.length<200) (op:(v.ps.filter fun q=>q.2.1.opn).length<40) {nm:Str} (en:r.nm=nm) {Q:VK} {E:XK} (q:HiQ cs cS cH cG tT H o r km (fun a=>v.ps++[(a,.held,pvOf r v.ps.length c)]) v.ps.length Q):zgW K cs cS cH cG cN cTn cM tT [.ref o,.str nm,.int c] H Q E:=by
 subst en
 have okn:∀a,PsOk [r] (v.ps++[(a,.held,pvOf r v.ps.length c)]):=fun a=>zn8 h.on h.pr l op c0 c1
 have kpn:∀a,KpF v.h.toNat (chV [r] (v.ps++[(a,.held,pvOf r v.ps.length c)])) tl v.ps:=fun a=>zn9 h.on h.pr h.hN h.kr rfl c0 c1 (fun z=>by cases z) (okn a)
 refine ⟨o,v,tl,_,_,rfl,h.hh,h.ok,h.ht,h.hT,.inr ⟨r,h.mem.1,rfl,h.mem.2,.inr ⟨c,rfl,by rw [h.t];exact c0,by rw [h.t];omega,.inr ⟨op,fun a=>?_,fun a=>?_,fun a g l' H' k na hh' hg=>?_⟩⟩⟩⟩
 ·rw [h.rs]
  exact okn a
 ·rw [h.rs,h.t]
  exact (kpn a).kept
 ·have st:∀z,z∈v.ps++[(a,Wd.held,pvOf r v.ps.length c)]->z.2.1=.waiting->z∈v.ps:=fun z hz hw=>by
   rcases mem_append.mp hz with hz | hz
   ·exact hz
   ·rw [mem_singleton.mp hz] at hw
    cases hw
  refine q a g _ tl H' (h.step k hh' ?_ (h.on.add c0 c1 fun z=>by cases z) ?_ fun z hz hw=>⟨z,st z hz hw,hw,rfl⟩) rfl hg (zfo h.hh (But.two k)).1
  ·rw [h.rs]
   exact okn a
  ·rw [h.rs]
   exact fun N en z hz hw u hu=>kpn a N en z (st z hz hw) hw u hu
theorem HI.hold_full {cs:CsA} {cS cH cG cN cTn cM tT:Addr} {H:Hp} {o:Addr} {v:Hv} {tl:Int->Int} {r:SR} {km:Nat} (h:HI cs cS cH tT H o v tl r km) {c:Int} (c0:0<=c) (c1:c<=400) (op:(v.ps.filter fun q=>q.2.1.opn).length=40) {nm:Str} (en:r.nm=nm) {Q:VK} {E:XK} (q:∀a H',Same H H'->Bare H' a cM->E (.ref cM) (some a) H'):zgW K cs cS cH cG cN cTn cM tT [.ref o,.str nm,.int c] H Q E:=by
 subst en
 exact ⟨o,v,tl,_,_,rfl,h.hh,h.ok,h.ht,h.hT,.inr ⟨r,h.mem.1,rfl,h.mem.2,.inr ⟨c,rfl,by rw [h.t];exact c0,by rw [h.t];omega,.inl ⟨op,q⟩⟩⟩⟩
theorem HI.hold_no {cs:CsA} {cS cH cG cN cTn cM tT:Addr} {H:Hp} {o:Addr} {v:Hv} {tl:Int->Int} {r:SR} {km:Nat} (h:HI cs cS cH tT H o v tl r km) {c:Int} (c1:c<0\/400<c) {nm:Str} (en:r.nm=nm) {Q:VK} {E:XK} (q:∀a H',Same H H'->Told K H' a cTn "turn" (.int c)->E (.ref cTn) (some a) H'):zgW K cs cS cH cG cN cTn cM tT [.ref o,.str nm,.int c] H Q E:=by
 subst en
 refine ⟨o,v,tl,_,_,rfl,h.hh,h.ok,h.ht,h.hT,.inr ⟨r,h.mem.1,rfl,h.mem.2,.inl ⟨.inl ⟨c,rfl,?_⟩,q⟩⟩⟩
 rw [h.t]
 rcases c1 with c1 | c1
 ·rw [decide_eq_false (by omega)]
  rfl
 ·rw [decide_eq_false (show ¬c<=0+400 by omega),Bool.and_false]
theorem HI.come {cs:CsA} {cS cH cG cN cM tT:Addr} {H:Hp} {o:Addr} {v:Hv} {tl:Int->Int} {r:SR} {km:Nat} (h:HI cs cS cH tT H o v tl r km) (hk:km<=1000) (l:v.ps.length<200) (op:(v.ps.filter fun q=>q.2.1.opn).length<40) (pl:plL r.nm 0 v.ps=[]) {nm:Str} (en:r.nm=nm) {Q:VK} {E:XK} (q:HiQ cs cS cH cG tT H o r (km+1) (fun a=>v.ps++[(a,.waiting,pvOf r v.ps.length 0)]) v.ps.length Q):zeA K cs cS cH cG cN cM tT [.ref o,.str nm] H Q E:=by
 subst en
 have okn:∀a,PsOk [r] (v.ps++[(a,.waiting,pvOf r v.ps.length 0)]):=fun a=>zn8 h.on h.pr l op (by decide) (by decide)
 have kpn:∀a,KpF v.h.toNat (chV [r] (v.ps++[(a,.waiting,pvOf r v.ps.length 0)])) tl v.ps:=fun a=>zn9 h.on h.pr h.hN h.kr rfl (by decide) (by decide) (fun _=>rfl) (okn a)
 have nl:=h.nl
 refine ⟨o,v,tl,_,km,rfl,h.hh,h.ok,h.ht,h.hT,h.nb,hk,by omega,.inr ⟨r,h.mem.1,rfl,h.mem.2,.inr ⟨by rw [h.t];exact pl,.inr ⟨op,fun a=>?_,fun a=>?_,?_,fun a l' l us u d Hd L g H' k hL hu hl lk hh' hg=>?_⟩⟩⟩⟩
 ·rw [h.rs,h.t]
  exact okn a
 ·rw [h.rs,h.t]
  exact (kpn a).kept
 ·unfold Pv.left pvOf
  show 0<(if Wd.waiting.opn=true then r.tr*r.sp-0 else 0)
  rw [h.on.sp,h.on.tr]
  decide
 ·rw [h.t] at hL hh'
  have hL:LatOf Hd d v.h.toNat v.t (chV v.rs (v.ps++[(a,Wd.waiting,pvOf r v.ps.length 0)])) L:=by
   rw [h.t]
   exact hL
  have hh':IsHs cs cS cH H' o { v with ps:=v.ps++[(a,Wd.waiting,pvOf r v.ps.length 0)],aP:=l',nb:=putK v.nb (.inl (v.ps.length:Int)) (.ref l) }:=by
   have e:({ v with ps:=v.ps++[(a,Wd.waiting,pvOf r v.ps.length 0)],aP:=l',nb:=putK v.nb (.inl (v.ps.length:Int)) (.ref l) }:Hv) = { rs:=v.rs,h:=v.h,t:=0,ps:=v.ps++[(a,Wd.waiting,pvOf r v.ps.length 0)],nb:=putK v.nb (.inl (v.ps.length:Int)) (.ref l),aS:=v.aS,aP:=l',aN:=v.aN,aR:=v.aR }:=by
    rw [<-h.t]
   rw [e]
   exact hh'
  refine q a g _ _ H' (h.told k hL hu hl lk hh' ?_ (h.on.add (by decide) (by decide) fun _=>rfl) ?_ fun z hz hw ne=>zsC hz ne) rfl hg (zfo h.hh k).1
  ·rw [h.rs]
   exact okn a
  ·rw [h.rs]
   exact kpn a
theorem HI.come_place {cs:CsA} {cS cH cG cN cM tT:Addr} {H:Hp} {o:Addr} {v:Hv} {tl:Int->Int} {r:SR} {km:Nat} (h:HI cs cS cH tT H o v tl r km) (hk:km<=1000) {q0:Addr × Wd × Pv} {ys:List (Addr × Wd × Pv)} (pl:plL r.nm 0 v.ps=q0::ys) {i:Nat} (ei:v.ps[i]?=some q0) {nm:Str} (en:r.nm=nm) {Q:VK} {E:XK} (q:HiQ cs cS cH cG tT H o r (km+1) (fun a=>wiP (a,.waiting,q0.2.2) v.ps) i Q):zeA K cs cS cH cG cN cM tT [.ref o,.str nm] H Q E:=by
 subst en
 have nl:=h.nl
 have hm:=mem_of_getElem? ei
 have hq:q0∈plL r.nm 0 v.ps:=by rw [pl];exact mem_cons_self
 obtain ⟨h1,h2⟩:=mem_filter.mp hq
 have hw:=(zbF.mp h1).2
 have hc:q0.2.2.came=0:=of_decide_eq_true ((Bool.and_eq_true _ _).mp h2).2
 have al:∀a:Addr,Alike (a,.waiting,q0.2.2) q0:=fun a=>⟨rfl,by rw [hw];rfl⟩
 refine ⟨o,v,tl,_,km,rfl,h.hh,h.ok,h.ht,h.hT,h.nb,hk,by omega,.inr ⟨r,h.mem.1,rfl,h.mem.2,.inl ⟨i,q0,ys,by rw [h.t];exact pl,ei,by rw [h.on.left hm (by rw [hw];rfl)];decide,fun a l' l us u d Hd L g H' k hL hu hl lk hh' hg=>?_⟩⟩⟩
 have en:=h.p.nm i q0 ei
 refine q a g _ _ H' (h.told k hL hu hl lk hh' (zsz h.p hm (al a)) (h.on.wi hm a .waiting fun _=>hc) ?_ fun z hz hw ne=>?_) rfl hg (zfo h.hh k).1
 ·rw [zqX h.p hm (al a)]
  exact h.kp
 ·rcases zdm hz with rfl | ⟨hz,_⟩
  ·exact (ne en).elim
  ·exact hz
theorem HI.come_full {cs:CsA} {cS cH cG cN cM tT:Addr} {H:Hp} {o:Addr} {v:Hv} {tl:Int->Int} {r:SR} {km:Nat} (h:HI cs cS cH tT H o v tl r km) (hk:km<=1000) (op:(v.ps.filter fun q=>q.2.1.opn).length=40) (pl:plL r.nm 0 v.ps=[]) {nm:Str} (en:r.nm=nm) {Q:VK} {E:XK} (q:∀a H',Same H H'->Bare H' a cM->E (.ref cM) (some a) H'):zeA K cs cS cH cG cN cM tT [.ref o,.str nm] H Q E:=by
 subst en
 have nl:=h.nl
 exact ⟨o,v,tl,_,km,rfl,h.hh,h.ok,h.ht,h.hT,h.nb,hk,by omega,.inr ⟨r,h.mem.1,rfl,h.mem.2,.inr ⟨by rw [h.t];exact pl,.inl ⟨op,q⟩⟩⟩⟩
theorem HI.come_no {cs:CsA} {cS cH cG cN cM tT:Addr} {H:Hp} {o:Addr} {v:Hv} {tl:Int->Int} {r:SR} {km:Nat} (h:HI cs cS cH tT H o v tl r km) (hk:km<=1000) {x:V} (hn:NoNm K H [r] x) {Q:VK} {E:XK} (q:∀b H',Same H H'->Told K H' b cN "name" x->E (.ref cN) (some b) H'):zeA K cs cS cH cG cN cM tT [.ref o,x] H Q E:=
 have nl:=h.nl
 ⟨o,v,tl,_,km,rfl,h.hh,h.ok,h.ht,h.hT,h.nb,hk,by omega,.inl ⟨by rw [h.rs];exact hn,q⟩⟩
theorem HI.off {cs:CsA} {cS cH tT:Addr} {H:Hp} {o:Addr} {v:Hv} {tl:Int->Int} {r:SR} {km:Nat} (h:HI cs cS cH tT H o v tl r km) {i:Nat} {q0:Addr × Wd × Pv} (ei:v.ps[i]?=some q0) (w0:q0.2.1=.waiting) (last:∀z,z∈v.ps->z.2.1=.waiting->z.2.2.n<=q0.2.2.n) {Q:VK} {E:XK} (q:∀a v' H',HI cs cS cH tT H' o v' tl r km->v'.ps=wiP (a,.calledOff,q0.2.2) v.ps->Lsts H H'->Q .non H'):zgV cs cS cH [.ref o,.int i] H Q E:=by
 have hm:=mem_of_getElem? ei
 refine ⟨o,v,i,q0,rfl,h.hh,h.p.len,ei,by rw [w0];rfl,fun a l' H' k hh'=>?_⟩
 refine q a _ H' (h.step k hh' (zpU h.p hm a) (h.on.wi hm a .calledOff fun z=>by cases z) ?_ fun z hz hw=>?_) rfl (zfo h.hh (But.two k)).1
 ·rw [h.rs]
  exact zqY h.on h.pr h.hN h.kr hm w0 last a
 ·rcases zdm hz with rfl | ⟨hz,_⟩
  ·cases hw
  ·exact ⟨z,hz,hw,rfl⟩
theorem New.hi {cs:CsA} {cS cH tT:Addr} {H:Hp} {o:Addr} {v:Hv} {r:SR} {h:Int} (hh:IsHs cs cS cH H o v) (hT:H tT=some (.tbl zbc lamQ)) (n:New v [r] h) (h0:0<h) (ok:r.Ok) (sp:r.sp=1) (tr:r.tr=1):HI cs cS cH tT H o v (fun _=>0) r 0:=by
 refine ⟨hh,hT,n.rs,n.t,by rw [n.h];exact h0,?_,?_,?_,by rw [n.nb];exact Nat.le_refl _,?_,?_⟩
 ·rw [n.rs,n.ps]
  exact ⟨by show (1:Nat)<=8;decide,fun s hs=>by rw [mem_singleton.mp hs];exact ok,fun i q e=>by simp at e,fun q hq=>by simp at hq,fun q hq=>by simp at hq,by decide,by decide⟩
 ·intro q hq
  rw [n.ps] at hq
  simp at hq
 ·intro m x e
  rw [n.nb] at e
  cases e
 ·intro N e q hq
  rw [n.ps] at hq
  simp at hq
 ·rw [n.ps]
  exact ⟨ok,sp,tr,fun q hq=>by simp at hq,fun q hq=>by simp at hq⟩
def zka:Sp:=fun vs H Q _=>∃x k m:Int,vs=[.int x,.int k,.int m]/\0<=k/\0<m/\∀r:Int,0<=r->r<m->Q (.int r) H
def mixA (x k:Int):Int:=(x % 2147483647+7919*k)*48271 % 2147483647
def mixB (x k:Int):Int:=mixA x k*mixA x k % 2147483629
def mixI (x k:Int):Int:=(mixB x k*mixB x k+12345*mixB x k+k) % 2147483587
def zjn:Sp:=fun vs H Q _=>∃x k:Int,vs=[.int x,.int k]/\0<=k/\∀r:Int,0<=r->r=mixI x k->Q (.int r) H
def zpV (K:W.Frag):Sp:=fun vs H Q _=>∃(a:Addr) (ns:List Int) (k:Int),vs=[.ref a,.int k]/\SqL K H a (ns.map V.int)/\0<=k/\∀v:Int,Q (.int v) H
def zid:Sp:=fun vs H Q _=>∃x k:Int,vs=[.int x,.int k]/\0<=k/\∀p H' t b,Same H H'->IsW H' p t b->Q (.ref p) H'
theorem pow6:(10:Int) ^ (6:Int).toNat=1000000:=by decide
theorem zkb:FnScope pl23 pl23 (zac ze1):=fsc
include T in
theorem zkc (D:Dfn K mg "_law_cell" ze1 pl23 f fd):Cal P w K mg bf "_law_cell" 1 pl23 (zpV K):=by
 refine D.cal (D.F.ok zkb (fun vs H Q E h=>?_) (fun cdv A outer s H vs Q E hr h=>?_))
 ·obtain ⟨a,ns,k,rfl,_⟩:=h
  rfl
 obtain ⟨a,ns,k,rfl,hS,k0,q⟩:=h
 refine ⟨_,(zag (za9 (zaE zsP (pv 1) (zar zaF rfl T.zdS zck (zaa (pv 0) zae)) (zaJ _)) (zaf (zak (zaH zeH (pv 0) (pv 1) (fun _ _=>rfl)))) zaC)
  (zaf (zak (zaD zbY (zaD zcv zad (pv 1)) zad)))),?_⟩
 refine ⟨_,rfl,_,rfl,a,_,rfl,.inl hS,_,_,rfl,rfl,_,rfl,?_⟩
 refine ite2 (fun c=>?_) (fun c=>?_)
 ·have c':k<(((ns.map V.int).length:Nat):Int):=of_decide_eq_true c
  rw [length_map] at c'
  have hk:k.toNat<ns.length:=by omega
  have z:atI (ns.map V.int) ((k.toNat:Nat):Int)=some (.int ns[k.toNat]):=zjH (by rw [getElem?_map,getElem?_eq_getElem hk]<;>rfl)
  rw [show ((k.toNat:Nat):Int)=k by omega] at z
  exact ⟨_,rfl,_,rfl,a,_,_,_,rfl,rfl,hS,z,q _⟩
 ·exact ⟨_,rfl,_,_,rfl,rfl,.inl ⟨by decide,by decide⟩,_,_,rfl,rfl,q _⟩
theorem zfp:FnScope ["_law_cell_here","_law_k","_law_number"] pl24 (zac zgC):=fsc
include T in
theorem zlR (D:Dfn K mg "_law_mix" zgC pl24 f fd):Cal P w K mg bf "_law_mix" 1 pl24 zjn:=by
 refine D.cal (D.F.ok zfp (fun vs H Q E h=>?_) (fun cdv A outer s H vs Q E hr h=>?_))
 ·obtain ⟨x,k,rfl,_⟩:=h
  rfl
 obtain ⟨x,k,rfl,k0,q⟩:=h
 refine ⟨_,(zag (zaz (i:=2) zfp.nd rfl (Or.inl rfl) (zaD zcw (zaD zcv (zaD zbY (zaD zcw (pv 0) zad) (zaD zcv zad (pv 1))) zad) zad))
  (zag (zaz (i:=2) zfp.nd rfl (Or.inl rfl) (zaD zcw (zaD zcv (pv 2) (pv 2)) zad))
  (zaf (zak (zaD zcw (zaD zbY (zaD zbY (zaD zcv (pv 2) (pv 2)) (zaD zcv zad (pv 2))) (pv 1)) zad))))),?_⟩
 refine ⟨_,rfl,_,_,rfl,rfl,(by show (0:Int)<_;decide),_,rfl,_,_,rfl,rfl,.inl ⟨by decide,by decide⟩,_,_,rfl,rfl,_,_,rfl,rfl,.inr ⟨by decide,by decide⟩,_,_,rfl,rfl,(by show (0:Int)<_;decide),?_⟩
 have m0:=Int.emod_nonneg ((x % 2147483647+7919*k)*48271) (show (2147483647:Int)≠0 by decide)
 have m1:=Int.emod_lt_of_pos ((x % 2147483647+7919*k)*48271) (show (0:Int)<2147483647 by decide)
 dsimp only
 generalize e1:(x % 2147483647+7919*k)*48271 % 2147483647=n1 at m0 m1 ⊢
 refine ⟨_,rfl,_,rfl,_,_,rfl,rfl,.inl ⟨by omega,by omega⟩,_,_,rfl,rfl,(by show (0:Int)<_;decide),?_⟩
 have m2:=Int.emod_nonneg (n1*n1) (show (2147483629:Int)≠0 by decide)
 have m3:=Int.emod_lt_of_pos (n1*n1) (show (0:Int)<2147483629 by decide)
 dsimp only
 generalize e2:n1*n1 % 2147483629=n2 at m2 m3 ⊢
 refine ⟨_,rfl,_,rfl,_,_,rfl,rfl,.inl ⟨by omega,by omega⟩,_,rfl,_,_,rfl,rfl,.inl ⟨by decide,by decide⟩,_,_,rfl,rfl,_,rfl,_,_,rfl,rfl,_,_,rfl,rfl,(by show (0:Int)<_;decide),?_⟩
 refine q _ (Int.emod_nonneg _ (by decide)) ?_
 unfold mixI mixB mixA
 rw [e1,e2]
theorem zkd:FnScope pl25 pl25 (zac ze2):=fsc
include T in
theorem zke (D:Dfn K mg "_law_draw" ze2 pl25 f fd) (zaW:Cal P w K mg bf "_law_mix" 1 pl24 zjn):Cal P w K mg bf "_law_draw" 2 pl25 zka:=by
 refine D.cal (D.F.ok zkd (fun vs H Q E h=>?_) (fun cdv A outer s H vs Q E hr h=>?_))
 ·obtain ⟨x,y,m,rfl,_⟩:=h
  rfl
 obtain ⟨x,k,m,rfl,k0,m0,q⟩:=h
 refine ⟨_,(zdF (za9 (PW.pt (zhj (zaE zrp (pv 0) (zaD zim zad zad) (zaJ _)) (zeC (zaE zg2 (zaD zpo (pv 0) (zaD zcv zad (pv 1))) zad (zaJ _))))) (zaf (zak (zaD zcw (zaD zcw (zaD zpo (pv 0) (zaD zcv zad (pv 1))) (zaD zim zad zad)) (pv 2)))) zaC)
  (zaf (zak (zaD zcw (zao zaW hr.o rfl (zaa (pv 0) (zaa (pv 1) zae))) (pv 2))))),?_⟩
 refine ⟨fun σ' H' => σ'=[some (.int x),some (.int k),some (.int m)]/\H'=H,?_,?_⟩
 ·refine ⟨_,rfl,_,_,rfl,rfl,⟨by decide,by decide,by decide⟩,_,_,rfl,rfl,_,rfl,?_⟩
  refine ite2 (fun c=>?_) (fun c=>?_)
  ·refine ⟨_,rfl,_,rfl,_,_,rfl,rfl,.inl ⟨by decide,by decide⟩,_,_,rfl,rfl,by show 0<=40*k;omega,_,_,rfl,rfl,_,rfl,?_⟩
   refine ite2 (fun c2=>?_) (fun c2=>?_)
   ·refine ⟨_,rfl,_,rfl,_,_,rfl,rfl,.inl ⟨by decide,by decide⟩,_,_,rfl,rfl,by show 0<=40*k;omega,_,_,rfl,rfl,⟨by decide,by decide,by decide⟩,_,_,rfl,rfl,(by show (0:Int)<_;decide),_,rfl,_,_,rfl,rfl,m0,?_⟩
    exact q _ (Int.emod_nonneg _ (by omega)) (Int.emod_lt_of_pos _ m0)
   ·exact ⟨rfl,rfl⟩
  ·exact ⟨rfl,rfl⟩
 ·rintro σ' H' ⟨rfl,rfl⟩
  exact ⟨_,rfl,_,rfl,x,_,rfl,k0,fun r r0 _=>⟨_,rfl,_,_,rfl,rfl,m0,q _ (Int.emod_nonneg _ (by omega)) (Int.emod_lt_of_pos _ m0)⟩⟩
theorem zcW:FnScope ["_law_cell_here","_law_k","_law_top","_law_bottom"] pl24 (zac zda):=fsc
include T in
theorem zie (D:Dfn K mg "_law_weight" zda pl24 f fd) (zaW:Cal P w K mg bf "_law_mix" 1 pl24 zjn) (zbk:Cal P w K mg bf "_law_draw" 2 pl25 zka):Cal P w K mg bf "_law_weight" 3 pl24 zid:=by
 refine D.cal (D.F.ok zcW (fun vs H Q E h=>?_) (fun cdv A outer s H vs Q E hr h=>?_))
 ·obtain ⟨x,k,rfl,_⟩:=h
  rfl
 obtain ⟨x,k,rfl,k0,q⟩:=h
 refine ⟨_,(zag (zaz (i:=2) zcW.nd rfl (Or.inl rfl) (zaH zeH (zat (pai (zab zad (zab zad (zab zad (zab (zaD zbY (zaD zim zad zad) zad) zay)))))) (zao zbk hr.o rfl (zaa (pv 0) (zaa (zaD zbY (pv 1) zad) (zaa zad zae)))) (fun _ _=>rfl)))
  (zag (zaz (i:=3) zcW.nd rfl (Or.inl rfl) (zaH zeH (zat (zaa zad (zaa zad (zaa zad zae)))) (zaD zcw (zao zaW hr.o rfl (zaa (pv 0) (zaa (pv 1) zae))) zad) (fun _ _=>rfl)))
  (zaf (zak (zai (zaa (zao zbk hr.o rfl (zaa (pv 0) (zaa (pv 1) (zaa (pv 2) zae)))) (zaa (zaD zbY zad (zao zbk hr.o rfl (zaa (pv 0) (zaa (zaD zbY (pv 1) zad) (zaa (pv 3) zae))))) zae))))))),?_⟩
 refine ⟨_,_,rfl,rfl,⟨by decide,by decide,by decide⟩,_,_,rfl,rfl,si4,fun l1 H1 s1 n1 h1=>⟨_,rfl,_,rfl,_,_,rfl,rfl,x,_,_,rfl,by show 0<=k+1;omega,by decide,fun r1 r10 r11=>?_⟩⟩
 obtain ⟨v1,e1,z1⟩:=at_4 (.int 3) (.int 7) (.int 40) (.int ((10:Int) ^ (6:Int).toNat+1)) r10 r11
 have z1:∃top:Int,v1=.int top/\0<top/\top<=1000001:=by
  rw [pow6] at z1
  rcases z1 with rfl | rfl | rfl | rfl
  ·exact ⟨_,rfl,by decide,by decide⟩
  ·exact ⟨_,rfl,by decide,by decide⟩
  ·exact ⟨_,rfl,by decide,by decide⟩
  ·exact ⟨_,rfl,by decide,by decide⟩
 obtain ⟨top,rfl,t0,t1⟩:=z1
 refine ⟨l1,_,_,_,rfl,rfl,SqL.of h1,e1,?_⟩
 refine ⟨si3,fun l2 H2 s2 n2 h2=>⟨_,rfl,_,rfl,x,k,rfl,k0,fun r2 r20 _=>⟨_,_,rfl,rfl,(by show (0:Int)<_;decide),?_⟩⟩⟩
 obtain ⟨v2,e2,z2⟩:=at_3 (.int 1) (.int 3) (.int 12) (r:=r2 % 3) (by omega) (by omega)
 have z2:∃bot:Int,v2=.int bot/\0<bot/\bot<=12:=by
  rcases z2 with rfl | rfl | rfl
  ·exact ⟨_,rfl,by decide,by decide⟩
  ·exact ⟨_,rfl,by decide,by decide⟩
  ·exact ⟨_,rfl,by decide,by decide⟩
 obtain ⟨bot,rfl,b0,b1⟩:=z2
 refine ⟨l2,_,_,_,rfl,rfl,SqL.of h2,e2,?_⟩
 refine ⟨_,rfl,_,rfl,_,rfl,x,k,top,rfl,k0,t0,fun r3 r30 r31=>⟨_,rfl,_,rfl,_,_,rfl,rfl,_,rfl,x,_,bot,rfl,by show 0<=k+2;omega,b0,fun r4 r40 r41=>⟨_,_,rfl,rfl,si2,fun p H3 s3 n3 h3=>?_⟩⟩⟩
 exact q p H3 r3 (1+r4) (s1.trans (s2.trans s3)) ⟨h3,by omega,by omega,by omega,by omega⟩
theorem sh_f {H:Hp} {p:Addr} {xs:List V} (h:H p=some (.tup xs)) (n:¬xs.length=5):RwB K H (.ref p) false:=.inr ⟨rfl,.inl ⟨p,xs,rfl,h,n⟩⟩
theorem nt_f {H:Hp} {v:V} (h:NoTy K H "tuple" v):RwB K H v false:=.inr ⟨rfl,.inr h⟩
theorem zsD {H:Hp} {v:V} (h:∃c,RwB K H v c):∀(i:Nat) u,[v][i]?=some u->∃c,RwB K H u c:=fun i u e=>by
 cases i with
 | zero=>cases e;exact h
 | succ i=>cases e
def gSR:SR:=⟨Str.ofString "a",1,2,0,1,1,1⟩
theorem zsE {H:Hp} {p:Addr} (h:IsSR H p gSR):∀q,q∈[(p,gSR),(p,gSR)]->IsSR H q.1 q.2:=fun q hq=>by
 have e:q=(p,gSR):=by
  rcases mem_cons.mp hq with e | e
  ·exact e
  ·exact mem_singleton.mp e
 rw [e]
 exact h
theorem zgY:gSR.Ok:=⟨by decide +kernel,by decide +kernel,by decide,by decide,by decide,by decide,by decide,by decide,by decide,by decide,by decide,by decide,by decide,by decide⟩
theorem zsF {p:Addr}:∀q,q∈[(p,gSR),(p,gSR)]->q.2.Ok:=fun q hq=>by
 have e:q=(p,gSR):=by
  rcases mem_cons.mp hq with e | e
  ·exact e
  ·exact mem_singleton.mp e
 rw [e]
 exact zgY
theorem len8:(Str.ofString "abcdefgh").length<=sizeLine:=by
 have:(Str.ofString "abcdefgh").length=8:=by decide +kernel
 rw [this]
 decide
theorem zsG {H:Hp} {z:Str} (h1:z.length<=100) (h2:zpb z.cps.toList=false):NmB K H (.str z) false:=.inl ⟨z,rfl,h1,h2.symm⟩
theorem zlc {H:Hp} {i lo hi:Int} (h:i<lo\/hi<i):WhB K H (.int i) lo hi false:=.inl ⟨i,rfl,by
 rcases h with h | h
 ·rw [decide_eq_false (show ¬lo<=i by omega)];rfl
 ·rw [decide_eq_false (show ¬i<=hi by omega),Bool.and_false]⟩
theorem zhe {H:Hp} {p:Addr} {a1 a2 a3 a4 a5:V} {b1 b2 b3 b4 b5:Bool} (h:H p=some (.tup [a1,a2,a3,a4,a5])) (h1:NmB K H a1 b1) (h2:WtB K H a2 b2) (h3:WtB K H a3 b3) (h4:WhB K H a4 1 4 b4) (h5:WhB K H a5 1 3 b5) (e:(b1&&(b2&&(b3&&(b4&&b5))))=false):RwB K H (.ref p) false:=
 .inl ⟨p,a1,a2,a3,a4,a5,b1,b2,b3,b4,b5,rfl,h,h1,h2,h3,h4,h5,e.symm⟩
theorem zfN {H:Hp} {l:Addr} {v:V} (h:H l=some (.lst [v])) (w:RwB K H v false):RsB K H (.ref l) false:=.inr ⟨rfl,.inr (.inl ⟨l,_,rfl,h,(by show (1:Nat)<=8;decide),zsD ⟨false,w⟩,0,_,rfl,w⟩)⟩
theorem whd {H:Hp} {i lo hi:Int}:WhB K H (.int i) lo hi (decide (lo<=i)&&decide (i<=hi)):=.inl ⟨i,rfl,rfl⟩
theorem wtd {H:Hp} {p:Addr} {t b:Int} (h:H p=some (.tup [.int t,.int b])):WtB K H (.ref p) ((decide (0<=t)&&decide (t<=1000000))&&(decide (1<=b)&&decide (b<=12))):=.inl ⟨p,_,_,_,_,rfl,h,whd,whd,rfl⟩
theorem nm_a {H:Hp}:NmB K H (.str (Str.ofString "a")) true:=.inl ⟨_,rfl,zgY.nl,zgY.nm.symm⟩
def zjo (K:W.Frag):Sp:=fun vs H Q _=>vs=[]/\∀D H' xs,Same H H'->H' D=some (.lst xs)->xs.length<=100->(∀x,x∈xs->RsB K H' x false)->Q (.ref D) H'
theorem zaX:FnScope ["_law_good","_law_rows"] [] (zac zco):=fsc
include T in
theorem zgZ (D:Dfn K mg "_law_no_sorts" zco [] f fd):Cal P w K mg bf "_law_no_sorts" 1 [] (zjo K):=by
 refine D.cal (D.F.ok zaX (fun vs H Q E h=>?_) (fun cdv A outer s H vs Q E hr h=>?_))
 ·obtain ⟨rfl,_⟩:=h
  rfl
 obtain ⟨rfl,q⟩:=h
 refine ⟨_,(zag (zaz (i:=0) zaX.nd rfl (Or.inl rfl) (zai (pai (zab zaB (zab (zai (zaa zad (zaa zad zae))) (zab (zai (zaa zad (zaa zad zae))) (zab zad (zab zad zay))))))))
  (zag (zaz (i:=1) zaX.nd rfl (Or.inl rfl) (zat (pai (zab zec (zab (zai zae) (zab (zat zae) (zab zaB (zab (zat (zaa (pv 0) (zaa (pv 0) zae))) (zab (zat (zaa (zai (pai (zab zaB (zab (zai (zaa zad (zaa zad zae))) (zab (zai (zaa zad (zaa zad zae))) (zab zad (zab zad zay))))))) zae)) (zab (zat (zaa (zai (pai (zab zaB (zab (zai (zaa zad (zaa zad zae))) (zab (zai (zaa zad (zaa zad zae))) (zab zad (zab zad zay))))))) zae)) zay))))))))))
  (zag (zaz (i:=1) zaX.nd rfl (Or.inl rfl) (zaD zdH (pv 1) (zat (zaa (zat (zaa (zai (pai (zab zaB (zab (zai (zaa zad (zaa zad zae))) (zab (zai (zaa zad (zaa zad zae))) (zab zad (zab zad zay))))))) zae)) (zaa (zat (zaa (zai (pai (zab zaB (zab (zai (zaa zad (zaa zad zae))) (zab (zai (zaa zad (zaa zad zae))) (zab zad (zab zad zay))))))) zae)) (zaa (zat (zaa (zai (pai (zab zaB (zab (zai (zaa zad (zaa zad zae))) (zab (zai (zaa zad (zaa zad zae))) (zab zad (zab zad zay))))))) zae)) zae))))))
  (zag (zaz (i:=1) zaX.nd rfl (Or.inl rfl) (zaD zdH (pv 1) (zat (pai (zab (zat (zaa (zai (pai (zab zaB (zab (zai (zaa zad (zaa zad zae))) (zab (zai (zaa zad (zaa zad zae))) (zab zad (zab zad zay))))))) zae)) (zab (zat (zaa (zai (pai (zab zaB (zab (zai (zaa zad (zaa zad zae))) (zab (zai (zaa (zmb zin zad) (zaa zad zae))) (zab zad (zab zad zay))))))) zae)) (zab (zat (zaa (zhF (zqH (K:=K) rfl) (pv 0) zjF (zjG zad)) zae)) (zab (zat (zaa (zgf ziP rfl T.znt zjJ (zaa (pv 0) zae)) zae)) (zab (zai (zaa (pv 0) zae)) zay)))))))))
  (zag (zaz (i:=1) zaX.nd rfl (Or.inl rfl) (zaD zdH (pv 1) (zat (zaa (zat (zaa (zai (pai (zab zaB (zab (zai (zaa (zaD zbY (zaD zim zad zad) zad) (zaa zad zae))) (zab (zai (zaa zad (zaa zad zae))) (zab zad (zab zad zay))))))) zae)) (zaa (zat (zaa (zai (pai (zab zaB (zab (zai (zaa zad (zaa zad zae))) (zab (zai (zaa zad (zaa zad zae))) (zab zad (zab zad zay))))))) zae)) (zaa (zat (zaa (zai (pai (zab zad (zab (zai (zaa zad (zaa zad zae))) (zab (zai (zaa zad (zaa zad zae))) (zab zad (zab zad zay))))))) zae)) zae))))))
  (zaf (zak (zaD zdH (pv 1) (zat (zaa (zaD zdH (zbd (N:=["_law_k"]) (js:=[]) rfl cpo (zl8 rfl T.znu (zaa zad (zaa zad zae))) (fun _ _ _ _ _=>zcy) (fun _ _ _ _ _=>(zai (pai (zab (zhF zrG zaB zjF (zjG (pv 0))) (zab (zai (zaa zad (zaa zad zae))) (zab (zai (zaa zad (zaa zad zae))) (zab zad (zab zad zay))))))))) (zat (zaa (zai (pai (zab zaB (zab (zai (zaa zad (zaa zad zae))) (zab (zai (zaa zad (zaa zad zae))) (zab zad (zab zad zay))))))) zae))) zae)))))))))),?_⟩
 refine ⟨si2,fun a1 G1 g1 _ f1=>⟨si2,fun a2 G2 g2 _ f2=>⟨si5,fun a3 G3 g3 _ f3=>⟨si0,fun a4 G4 g4 _ f4=>⟨si0,fun a5 G5 g5 _ f5=>?_⟩⟩⟩⟩⟩
 refine ⟨_,rfl,_,rfl,si2,fun a6 G6 g6 _ f6=>⟨si2,fun a7 G7 g7 _ f7=>⟨si2,fun a8 G8 g8 _ f8=>⟨si5,fun a9 G9 g9 _ f9=>⟨si1,fun a10 G10 g10 _ f10=>?_⟩⟩⟩⟩⟩
 refine ⟨si2,fun a11 G11 g11 _ f11=>⟨si2,fun a12 G12 g12 _ f12=>⟨si5,fun a13 G13 g13 _ f13=>⟨si1,fun a14 G14 g14 _ f14=>⟨si7,fun a15 G15 g15 _ f15=>?_⟩⟩⟩⟩⟩
 refine ⟨_,rfl,?_⟩
 refine ⟨si2,fun a16 G16 g16 _ f16=>⟨si2,fun a17 G17 g17 _ f17=>⟨si5,fun a18 G18 g18 _ f18=>⟨si1,fun a19 G19 g19 _ f19=>⟨si2,fun a20 G20 g20 _ f20=>?_⟩⟩⟩⟩⟩
 refine ⟨si2,fun a21 G21 g21 _ f21=>⟨si5,fun a22 G22 g22 _ f22=>⟨si1,fun a23 G23 g23 _ f23=>⟨si2,fun a24 G24 g24 _ f24=>⟨si2,fun a25 G25 g25 _ f25=>?_⟩⟩⟩⟩⟩
 refine ⟨si5,fun a26 G26 g26 _ f26=>⟨si1,fun a27 G27 g27 _ f27=>⟨si3,fun a28 G28 g28 _ f28=>?_⟩⟩⟩
 refine ⟨a15,a28,_,_,rfl,rfl,SqL.of ((g16.trans (g17.trans (g18.trans (g19.trans (g20.trans (g21.trans (g22.trans (g23.trans (g24.trans (g25.trans (g26.trans (g27.trans g28)))))))))))) _ _ f15),SqL.of f28,by show 10<=sizeLine;decide,fun a29 G29 g29 m29 f29=>?_⟩
 refine ⟨_,rfl,?_⟩
 refine ⟨si2,fun a30 G30 g30 _ f30=>⟨si2,fun a31 G31 g31 _ f31=>⟨si5,fun a32 G32 g32 _ f32=>⟨si1,fun a33 G33 g33 _ f33=>⟨si2,fun a34 G34 g34 _ f34=>?_⟩⟩⟩⟩⟩
 refine ⟨_,rfl,si2,fun a35 G35 g35 _ f35=>⟨si5,fun a36 G36 g36 _ f36=>⟨si1,fun a37 G37 g37 _ f37=>?_⟩⟩⟩
 refine ⟨_,rfl,_,rfl,a3,_,rfl,SqT.of ((g4.trans (g5.trans (g6.trans (g7.trans (g8.trans (g9.trans (g10.trans (g11.trans (g12.trans (g13.trans (g14.trans (g15.trans (g16.trans (g17.trans (g18.trans (g19.trans (g20.trans (g21.trans (g22.trans (g23.trans (g24.trans (g25.trans (g26.trans (g27.trans (g28.trans (g29.trans (g30.trans (g31.trans (g32.trans (g33.trans (g34.trans (g35.trans (g36.trans g37))))))))))))))))))))))))))))))))) _ _ f3),(fun h=>absurd (show (4:Nat)=5 from h.2) (by decide)),fun a38 G38 g38 m38 f38=>?_⟩
 have f38:G38 a38=some (.tup [.str (Str.ofString "a"),.ref a1,.ref a2,.int 1]):=f38
 refine ⟨si1,fun a39 G39 g39 _ f39=>?_⟩
 refine ⟨_,rfl,a3,_,rfl,.inr (SqT.of ((g4.trans (g5.trans (g6.trans (g7.trans (g8.trans (g9.trans (g10.trans (g11.trans (g12.trans (g13.trans (g14.trans (g15.trans (g16.trans (g17.trans (g18.trans (g19.trans (g20.trans (g21.trans (g22.trans (g23.trans (g24.trans (g25.trans (g26.trans (g27.trans (g28.trans (g29.trans (g30.trans (g31.trans (g32.trans (g33.trans (g34.trans (g35.trans (g36.trans (g37.trans (g38.trans g39))))))))))))))))))))))))))))))))))) _ _ f3)),fun a40 G40 g40 m40 f40=>?_⟩
 refine ⟨si1,fun a41 G41 g41 _ f41=>⟨_,rfl,si1,fun a42 G42 g42 _ f42=>⟨si5,fun a43 G43 g43 _ f43=>?_⟩⟩⟩
 refine ⟨a29,a43,_,_,rfl,rfl,SqL.of ((g30.trans (g31.trans (g32.trans (g33.trans (g34.trans (g35.trans (g36.trans (g37.trans (g38.trans (g39.trans (g40.trans (g41.trans (g42.trans g43))))))))))))) _ _ f29),SqL.of f43,by show 15<=sizeLine;decide,fun a44 G44 g44 m44 f44=>?_⟩
 refine ⟨_,rfl,?_⟩
 refine ⟨_,_,rfl,rfl,⟨by decide,by decide,by decide⟩,_,_,rfl,rfl,si2,fun a45 G45 g45 m45 f45=>?_⟩
 refine ⟨si2,fun a46 G46 g46 _ f46=>⟨si5,fun a47 G47 g47 _ f47=>⟨si1,fun a48 G48 g48 _ f48=>⟨si2,fun a49 G49 g49 _ f49=>⟨si2,fun a50 G50 g50 _ f50=>?_⟩⟩⟩⟩⟩
 refine ⟨si5,fun a51 G51 g51 _ f51=>⟨si1,fun a52 G52 g52 _ f52=>⟨si2,fun a53 G53 g53 _ f53=>⟨si2,fun a54 G54 g54 _ f54=>⟨si5,fun a55 G55 g55 _ f55=>?_⟩⟩⟩⟩⟩
 refine ⟨si1,fun a56 G56 g56 _ f56=>⟨si3,fun a57 G57 g57 _ f57=>?_⟩⟩
 refine ⟨a44,a57,_,_,rfl,rfl,SqL.of ((g45.trans (g46.trans (g47.trans (g48.trans (g49.trans (g50.trans (g51.trans (g52.trans (g53.trans (g54.trans (g55.trans (g56.trans g57)))))))))))) _ _ f44),SqL.of f57,by show 18<=sizeLine;decide,fun a58 G58 g58 m58 f58=>?_⟩
 refine ⟨_,rfl,?_⟩
 refine ⟨_,_,rfl,⟨by decide,by decide,by decide,by decide⟩,zjR (fun _=>True) (fun i Hh Q' hi q'=>q') (fun i Hh Q' hi sh q'=>⟨_,rfl,_,rfl,_,rfl,len8,si2,fun t1 A1 s1 _ _=>⟨si2,fun t2 A2 s2 _ _=>⟨si5,fun t3 A3 s3 _ _=>q' _ A3 (s1.trans (s2.trans s3)) trivial⟩⟩⟩) (zaI (by decide)) (fun a59 G59 vs g59 m59 f59 lv _=>?_)⟩
 refine ⟨si2,fun a60 G60 g60 _ f60=>⟨si2,fun a61 G61 g61 _ f61=>⟨si5,fun a62 G62 g62 _ f62=>⟨si1,fun a63 G63 g63 _ f63=>?_⟩⟩⟩⟩
 refine ⟨a59,a63,_,_,rfl,rfl,SqL.of ((g60.trans (g61.trans (g62.trans g63))) _ _ f59),SqL.of f63,by rw [lv];show 9<=sizeLine;decide,fun a64 G64 g64 m64 f64=>?_⟩
 refine ⟨si1,fun a65 G65 g65 _ f65=>?_⟩
 refine ⟨a58,a65,_,_,rfl,rfl,SqL.of ((g59.trans (g60.trans (g61.trans (g62.trans (g63.trans (g64.trans g65)))))) _ _ f58),SqL.of f65,by show 19<=sizeLine;decide,fun a66 G66 g66 m66 f66=>?_⟩
 have z66:Same G66 G66:=Same.refl _
 have z65:=g66.trans z66
 have z64:=g65.trans z65
 have z63:=g64.trans z64
 have z62:=g63.trans z63
 have z61:=g62.trans z62
 have z60:=g61.trans z61
 have z59:=g60.trans z60
 have z58:=g59.trans z59
 have z57:=g58.trans z58
 have z56:=g57.trans z57
 have z55:=g56.trans z56
 have z54:=g55.trans z55
 have z53:=g54.trans z54
 have z52:=g53.trans z53
 have z51:=g52.trans z52
 have z50:=g51.trans z51
 have z49:=g50.trans z50
 have z48:=g49.trans z49
 have z47:=g48.trans z48
 have z46:=g47.trans z47
 have z45:=g46.trans z46
 have z44:=g45.trans z45
 have z43:=g44.trans z44
 have z42:=g43.trans z43
 have z41:=g42.trans z42
 have z40:=g41.trans z41
 have z39:=g40.trans z40
 have z38:=g39.trans z39
 have z37:=g38.trans z38
 have z36:=g37.trans z37
 have z35:=g36.trans z36
 have z34:=g35.trans z35
 have z33:=g34.trans z34
 have z32:=g33.trans z33
 have z31:=g32.trans z32
 have z30:=g31.trans z31
 have z29:=g30.trans z30
 have z28:=g29.trans z29
 have z27:=g28.trans z28
 have z26:=g27.trans z27
 have z25:=g26.trans z26
 have z24:=g25.trans z25
 have z23:=g24.trans z24
 have z22:=g23.trans z23
 have z21:=g22.trans z22
 have z20:=g21.trans z21
 have z19:=g20.trans z20
 have z18:=g19.trans z19
 have z17:=g18.trans z18
 have z16:=g17.trans z17
 have z15:=g16.trans z16
 have z14:=g15.trans z15
 have z13:=g14.trans z14
 have z12:=g13.trans z13
 have z11:=g12.trans z12
 have z10:=g11.trans z11
 have z9:=g10.trans z10
 have z8:=g9.trans z9
 have z7:=g8.trans z8
 have z6:=g7.trans z7
 have z5:=g6.trans z6
 have z4:=g5.trans z5
 have z3:=g4.trans z4
 have z2:=g3.trans z3
 have z1:=g2.trans z2
 refine q a66 G66 [V.non,V.ref a4,V.ref a5,V.str (Str.ofString "a"),V.ref a6,V.ref a10,V.ref a14,V.ref a19,V.ref a23,V.ref a27,V.ref a33,V.ref a37,V.ref a39,V.ref a41,V.ref a42,V.ref a48,V.ref a52,V.ref a56,V.ref a64] (g1.trans z1) (z66 _ _ f66) (by show (19:Nat)<=100;decide) fun x hx=>?_
 simp only [mem_cons,not_mem_nil,or_false] at hx
 rcases hx with rfl | rfl | rfl | rfl | rfl | rfl | rfl | rfl | rfl | rfl | rfl | rfl | rfl | rfl | rfl | rfl | rfl | rfl | rfl
 ·exact .inr ⟨rfl,.inr (.inr (.inr ⟨_,.non,T.De⟩))⟩
 ·exact .inr ⟨rfl,.inr (.inr (.inr ⟨_,.tup (z4 _ _ f4),T.zfx⟩))⟩
 ·exact .inr ⟨rfl,.inl ⟨a5,_,rfl,(z5 _ _ f5),by decide⟩⟩
 ·exact .inr ⟨rfl,.inr (.inr (.inr ⟨_,.str _,T.zlN⟩))⟩
 ·exact .inr ⟨rfl,.inr (.inr (.inl ⟨a6,[(a3,gSR),(a3,gSR)],rfl,⟨(z6 _ _ f6),zsE ⟨a1,a2,(z3 _ _ f3),(z1 _ _ f1),(z2 _ _ f2)⟩⟩,(by show (2:Nat)<=8;decide),zsF,0,1,_,_,by decide,rfl,rfl,rfl⟩))⟩
 ·exact zfN (z10 _ _ f10) (zhe (z9 _ _ f9) (zsG (by decide +kernel) (by decide +kernel)) (wtd (z7 _ _ f7)) (wtd (z8 _ _ f8)) whd whd (by decide))
 ·exact zfN (z14 _ _ f14) (zhe (z13 _ _ f13) (nm_a) (wtd (z11 _ _ f11)) (wtd (z12 _ _ f12)) whd whd (by decide))
 ·exact zfN (z19 _ _ f19) (zhe (z18 _ _ f18) (nm_a) (wtd (z16 _ _ f16)) (wtd (z17 _ _ f17)) whd whd (by decide))
 ·exact zfN (z23 _ _ f23) (zhe (z22 _ _ f22) (nm_a) (wtd (z20 _ _ f20)) (wtd (z21 _ _ f21)) whd whd (by decide))
 ·exact zfN (z27 _ _ f27) (zhe (z26 _ _ f26) (nm_a) (wtd (z24 _ _ f24)) (wtd (z25 _ _ f25)) whd whd (by decide))
 ·exact zfN (z33 _ _ f33) (zhe (z32 _ _ f32) (nm_a) (wtd (z30 _ _ f30)) (wtd (z31 _ _ f31)) whd whd (by decide))
 ·exact zfN (z37 _ _ f37) (zhe (z36 _ _ f36) (nm_a) (wtd (z34 _ _ f34)) (wtd (z35 _ _ f35)) whd whd (by decide))
 ·exact zfN (z39 _ _ f39) (sh_f (z38 _ _ f38) (by show ¬(4:Nat)=5;decide))
 ·exact zfN (z41 _ _ f41) (nt_f ⟨_,.lst (z40 _ _ f40),T.zi5⟩)
 ·exact .inr ⟨rfl,.inr (.inr (.inr ⟨_,.tup (z42 _ _ f42),T.zfx⟩))⟩
 ·exact zfN (z48 _ _ f48) (zhe (z47 _ _ f47) (nm_a) (wtd (z45 _ _ f45)) (wtd (z46 _ _ f46)) whd whd (by decide))
 ·exact zfN (z52 _ _ f52) (zhe (z51 _ _ f51) (nm_a) (wtd (z49 _ _ f49)) (wtd (z50 _ _ f50)) whd whd (by decide))
 ·exact zfN (z56 _ _ f56) (zhe (z55 _ _ f55) (.inr ⟨⟨_,.int 5,T.znx⟩,rfl⟩) (wtd (z53 _ _ f53)) (wtd (z54 _ _ f54)) whd whd (by decide))
 ·exact .inr ⟨rfl,.inl ⟨a64,_,rfl,(z64 _ _ f64),by rw [length_append,lv];show ¬(1<=9/\9<=8);decide⟩⟩
theorem lk1 (f:Str) (v:V):([(f,v)]:List (Str × V)).lookup f=some v:=by
 simp [List.lookup]
theorem zqZ (T:Txt K mg Ag Aj Ak Ai Am Ao Av Ah Az Bb Ad Ab Aa Ap Ae AA Af AB Ac):(PySem.W.kitOne K (.ref Aj) (.type "ValueError")=some true/\PySem.W.kitAny K (.ref Aj) [.ref Ai,.ref Ah]=some false/\PySem.W.mroIn K Aj (.ref Aj)=some true)/\
  (PySem.W.kitOne K (.ref Ai) (.type "ValueError")=some true/\PySem.W.kitOne K (.ref Ai) (.ref Ah)=some false/\PySem.W.mroIn K Ai (.ref Aj)=some false/\PySem.W.mroIn K Ai (.ref Ai)=some true)/\
  (PySem.W.kitOne K (.ref Ah) (.ref Ag)=some true/\PySem.W.kitAny K (.ref Ah) [.ref Ai,.ref Aj]=some false/\PySem.W.mroIn K Ah (.ref Ah)=some true)/\PySem.W.mroIn K Ak (.ref Ak)=some true/\PySem.W.mroIn K Am (.ref Am)=some true:=by
 have nd:=T.nd
 simp only [nodup_cons,mem_cons,not_mem_nil,or_false,not_or,not_false_eq_true,List.nodup_nil,and_true] at nd
 have ne:∀D C W:Addr,D≠C->D≠W->([Value.ref C,Value.ref W,.type "ValueError",.type "Exception",.type "BaseException",.type "object"].contains (Value.ref D))=false:=fun D C W h1 h2=>by
  rw [contains_cons,contains_cons]
  have e1:(Value.ref D==Value.ref C)=false:=by
   rw [Bool.eq_false_iff]
   intro z
   exact h1 (Value.ref.inj (beq_iff_eq.mp z))
  have e2:(Value.ref D==Value.ref W)=false:=by
   rw [Bool.eq_false_iff]
   intro z
   exact h2 (Value.ref.inj (beq_iff_eq.mp z))
  rw [e1,e2]
  rfl
 refine ⟨⟨?_,?_,?_⟩,⟨?_,?_,?_,?_⟩,⟨?_,?_,?_⟩,?_,?_⟩
 ·rw [T.Bc.kitT (by decide +kernel)]
  rfl
 ·have k1:PySem.W.kitOne K (.ref Aj) (.ref Ai)=some false:=by
   rw [T.Bc.kit T.AV]
   exact congrArg some (ne _ _ _ (by grind) (by grind))
  have k2:PySem.W.kitOne K (.ref Aj) (.ref Ah)=some false:=by
   rw [T.Bc.kit T.AW]
   exact congrArg some (ne _ _ _ (by grind) (by grind))
  simp only [PySem.W.kitAny,k1,k2]
 ·rw [T.Bc.mro,contains_cons]
  simp
 ·rw [T.AV.kitT (by decide +kernel)]
  rfl
 ·rw [T.AV.kit T.AW]
  exact congrArg some (ne _ _ _ (by grind) (by grind))
 ·rw [T.AV.mro]
  exact congrArg some (ne _ _ _ (by grind) (by grind))
 ·rw [T.AV.mro,contains_cons]
  simp
 ·rw [T.AW.kit T.DR,contains_cons,contains_cons]
  simp
 ·have k1:PySem.W.kitOne K (.ref Ah) (.ref Ai)=some false:=by
   rw [T.AW.kit T.AV]
   exact congrArg some (ne _ _ _ (by grind) (by grind))
  have k2:PySem.W.kitOne K (.ref Ah) (.ref Aj)=some false:=by
   rw [T.AW.kit T.Bc]
   exact congrArg some (ne _ _ _ (by grind) (by grind))
  simp only [PySem.W.kitAny,k1,k2]
 ·rw [T.AW.mro,contains_cons]
  simp
 ·rw [T.Dy.mro,contains_cons]
  simp
 ·rw [T.Dz.mro,contains_cons]
  simp
theorem Bare.isX {H:Hp} {a C:Addr} (c:XCls K C) (h:Bare H a C):IsX K H a C:=let ⟨ws,e⟩:=h;⟨c,none,ws,e,fun y q=>by cases q⟩
theorem Bare.same {H H':Hp} {a C:Addr} (s:Same H H') (h:Bare H a C):Bare H' a C:=let ⟨ws,e⟩:=h;⟨ws,s _ _ e⟩
def zpW (K:W.Frag):Sp:=fun vs H Q _=>∃(x hd:V),vs=[x,hd]/\
 ((RsB K H x false/\∀p H',Same H H'->H' p=some (.tup [.str "sorts",.str "",.bl true,.bl false])->Q (.ref p) H') \/
  (∃l xs s,x=.ref l/\IsSRs H l xs/\RsOk (xs.map (·.2))/\WhB K H hd 1 6 false/\Shw K H hd s/\∀p H',Same H H'->H' p=some (.tup [.str "hands",.str s,.bl true,.bl false])->Q (.ref p) H'))
theorem zbG:FnScope ["_law_sorts","_law_hands","_law_told","e"] pl26 (zac ze3):=fsc
include T in
theorem zkf (D:Dfn K mg "_law_made" ze3 pl26 f fd) (CJ:MakG (CX1 P w) P w K mg bf "House" Ac 9 (zk8 K (CsA.mk Ad Ab Aa) Ae Ac Aj Ai)):Cal P w K mg bf "_law_made" 11 pl26 (zpW K):=by
 refine D.cal (D.F.ok zbG (fun vs H Q E h=>?_) (fun cdv A outer s H vs Q E hr h=>?_))
 ·obtain ⟨x,hd,rfl,_⟩:=h
  rfl
 obtain ⟨x,hd,rfl,h⟩:=h
 obtain ⟨⟨k1,k2,k3⟩,⟨j1,j2,j3,j4⟩,_⟩:=zqZ T
 refine ⟨_,(zag (zaz (i:=2) zbG.nd rfl (Or.inl rfl) zec)
  (zdF (zkE rfl rfl (fun _ _ _=>(zdq (zeh (zqL CJ hr.o rfl (zaa (pv 0) (zaa (pv 1) zae)))))) (zmM (i:=3) (fun _=>(zaf (zaz (i:=2) zbG.nd rfl (Or.inl rfl) (zai (pai (zab zaB (zab zaB (zab (zar (zhr (n := "ValueError") (K:=K) rfl) rfl T.zaA zav (zaa (pv 3) (zaa (zc1 (v:=.ty "ValueError") rfl T.CS zek rfl) zae))) (zab (zar (zhx (K:=K) rfl) rfl T.zaA zav (zaa (pv 3) (zaa (zai (zaa (zaZ (v:=.ref Ai) rfl T.C5 rfl) (zaa (zaZ (v:=.ref Ah) rfl T.C7 rfl) zae))) zae))) zay))))))))) (zmM (i:=3) (fun _=>(zaf (zaz (i:=2) zbG.nd rfl (Or.inl rfl) (zai (pai (zab zaB (zab (zar (zhv (K:=K) (show _ from hr.gd) (show _ from hr.units4) rfl) rfl T.zpG znl (zaa (zhL (K:=K) (pv 3) rfl rfl) zae)) (zab (zar (zhr (n := "ValueError") (K:=K) rfl) rfl T.zaA zav (zaa (pv 3) (zaa (zc1 (v:=.ty "ValueError") rfl T.CS zek rfl) zae))) (zab (zar (zdu (C:=Ah) (K:=K) rfl) rfl T.zaA zav (zaa (pv 3) (zaa (zaZ (v:=.ref Ah) rfl T.C7 rfl) zae))) zay))))))))) zfU zbG.nd rfl rfl rfl T.C5 (T.AV.bf rfl) T.AV.ty) zbG.nd rfl rfl rfl T.DG (T.Bc.bf rfl) T.Bc.ty))
  (zaf (zak (pv 2))))),?_⟩
 refine ⟨fun σ' H'=>∃m,σ'=[some x,some hd,some (.ref m),none]/\Q (.ref m) H',?_,?_⟩
 ·rcases h with ⟨hb,q⟩ | ⟨l,xs,sh,rfl,hx,ro,hw,hs,q⟩
  ·refine ⟨⟨fun cls a H'=>∃a',a=some a'/\Same H H'/\cls=.ref Aj/\Bare H' a' Aj,?_,?_⟩⟩
   ·exact ⟨_,rfl,_,rfl,x,hd,rfl,.inl ⟨hb,fun a H1 s1 h1=>⟨a,rfl,s1,rfl,h1⟩⟩⟩
   ·rintro C a H' hx0 ⟨a',e2,s1,e,h1⟩
    cases e2
    cases e
    refine ⟨true,k3,iteT ?_⟩
    have hx:=h1.isX T.C4
    refine ⟨_,rfl,_,_,_,rfl,.exc hx,k1,_,rfl,si2,fun tc H2 s2 n2 h2=>?_⟩
    exact ⟨_,_,_,tc,_,rfl,h2,rfl,.exc ((h1.same s2).isX T.C4),k2,si4,fun m H3 s3 n3 h3=>⟨m,rfl,q m H3 (s1.trans (s2.trans s3)) h3⟩⟩
  ·refine ⟨⟨fun cls a H'=>∃a',a=some a'/\Same H H'/\cls=.ref Ai/\Told K H' a' Ai "hands" hd,?_,?_⟩⟩
   ·exact ⟨_,rfl,_,rfl,_,hd,rfl,.inr ⟨l,xs,rfl,hx,ro,.inl ⟨hw,fun a H1 s1 h1=>⟨a,rfl,s1,rfl,h1⟩⟩⟩⟩
   ·rintro C a H' hx0 ⟨a',e2,s1,e,h1⟩
    cases e2
    cases e
    refine ⟨false,j3,iteF ⟨true,j4,iteT ?_⟩⟩
    have hx:=h1.isX T.C6
    obtain ⟨d,ws,e1,e2⟩:=h1.ex
    refine ⟨_,rfl,a,_,d,ws,_,_,rfl,e1,e2,T.C6,T.D7,lk1 _ _,hd,sh,rfl,hs.same s1,?_⟩
    exact ⟨_,rfl,_,_,_,rfl,.exc hx,j1,_,rfl,_,_,_,rfl,.exc hx,j2,si4,fun m H3 s3 n3 h3=>⟨m,rfl,q m H3 (s1.trans s3) h3⟩⟩
 ·rintro σ' H1 ⟨m,rfl,q⟩
  exact ⟨_,rfl,q⟩
def zld (K:W.Frag) (cs:CsA) (cS cH tT:Addr):Sp:=fun vs H Q _=>∃(o:Addr) (v:Hv) (tl:Int->Int) (r:SR) (km:Nat) (x:V) (c:Int),vs=[.ref o,x,.int c]/\HI cs cS cH tT H o v tl r km/\km<=1000/\r.nm = "a" /\ NoNm K H [r] x/\(zbO x=true\/refV x=true)/\(c<0\/400<c)/\∀H',Same H H'->Q (.bl true) H'
theorem zbI:FnScope ["_law_house","_law_thing","_law_turn","_law_told","e"] pl27 (zac zcL):=fsc
include T in
theorem zhf (D:Dfn K mg "_law_no_room" zcL pl27 f fd) (Br:MOk (CX1 P w) P w K mg bf 16 Ac "come" (zeA K (CsA.mk Ad Ab Aa) Ae Ac Af Ak Ah tT)) (B4:MOk (CX1 P w) P w K mg bf 15 Ac "hold" (zgW K (CsA.mk Ad Ab Aa) Ae Ac Af Ak Am Ah tT)):Cal P w K mg bf "_law_no_room" 18 pl27 (zld K (CsA.mk Ad Ab Aa) Ae Ac tT):=by
 refine D.cal (D.F.ok zbI (fun vs H Q E h=>?_) (fun cdv A outer s H vs Q E hr h=>?_))
 ·obtain ⟨o,v,tl,r,km,x,c,rfl,_⟩:=h
  rfl
 obtain ⟨o,v,tl,r,km,x,c,rfl,hi,hk,ea,hn,fx,hc,q⟩:=h
 obtain ⟨_,_,_,k1,k2⟩:=zqZ T
 refine ⟨_,(zag (zaz (i:=3) zbI.nd rfl (Or.inl rfl) (zat (zaa zec (zaa zec zae))))
  (zdF (zkE rfl rfl (fun _ _ _=>(zdq (zeh (zhN (k:=16) (pv 0) hr.o (zaa (pv 1) zae))))) (zmM (i:=4) (fun _=>(zaf (zpm (zhL (K:=K) (pv 4) rfl rfl) (zpl (pv 3) zad ziO)))) zfU zbI.nd rfl rfl rfl T.Ei (T.Dy.bf rfl) T.Dy.ty))
  (zdF (zkE rfl rfl (fun _ _ _=>(zdq (zeh (zhN (k:=15) (pv 0) hr.o (zaa zaB (zaa (pv 2) zae)))))) (zmM (i:=4) (fun _=>(zaf (zpm (zhL (K:=K) (pv 4) rfl rfl) (zpl (pv 3) zad ziO)))) zfU zbI.nd rfl rfl rfl T.Ek (T.Dz.bf rfl) T.Dz.ty))
  (zaf (zak (zeD (zrQ 9 hr.units9) (pv 3) (zat (zaa (pv 1) (zaa (pv 2) zae))) (zaJ _))))))),?_⟩
 obtain ⟨dx,e⟩:=hi.hh.at_
 refine ⟨si2,fun l1 H1 s1 n1 h1=>?_⟩
 refine ⟨fun σ' H' => σ'=[some (.ref o),some x,some (.int c),some (.ref l1),none]/\Same H H'/\H' l1=some (.lst [x,.non]),?_,?_⟩
 ·refine ⟨⟨fun cls a H'=>∃a',a=some a'/\Same H1 H'/\cls=.ref Ak/\Told K H' a' Ak "name" x,?_,?_⟩⟩
  ·refine ⟨_,rfl,o,_,dx,_,_,rfl,s1 _ _ e,rfl,Br,_,rfl,?_⟩
   dsimp only [zdE,tC,tNil]
   exact (hi.same s1).come_no hk (hn.same s1) (fun a H2 s2 h2=>⟨a,rfl,s2,rfl,h2⟩)
  ·rintro C a H' hx0 ⟨a',e2,s2,e3,h2⟩
   cases e2
   cases e3
   refine ⟨true,k1,iteT ?_⟩
   obtain ⟨d,ws,e1,e2⟩:=h2.ex
   refine ⟨_,rfl,a,_,d,ws,_,_,rfl,e1,e2,T.DZ,T.Ej,lk1 _ _,?_⟩
   have nl:(Same H1 H'->H' l1=some (.lst [.non,.non])):=fun s=>s _ _ h1
   exact ⟨_,rfl,l1,_,0,0,rfl,rfl,nl s2,rfl,fun H3 k3 h3=>⟨rfl,((s1.trans s2).but n1 k3),h3⟩⟩
 ·rintro σ' H2 ⟨rfl,s2,h2⟩
  refine ⟨fun σ' H' => σ'=[some (.ref o),some x,some (.int c),some (.ref l1),none]/\Same H H'/\H' l1=some (.lst [x,.int c]),?_,?_⟩
  ·refine ⟨⟨fun cls a H'=>∃a',a=some a'/\Same H2 H'/\cls=.ref Am/\Told K H' a' Am "turn" (.int c),?_,?_⟩⟩
   ·refine ⟨_,rfl,o,_,dx,_,_,rfl,s2 _ _ e,rfl,B4,_,rfl,?_⟩
    dsimp only [zdE,tC,tNil]
    exact (hi.same s2).hold_no hc ea (fun a H3 s3 h3=>⟨a,rfl,s3,rfl,h3⟩)
   ·rintro C a H' hx0 ⟨a',e2,s3,e3,h3⟩
    cases e2
    cases e3
    refine ⟨true,k2,iteT ?_⟩
    obtain ⟨d,ws,e1,e2⟩:=h3.ex
    refine ⟨_,rfl,a,_,d,ws,_,_,rfl,e1,e2,T.D0,T.El,lk1 _ _,?_⟩
    exact ⟨_,rfl,l1,_,1,1,rfl,rfl,s3 _ _ h2,rfl,fun H4 k4 h4=>⟨rfl,((s2.trans s3).but n1 k4),h4⟩⟩
  ·rintro σ' H3 ⟨rfl,s3,h3⟩
   refine ⟨_,rfl,_,rfl,_,rfl,si2,fun m2 H4 s4 n4 h4=>?_⟩
   refine ⟨⟨l1,m2,_,_,rfl,rfl,.inr ⟨SqL.of (s4 _ _ h3),SqL.of h4⟩,rfl,fun j u w hu hw=>?_⟩,q H4 (s3.trans s4)⟩
   rw [hu] at hw
   cases hw
   match j,hu with
   | 0,hu=>cases hu;exact fx.elim (fun z=>Deq.flat _ z) (fun z=>by cases x with
     | ref a=>exact Deq.ref _ _
     | _=>cases z)
   | 1,hu=>cases hu;exact Deq.int _ _
   | j+2,hu=>cases hu
def zpX (K:W.Frag) (cs:CsA) (cS cH tT:Addr):Sp:=fun vs H Q _=>∃(o:Addr) (v:Hv) (tl:Int->Int) (r:SR) (km:Nat) (wd:Str) (c:Int),vs=[.ref o,.str wd,.int c]/\HI cs cS cH tT H o v tl r km/\km<=1000/\r.nm = "a" /\ (v.ps.filter fun q=>q.2.1.opn).length=40/\(wd = "come" -> plL r.nm 0 v.ps=[])/\0<=c/\c<=400/\∀H',Same H H'->Q (.bl true) H'
theorem zcX:FnScope ["_law_house","_law_word","_law_turn","_law_told","e"] pl28 (zac ze4):=fsc
include T in
theorem zkg (D:Dfn K mg "_law_many" ze4 pl28 f fd) (Br:MOk (CX1 P w) P w K mg bf 16 Ac "come" (zeA K (CsA.mk Ad Ab Aa) Ae Ac Af Ak Ah tT)) (B4:MOk (CX1 P w) P w K mg bf 15 Ac "hold" (zgW K (CsA.mk Ad Ab Aa) Ae Ac Af Ak Am Ah tT)):Cal P w K mg bf "_law_many" 18 pl28 (zpX K (CsA.mk Ad Ab Aa) Ae Ac tT):=by
 refine D.cal (D.F.ok zcX (fun vs H Q E h=>?_) (fun cdv A outer s H vs Q E hr h=>?_))
 ·obtain ⟨o,v,tl,r,km,wd,c,rfl,_⟩:=h
  rfl
 obtain ⟨o,v,tl,r,km,wd,c,rfl,hi,hk,ea,op,pl,c0,c1,q⟩:=h
 obtain ⟨_,_,⟨k1,k2,k3⟩,_⟩:=zqZ T
 refine ⟨_,(zag (zaz (i:=3) zcX.nd rfl (Or.inl rfl) zec)
  (zdF (zkE rfl rfl (fun _ _ _=>(zdq (zrM (zaE zio (pv 1) zaB (zaJ _)) (zdq (zeh (zhN (k:=16) (pv 0) hr.o (zaa zaB zae)))) (zdq (zeh (zhN (k:=15) (pv 0) hr.o (zaa zaB (zaa (pv 2) zae)))))))) (zmM (i:=4) (fun _=>(zaf (zaz (i:=3) zcX.nd rfl (Or.inl rfl) (zat (zaa (zar (zdu (C:=Ag) (K:=K) rfl) rfl T.zaA zav (zaa (pv 4) (zaa (zaZ (v:=.ref Ag) rfl T.DQ rfl) zae))) (zaa (zar (zhx (K:=K) rfl) rfl T.zaA zav (zaa (pv 4) (zaa (zai (zaa (zaZ (v:=.ref Ai) rfl T.C5 rfl) (zaa (zaZ (v:=.ref Aj) rfl T.DG rfl) zae))) zae))) zae)))))) zfU zcX.nd rfl rfl rfl T.C7 (T.AW.bf rfl) T.AW.ty))
  (zaf (zak (zeD (zmy hr.units0) (pv 3) (zat (zaa zbm (zaa zbm zae))) (zaJ _)))))),?_⟩
 refine ⟨fun σ' H'=>∃m,σ'=[some (.ref o),some (.str wd),some (.int c),some (.ref m),none]/\Same H H'/\H' m=some (.lst [.bl true,.bl false]),?_,?_⟩
 ·refine ⟨⟨fun cls a H'=>∃a',a=some a'/\Same H H'/\cls=.ref Ah/\Bare H' a' Ah,?_,?_⟩⟩
  ·obtain ⟨dx,e⟩:=hi.hh.at_
   refine ⟨_,rfl,rfl,_,rfl,?_⟩
   by_cases cw:wd = "come"
   ·refine iteD (by rw [cw]) ?_
    refine ⟨_,rfl,o,_,dx,_,_,rfl,e,rfl,Br,?_⟩
    dsimp only [zdE,tC,tNil]
    exact hi.come_full hk op (pl cw) ea (fun a H1 s1 h1=>⟨a,rfl,s1,rfl,h1⟩)
   ·refine zgj (fun z=>cw (V.str.inj z)) ?_
    refine ⟨_,rfl,o,_,dx,_,_,rfl,e,rfl,B4,_,rfl,?_⟩
    dsimp only [zdE,tC,tNil]
    exact hi.hold_full c0 c1 op ea (fun a H1 s1 h1=>⟨a,rfl,s1,rfl,h1⟩)
  ·rintro C a H' hx0 ⟨a',e2,s1,e,h1⟩
   cases e2
   cases e
   refine ⟨true,k3,iteT ?_⟩
   have hx:=h1.isX T.C8
   refine ⟨_,rfl,_,_,_,rfl,.exc hx,k1,_,rfl,si2,fun tc H2 s2 n2 h2=>?_⟩
   exact ⟨_,_,_,tc,_,rfl,h2,rfl,.exc ((h1.same s2).isX T.C8),k2,si2,fun m H3 s3 n3 h3=>⟨m,rfl,s1.trans (s2.trans s3),h3⟩⟩
 ·rintro σ' H1 ⟨m,rfl,s1,h1⟩
  refine ⟨_,rfl,si2,fun m2 H2 s2 n2 h2=>?_⟩
  exact ⟨m,m2,_,_,rfl,rfl,SqL.of (s2 _ _ h1),SqL.of h2,rfl,rfl,q H2 (s1.trans s2)⟩
structure Fil (m:Nat) (ps:List (Addr × Wd × Pv)):Prop where
 len:ps.length=m
 all:∀q,q∈ps->q.2.2.n<m/\(q.2.1=.waiting\/(q.2.1=.held/\1<=q.2.2.came))
theorem Fil.opn {m:Nat} {ps:List (Addr × Wd × Pv)} (h:Fil m ps):(ps.filter fun q=>q.2.1.opn)=ps:=by
 rw [filter_eq_self]
 intro q hq
 rcases (h.all q hq).2 with e | ⟨e,_⟩
 ·rw [e]
  rfl
 ·rw [e]
  rfl
theorem Fil.pl {m:Nat} {ps:List (Addr × Wd × Pv)} (h:Fil m ps) (nm:Str):plL nm 0 ps=[]:=by
 unfold plL
 rw [List.filter_eq_nil_iff]
 intro q hq z
 obtain ⟨h1,h2⟩:=zbF.mp hq
 have c:=of_decide_eq_true ((Bool.and_eq_true _ _).mp z).2
 rcases (h.all q h1).2 with e | ⟨_,e⟩
 ·rw [e] at h2
  cases h2
 ·omega
theorem Fil.add {m:Nat} {ps:List (Addr × Wd × Pv)} (h:Fil m ps) {b:Addr × Wd × Pv} (n:b.2.2.n=m) (w:b.2.1=.waiting\/(b.2.1=.held/\1<=b.2.2.came)):Fil (m+1) (ps++[b]):=by
 refine ⟨by rw [length_append,h.len];rfl,fun q hq=>?_⟩
 rcases mem_append.mp hq with hq | hq
 ·have:=h.all q hq
  exact ⟨by omega,this.2⟩
 ·rw [mem_singleton.mp hq]
  exact ⟨by omega,w⟩
theorem zjp (nm:Str) (t:Int) (ps qs:List (Addr × Wd × Pv)):plL nm t (ps++qs)=plL nm t ps++plL nm t qs:=by
 unfold plL ofW
 rw [filter_append,filter_append]
theorem zoa (b:Addr × Wd × Pv) (ps qs:List (Addr × Wd × Pv)):wiP b (ps++qs)=wiP b ps++wiP b qs:=by
 unfold wiP
 rw [map_append]
theorem Fil.wi {m:Nat} {ps:List (Addr × Wd × Pv)} (h:Fil m ps) {b:Addr × Wd × Pv} (n:(m:Int)<=b.2.2.n):wiP b ps=ps:=by
 unfold wiP
 have e:ps.map (fun q=>if q.2.2.n=b.2.2.n then b else q)=ps.map id:=map_congr_left fun q hq=>by
  have:=(h.all q hq).1
  rw [if_neg (by omega)]
  rfl
 rw [e,List.map_id]
structure Ful (r:SR) (d1 d2:Wd) (ps:List (Addr × Wd × Pv)):Prop where
 ex:∃qs a1 a2,ps=qs++[(a1,d1,pvOf r 38 0),(a2,d2,pvOf r 39 0)]/\Fil 38 qs
theorem Ful.len {r:SR} {d1 d2:Wd} {ps:List (Addr × Wd × Pv)} (h:Ful r d1 d2 ps):ps.length=40:=by
 obtain ⟨qs,a1,a2,rfl,f⟩:=h.ex
 rw [length_append,f.len]
 rfl
theorem Ful.op {r:SR} {d1 d2:Wd} {ps:List (Addr × Wd × Pv)} (h:Ful r d1 d2 ps) (o1:d1.opn=true) (o2:d2.opn=true):(ps.filter fun q=>q.2.1.opn).length=40:=by
 obtain ⟨qs,a1,a2,rfl,f⟩:=h.ex
 rw [filter_append,f.opn,length_append,f.len,filter_cons,if_pos o1,filter_cons,if_pos o2]
 rfl
theorem Ful.op1 {r:SR} {d1 d2:Wd} {ps:List (Addr × Wd × Pv)} (h:Ful r d1 d2 ps) (o1:d1.opn=true) (o2:¬d2.opn=true):(ps.filter fun q=>q.2.1.opn).length=39:=by
 obtain ⟨qs,a1,a2,rfl,f⟩:=h.ex
 rw [filter_append,f.opn,length_append,f.len,filter_cons,if_pos o1,filter_cons,if_neg o2]
 rfl
theorem zob (r:SR) (a:Addr) (d:Wd) (n:Nat):plL r.nm 0 [(a,d,pvOf r n 0)]=if d=.held then [(a,d,pvOf r n 0)] else []:=by
 unfold plL ofW
 by_cases c:d=.held
 ·rw [if_pos c,filter_cons,if_pos (decide_eq_true c),List.filter_nil,filter_cons,if_pos (by rw [decide_eq_true (show (pvOf r n 0).nm=r.nm from rfl),decide_eq_true (show (pvOf r n 0).came=0 from rfl)];rfl),List.filter_nil]
 ·rw [if_neg c,filter_cons,if_neg (fun z=>c (of_decide_eq_true z))]
  rfl
theorem zoc (r:SR) (a1 a2:Addr) (d1 d2:Wd):plL r.nm 0 [(a1,d1,pvOf r 38 0),(a2,d2,pvOf r 39 0)]=(if d1=.held then [(a1,d1,pvOf r 38 0)] else [])++(if d2=.held then [(a2,d2,pvOf r 39 0)] else []):=by
 rw [<-zob,<-zob,<-zjp]
 rfl
theorem Ful.pl {r:SR} {d1 d2:Wd} {ps:List (Addr × Wd × Pv)} (h:Ful r d1 d2 ps) (n1:d1≠.held) (n2:d2≠.held):plL r.nm 0 ps=[]:=by
 obtain ⟨qs,a1,a2,rfl,f⟩:=h.ex
 rw [zjp,f.pl,zoc,if_neg n1,if_neg n2]
 rfl
theorem Ful.take1 {r:SR} {d2:Wd} {ps:List (Addr × Wd × Pv)} (h:Ful r .held d2 ps):∃(q0:Addr × Wd × Pv) (ys:List (Addr × Wd × Pv)),plL r.nm 0 ps=q0::ys/\ps[38]?=some q0/\∀a,Ful r .waiting d2 (wiP (a,.waiting,q0.2.2) ps):=by
 obtain ⟨qs,a1,a2,rfl,f⟩:=h.ex
 refine ⟨(a1,.held,pvOf r 38 0),(if d2=.held then [(a2,d2,pvOf r 39 0)] else []),?_,?_,fun a=>⟨qs,a,a2,?_,f⟩⟩
 ·rw [zjp,f.pl,zoc,if_pos rfl]
  rfl
 ·rw [getElem?_append_right (by rw [f.len];decide),f.len]
  rfl
 ·rw [zoa,f.wi (by show ((38:Nat):Int)<=((38:Nat):Int);decide)]
  rfl
theorem Ful.take2 {r:SR} {d1:Wd} (n1:d1≠.held) {ps:List (Addr × Wd × Pv)} (h:Ful r d1 .held ps):∃(q0:Addr × Wd × Pv) (ys:List (Addr × Wd × Pv)),plL r.nm 0 ps=q0::ys/\ps[39]?=some q0/\∀a,Ful r d1 .waiting (wiP (a,.waiting,q0.2.2) ps):=by
 obtain ⟨qs,a1,a2,rfl,f⟩:=h.ex
 refine ⟨(a2,.held,pvOf r 39 0),[],?_,?_,fun a=>⟨qs,a1,a,?_,f⟩⟩
 ·rw [zjp,f.pl,zoc,if_neg n1,if_pos rfl]
  rfl
 ·rw [getElem?_append_right (by rw [f.len];decide),f.len]
  rfl
 ·rw [zoa,f.wi (by show ((38:Nat):Int)<=((39:Nat):Int);decide)]
  rfl
theorem Ful.off {r:SR} {d1:Wd} {ps:List (Addr × Wd × Pv)} (h:Ful r d1 .waiting ps):∃q0:Addr × Wd × Pv,ps[39]?=some q0/\q0.2.1=.waiting/\(∀z,z∈ps->z.2.1=.waiting->z.2.2.n<=q0.2.2.n)/\∀a,Ful r d1 .calledOff (wiP (a,.calledOff,q0.2.2) ps):=by
 obtain ⟨qs,a1,a2,rfl,f⟩:=h.ex
 refine ⟨(a2,.waiting,pvOf r 39 0),?_,rfl,fun z hz _=>?_,fun a=>⟨qs,a1,a,?_,f⟩⟩
 ·rw [getElem?_append_right (by rw [f.len];decide),f.len]
  rfl
 ·show z.2.2.n<=((39:Nat):Int)
  rcases mem_append.mp hz with hz | hz
  ·have:=(f.all z hz).1
   omega
  ·rcases mem_cons.mp hz with e | hz
   ·rw [e]
    show ((38:Nat):Int)<=((39:Nat):Int)
    decide
   ·rw [mem_singleton.mp hz]
    exact Int.le_refl _
 ·rw [zoa,f.wi (by show ((38:Nat):Int)<=((39:Nat):Int);decide)]
  rfl
def zle (K:W.Frag) (cs:CsA) (cS cH tT:Addr):Sp:=fun vs H Q _=>∃(o:Addr) (v:Hv) (tl:Int->Int) (r:SR) (x:Int),vs=[.ref o,.int x]/\HI cs cS cH tT H o v tl r 0/\v.ps=[]/\r.nm = "a" /\ ∀H' v' tl' km,HI cs cS cH tT H' o v' tl' r km->km<=50->Ful r .held .held v'.ps->Q (.bl true) H'
theorem zb2:FnScope ["_law_house","_law_cell_here","_law_k","_law_turn"] pl29 (zac zdb):=fsc
include T in
theorem zif (D:Dfn K mg "_law_filled" zdb pl29 f fd) (zaW:Cal P w K mg bf "_law_mix" 1 pl24 zjn) (zbk:Cal P w K mg bf "_law_draw" 2 pl25 zka) (Br:MOk (CX1 P w) P w K mg bf 16 Ac "come" (zeA K (CsA.mk Ad Ab Aa) Ae Ac Af Ak Ah tT)) (AI:MOk CX0 P w K mg bf 1 Af "granted" (zgN Af)) (B4:MOk (CX1 P w) P w K mg bf 15 Ac "hold" (zgW K (CsA.mk Ad Ab Aa) Ae Ac Af Ak Am Ah tT)):Cal P w K mg bf "_law_filled" 17 pl29 (zle K (CsA.mk Ad Ab Aa) Ae Ac tT):=by
 refine D.cal (D.F.ok zb2 (fun vs H Q E h=>?_) (fun cdv A outer s H vs Q E hr h=>?_))
 ·obtain ⟨o,v,tl,r,x,rfl,_⟩:=h
  rfl
 obtain ⟨o,v,tl,r,x,rfl,hi,e0,ea,q⟩:=h
 refine ⟨_,(zag (zdB PassesOwn.never rfl (zl7 rfl T.znu (zaa zad zae)) (zbN (i:=2) zb2.nd rfl (Or.inl rfl)) (zdF (za9 (PW.pt (zhj (zaE zio (zaD zcw (zao zaW hr.o rfl (zaa (pv 1) (zaa (zaD zbY zad (pv 2)) zae))) zad) zad (zaJ _)) (zeC (za0 (zaQ (zaG (k:=1) (zbh (k:=16) (pv 0) hr.o zbH (zaa zaB zae)) hr.o zaT)))))) (zaf (zak zbm)) zaC)
  (zag (zaz (i:=3) zb2.nd rfl (Or.inl rfl) (zaD zbY zad (zao zbk hr.o rfl (zaa (pv 1) (zaa (zaD zbY zad (zaD zcw (pv 2) zad)) (zaa zad zae))))))
  (zdF (za9 (zaE zio (pv 2) zad (zaJ _)) (zaf (zaz (i:=3) zb2.nd rfl (Or.inl rfl) zad)) zaC)
  (zaf (za9 (PW.pt (zhj (zaE zio (zaD zcw (zao zaW hr.o rfl (zaa (pv 1) (zaa (zaD zbY zad (pv 2)) zae))) zad) zad (zaJ _)) (zeC (za0 (zaQ (zaG (k:=1) (zbh (k:=15) (pv 0) hr.o zbH (zaa zaB (zaa (pv 3) zae))) hr.o zaT)))))) (zaf (zak zbm)) zaC))))))
  (zaf (zak (zhl (zaG (k:=1) (zbh (k:=15) (pv 0) hr.o zbH (zaa zaB (zaa zad zae))) hr.o zaT) (zhk (zaG (k:=1) (zbh (k:=15) (pv 0) hr.o zbH (zaa zaB (zaa zad zae))) hr.o zaT)))))),?_⟩
 refine ⟨38,rfl,by decide,by decide,?_⟩
 refine zma (fun i σ H'=>∃(v2 v3:Option V) (v:Hv) (tl:Int->Int) (km:Nat),σ=[some (.ref o),some (.int x),v2,v3]/\HI (CsA.mk Ad Ab Aa) Ae Ac tT H' o v tl r km/\km<=i/\Fil i v.ps) ⟨_,_,v,tl,0,rfl,hi,Nat.le_refl _,by rw [e0];exact ⟨rfl,fun q hq=>by simp at hq⟩⟩ ?_ ?_
 ·rintro k σ H1 hk ⟨v2,v3,v,tl,km,rfl,hi,lk,fl⟩
  have k20:(0:Int)<=20+((0:Int)+(k:Int)):=by omega
  have hk:k<38:=hk
  have md:mixI x (20+((0:Int)+(k:Int))) % 2=0\/mixI x (20+((0:Int)+(k:Int))) % 2=1:=by omega
  refine ⟨fun σ' H'=>∃(v3:Option V) (v:Hv) (tl:Int->Int) (km:Nat),σ'=[some (.ref o),some (.int x),some (.int (0+(k:Int))),v3]/\HI (CsA.mk Ad Ab Aa) Ae Ac tT H' o v tl r km/\km<=k+1/\((mixI x (20+((0:Int)+(k:Int))) % 2=0/\Fil (k+1) v.ps)\/(mixI x (20+((0:Int)+(k:Int))) % 2=1/\Fil k v.ps)),?_,?_⟩
  ·obtain ⟨dx,e⟩:=hi.hh.at_
   refine ⟨_,rfl,_,rfl,_,_,rfl,rfl,x,_,rfl,by omega,fun m m0 em=>?_⟩
   refine ⟨_,_,rfl,rfl,(by show (0:Int)<_;decide),rfl,_,rfl,?_⟩
   rcases md with md | md
   ·refine iteD (by rw [em];exact congrArg V.int md) ?_
    refine ⟨_,rfl,o,_,dx,_,_,rfl,e,rfl,Br,?_⟩
    dsimp only [zdE,tC,tNil]
    refine hi.come (by omega) (by rw [fl.len];omega) (by rw [fl.opn,fl.len];omega) (fl.pl _) ea (fun a g v1 tl1 H2 hi2 e2 hg ls=>?_)
    obtain ⟨gdx,g1⟩:=id hg
    refine ⟨g,_,gdx,_,_,rfl,g1,rfl,AI,g,_,rfl,hg,_,rfl,?_⟩
    refine iteF ⟨_,v1,tl1,km+1,rfl,hi2,by omega,.inl ⟨md,?_⟩⟩
    rw [e2]
    exact fl.add (by show ((v.ps.length:Nat):Int)=k;rw [fl.len]) (.inl rfl)
   ·refine zgj (by rw [em];intro z;have:=V.int.inj z;omega) ?_
    refine iteF ⟨_,v,tl,km,rfl,hi,by omega,.inr ⟨md,fl⟩⟩
  rintro σ' H2 ⟨v3',v,tl,km,rfl,hi,lk,h⟩
  refine ⟨_,rfl,_,rfl,_,_,rfl,rfl,(by show (0:Int)<_;decide),_,_,rfl,rfl,x,_,40,rfl,by have:=Int.emod_nonneg (0+(k:Int)) (show (8:Int)≠0 by decide);show (0:Int)<=4+(0+(k:Int)) % 8;omega,by decide,fun t t0 t1=>⟨_,_,rfl,rfl,?_⟩⟩
  refine ⟨fun σ' H'=>∃(u:Int),σ'=[some (.ref o),some (.int x),some (.int (0+(k:Int))),some (.int u)]/\1<=u/\u<=400/\H'=H2,?_,?_⟩
  ·refine ⟨_,rfl,rfl,_,rfl,?_⟩
   by_cases c:(0:Int)+(k:Int)=37
   ·exact iteD (congrArg V.int c) ⟨400,rfl,by decide,by decide,rfl⟩
   ·exact zgj (fun z=>c (V.int.inj z)) ⟨1+t,rfl,by omega,by omega,rfl⟩
  rintro σ' H3 ⟨u,rfl,u0,u1,rfl⟩
  obtain ⟨dx,e⟩:=hi.hh.at_
  refine ⟨_,rfl,_,rfl,_,_,rfl,rfl,x,_,rfl,by omega,fun m m0 em=>?_⟩
  refine ⟨_,_,rfl,rfl,(by show (0:Int)<_;decide),rfl,_,rfl,?_⟩
  rcases h with ⟨md,fl⟩ | ⟨md,fl⟩
  ·refine zgj (by rw [em];intro z;have:=V.int.inj z;omega) ?_
   exact iteF ⟨_,_,v,tl,km,rfl,hi,lk,fl⟩
  ·refine iteD (by rw [em];exact congrArg V.int md) ?_
   refine ⟨_,rfl,o,_,dx,_,_,rfl,e,rfl,B4,_,rfl,?_⟩
   dsimp only [zdE,tC,tNil]
   refine hi.hold (by omega) u1 (by rw [fl.len];omega) (by rw [fl.opn,fl.len];omega) ea (fun a g v1 tl1 H4 hi2 e2 hg ls=>?_)
   obtain ⟨gdx,g1⟩:=id hg
   refine ⟨g,_,gdx,_,_,rfl,g1,rfl,AI,g,_,rfl,hg,_,rfl,?_⟩
   refine iteF ⟨_,_,v1,tl1,km,rfl,hi2,lk,?_⟩
   rw [e2]
   exact fl.add (by show ((v.ps.length:Nat):Int)=k;rw [fl.len]) (.inr ⟨rfl,u0⟩)
 ·rintro σ H1 ⟨v2,v3,v,tl,km,rfl,hi,lk,fl⟩
  obtain ⟨dx,e⟩:=hi.hh.at_
  refine ⟨_,rfl,o,_,dx,_,_,rfl,e,rfl,B4,?_⟩
  dsimp only [zdE,tC,tNil]
  refine hi.hold (by decide) (by decide) (by rw [fl.len];decide) (by rw [fl.opn,fl.len];decide) ea (fun a g v1 tl1 H2 hi2 e2 hg ls=>?_)
  obtain ⟨gdx,g1⟩:=id hg
  obtain ⟨dx2,e2'⟩:=hi2.hh.at_
  refine ⟨g,_,gdx,_,_,rfl,g1,rfl,AI,g,_,rfl,hg,_,rfl,iteT ?_⟩
  have l1:v1.ps.length=39:=by rw [e2,length_append,fl.len];rfl
  have o1:(v1.ps.filter fun q=>q.2.1.opn).length=39:=by
   rw [e2,filter_append,fl.opn,length_append,fl.len]
   rfl
  refine ⟨_,rfl,o,_,dx2,_,_,rfl,e2',rfl,B4,?_⟩
  dsimp only [zdE,tC,tNil]
  refine hi2.hold (by decide) (by decide) (by rw [l1];decide) (by rw [o1];decide) ea (fun a' g' v4 tl4 H4 hi4 e4 hg4 ls4=>?_)
  obtain ⟨gdx4,g4⟩:=id hg4
  refine ⟨g',_,gdx4,_,_,rfl,g4,rfl,AI,g',_,rfl,hg4,?_⟩
  refine q H4 v4 tl4 km hi4 (by omega) ⟨v.ps,a,a',?_,fl⟩
  rw [e4,l1,e2,fl.len]
  show v.ps++[(a,Wd.held,pvOf r 38 0)]++[(a',Wd.held,pvOf r 39 0)]=_
  rw [List.append_assoc]
  rfl
theorem zsH {H:Hp} {p q:Addr} {c:Cl} {n:Nat} (h1:IsCl K H p c) (h2:IsCl K H q c):Deq K H (n+2) (.ref p) (.ref q):=by
 obtain ⟨pw,ps,a1,a2,a3⟩:=h1.ex
 obtain ⟨qw,qs,b1,b2,b3⟩:=h2.ex
 refine Deq.tup (SqT.of a1) (SqT.of b1) rfl fun j u v hu hv=>?_
 match j with
 | 0=>
   cases hu
   cases hv
   exact Deq.int _ _
 | 1=>
   cases hu
   cases hv
   refine Deq.tup (SqT.of a2) (SqT.of b2) rfl fun j u v hu hv=>?_
   match j with
   | 0=>cases hu;cases hv;exact Deq.int _ _
   | 1=>cases hu;cases hv;exact Deq.int _ _
   | _+2=>cases hu
 | 2=>
   cases hu
   cases hv
   refine Deq.tup (SqT.of a3) (SqT.of b3) rfl fun j u v hu hv=>?_
   match j with
   | 0=>cases hu;cases hv;exact Deq.int _ _
   | 1=>cases hu;cases hv;exact Deq.int _ _
   | _+2=>cases hu
 | 3=>
   cases hu
   cases hv
   exact Deq.int _ _
 | _+4=>cases hu
theorem zra {H:Hp} {l m:Addr} {n:Nat} {xs ys:List (Addr × Cl × Int)} (h1:IsChs K H l xs) (h2:IsChs K H m ys) (e:xs.map (·.2)=ys.map (·.2)):
  xs.length=ys.length/\∀(j:Nat) u v,(xs.map fun q=>V.ref q.1)[j]?=some u->(ys.map fun q=>V.ref q.1)[j]?=some v->Deq K H (n+3) u v:=by
 refine ⟨by have:=congrArg List.length e;rw [length_map,length_map] at this;exact this,fun j u v hu hv=>?_⟩
 rw [getElem?_map] at hu hv
 cases e1:xs[j]? with
 | none=>rw [e1] at hu;cases hu
 | some r=>
   cases e2:ys[j]? with
   | none=>rw [e2] at hv;cases hv
   | some q=>
     rw [e1] at hu
     rw [e2] at hv
     cases hu
     cases hv
     have ee:=congrArg (fun l:Ch=>l[j]?) e
     simp only [getElem?_map,e1,e2,Option.map_some] at ee
     injection ee with ee
     obtain ⟨pc,a1,a2⟩:=(h1.ch r (mem_of_getElem? e1)).ex
     obtain ⟨qc,b1,b2⟩:=(h2.ch q (mem_of_getElem? e2)).ex
     rw [ee] at a1 a2
     refine Deq.tup (SqT.of a1) (SqT.of b1) rfl fun j u v hu hv=>?_
     match j with
     | 0=>cases hu;cases hv;exact zsH a2 b2
     | 1=>cases hu;cases hv;exact Deq.int _ _
     | _+2=>cases hu
structure Tri (K:W.Frag) (H:Hp) (v:Hv) (L:Addr):Prop where
 ex:∃(D1 D2 D3:Addr) (xs:List (Addr × Cl × Int)) (bs:List (Addr × List V)),H L=some (.lst [.ref D1,.ref D2,.ref D3])/\IsChs K H D1 xs/\xs.map (·.2)=chV v.rs v.ps/\H D2=some (.lst (bs.map fun b=>V.ref b.1))/\bs.map (·.2)=(ofW .held v.ps).map (fun q=>[V.int q.2.2.n,V.str q.2.2.nm,V.int q.2.2.came])/\(∀b,b∈bs->H b.1=some (.tup b.2))/\H D3=some (.lst (((ord (clV v.rs v.ps) v.t).map (·.n)).map V.int))
theorem Tri.same {H H':Hp} {v:Hv} {L:Addr} (s:Same H H') (h:Tri K H v L):Tri K H' v L:=by
 obtain ⟨D1,D2,D3,xs,bs,a,b,c,d,e,f,g⟩:=h.ex
 exact ⟨D1,D2,D3,xs,bs,s _ _ a,b.same s,c,s _ _ d,e,fun x hx=>s _ _ (f x hx),s _ _ g⟩
theorem Tri.deq {H:Hp} {v:Hv} {L L':Addr} (h:Tri K H v L) (h':Tri K H v L'):zqu K 9 (.ref L) (.ref L') H:=by
 obtain ⟨D1,D2,D3,xs,bs,a,b,c,d,e,f,g⟩:=h.ex
 obtain ⟨D1',D2',D3',xs',bs',a',b',c',d',e',f',g'⟩:=h'.ex
 refine ⟨L,L',_,_,rfl,rfl,.inr ⟨SqL.of a,SqL.of a'⟩,rfl,fun j u w hu hw=>?_⟩
 match j with
 | 0=>
   cases hu
   cases hw
   obtain ⟨l,q⟩:=zra (n:=5) b b' (c.trans c'.symm)
   exact Deq.lst (n:=8) (SqL.of b.at_) (SqL.of b'.at_) (by rw [length_map,length_map,l]) q
 | 1=>
   cases hu
   cases hw
   have eb:=e.trans e'.symm
   refine Deq.lst (n:=8) (SqL.of d) (SqL.of d') (by have:=congrArg List.length eb;rw [length_map,length_map] at this;rw [length_map,length_map,this]) (zoL (n:=7) eb (fun x hx=>⟨f x hx,?_⟩) f')
   have:x.2∈bs.map (·.2):=mem_map.mpr ⟨x,hx,rfl⟩
   rw [e] at this
   obtain ⟨z,_,ez⟩:=mem_map.mp this
   rw [<-ez]
   rfl
 | 2=>
   cases hu
   cases hw
   refine Deq.lst (n:=8) (SqL.of g) (SqL.of g') rfl fun j u w hu hw=>?_
   rw [hu] at hw
   cases hw
   obtain ⟨i,_,ei⟩:=mem_map.mp (mem_of_getElem? hu)
   rw [<-ei]
   exact Deq.int _ _
 | _+3=>cases hu
def zod (tT:Addr):Sp:=fun vs H Q _=>∃(x:Int),vs=[.int x]/\H tT=some (.tbl zbc lamQ)/\∀H',Q (.bl true) H'
theorem zbl:FnScope ["_law_cell_here","_law_house","_law_before","_law_word","_law_turn","_law_number"] ["_law_cell_here"] (zac zdR):=fsc
include T in
theorem zjq (D:Dfn K mg "_law_forty" zdR ["_law_cell_here"] f fd) (zaW:Cal P w K mg bf "_law_mix" 1 pl24 zjn) (za8:Cal P w K mg bf "_law_weight" 3 pl24 zid) (zb3:Cal P w K mg bf "_law_no_room" 18 pl27 (zld K (CsA.mk Ad Ab Aa) Ae Ac tT)) (zb5:Cal P w K mg bf "_law_many" 18 pl28 (zpX K (CsA.mk Ad Ab Aa) Ae Ac tT)) (zdn:Cal P w K mg bf "_law_filled" 17 pl29 (zle K (CsA.mk Ad Ab Aa) Ae Ac tT)) (CJ:MakG (CX1 P w) P w K mg bf "House" Ac 9 (zk8 K (CsA.mk Ad Ab Aa) Ae Ac Aj Ai)) (CK:MOk CX0 P w K mg bf 5 Ac "call_off" (zgV (CsA.mk Ad Ab Aa) Ae Ac)) (Aq:MOk CX0 P w K mg bf 11 Ac "chores_now" (zpe K (CsA.mk Ad Ab Aa) Ae Ac)) (Br:MOk (CX1 P w) P w K mg bf 16 Ac "come" (zeA K (CsA.mk Ad Ab Aa) Ae Ac Af Ak Ah tT)) (D5:MOk CX0 P w K mg bf 2 Ac "held" (zpR K (CsA.mk Ad Ab Aa) Ae Ac)) (DJ:MOk CX0 P w K mg bf 2 Af "told" (znX Af)) (Cs:MOk CX0 P w K mg bf 10 Ac "waiting" (zn1 K (CsA.mk Ad Ab Aa) Ae Ac tT)):Cal P w K mg bf "_law_forty" 19 ["_law_cell_here"] (zod tT):=by
 refine D.cal (D.F.ok zbl (fun vs H Q E h=>?_) (fun cdv A outer s H vs Q E hr h=>?_))
 ·obtain ⟨x,rfl,_⟩:=h
  rfl
 obtain ⟨x,rfl,hT,q⟩:=h
 refine ⟨_,(zag (zaz (i:=1) zbl.nd rfl (Or.inl rfl) (zgA CJ hr.o rfl zbH (zaa (zat (zaa (zai (pai (zab zaB (zab (zao za8 hr.o rfl (zaa (pv 0) (zaa zad zae))) (zab (zao za8 hr.o rfl (zaa (pv 0) (zaa zad zae))) (zab zad (zab zad zay))))))) zae)) (zaa (zaD zbY zad (zaD zcw (zao zaW hr.o rfl (zaa (pv 0) (zaa zad zae))) zad)) zae))))
  (zag (za9 (za0 (zaQ (zao zdn hr.o rfl (zaa (pv 1) (zaa (pv 0) zae))))) (zaf (zak zbm)) zaC)
  (zag (zaz (i:=2) zbl.nd rfl (Or.inl rfl) (zat (zaa (zaG (k:=11) (pv 1) hr.o zaT) (zaa (zaG (k:=2) (pv 1) hr.o zaT) (zaa (zaG (k:=10) (pv 1) hr.o zaT) zae)))))
  (zag (zdB PassesOwn.never rfl (zaL (zat (zaa (zai (zaa zaB (zaa zad zae))) (zaa (zai (zaa zaB (zaa zad zae))) zae)))) (zrl rfl (zkp (zbN (i:=3) zbl.nd rfl (Or.inl rfl)) (zkp (zbN (i:=4) zbl.nd rfl (Or.inl rfl)) zqa))) (zaf (za9 (PW.pt (zga (za0 (zaQ (zao zb5 hr.o rfl (zaa (pv 1) (zaa (pv 3) (zaa (pv 4) zae)))))) (zed (zaE (zrR 9 hr.units9) (zat (zaa (zaG (k:=11) (pv 1) hr.o zaT) (zaa (zaG (k:=2) (pv 1) hr.o zaT) (zaa (zaG (k:=10) (pv 1) hr.o zaT) zae)))) (pv 2) (zaJ _))))) (zaf (zak zbm)) zaC)))
  (zag (za9 (PW.pt (zga (za0 (zaQ (zao zb3 hr.o rfl (zaa (pv 1) (zaa zaB (zaa zad zae)))))) (zed (za0 (zaQ (zao zb3 hr.o rfl (zaa (pv 1) (zaa (zat (zaa zaB zae)) (zaa (zmb zin zad) zae))))))))) (zaf (zak zbm)) zaC)
  (zag (zdB PassesOwn.never rfl (zaL (zat (zaa zad (zaa zad zae)))) (zbN (i:=5) zbl.nd rfl (Or.inl rfl)) (zaf (za9 (zaE (zel hr.units0) (zaG (k:=2) (zbh (k:=16) (pv 1) hr.o zbH (zaa zaB zae)) hr.o zaT) (zai (zaa zaB (zaa (pv 5) zae))) (zaJ _)) (zaf (zak zbm)) zaC)))
  (zag (za9 (PW.pt (zga (za0 (zaQ (zao zb5 hr.o rfl (zaa (pv 1) (zaa zaB (zaa zad zae)))))) (zga (za0 (zaQ (zao zb5 hr.o rfl (zaa (pv 1) (zaa zaB (zaa zad zae)))))) (zed (zaE zqc (zar zaF rfl T.zdS zck (zaa (zaG (k:=11) (pv 1) hr.o zaT) zae)) zad (zaJ _)))))) (zaf (zak zbm)) zaC)
  (zag (zc2 (zbh (k:=5) (pv 1) hr.o zaT (zaa zad zae)))
  (zaf (zak (zhl (zeD (ziF hr.units0) (zaG (k:=2) (zbh (k:=16) (pv 1) hr.o zbH (zaa zaB zae)) hr.o zaT) (zai (zaa zaB (zaa zad zae))) (zaJ _)) (zhk (zao zb5 hr.o rfl (zaa (pv 1) (zaa zaB (zaa zad zae)))))))))))))))),?_⟩
 refine ⟨_,rfl,x,0,rfl,by decide,fun pw H1 wa wb s1 w1=>?_⟩
 refine ⟨_,rfl,x,3,rfl,by decide,fun pz H2 wc wd s2 w2=>?_⟩
 refine ⟨si5,fun pr H3 s3 n3 h3=>⟨si1,fun l H4 s4 n4 h4=>?_⟩⟩
 refine ⟨_,rfl,x,9,rfl,by decide,fun m m0 em=>⟨_,_,rfl,rfl,(by show (0:Int)<_;decide),_,_,rfl,rfl,?_⟩⟩
 have m3:0<=m % 3/\m % 3<3:=by omega
 have s14:=s2.trans (s3.trans s4)
 have s24:=s3.trans s4
 have w1':=w1.same s14
 have w2':=w2.same s24
 have okr:SR.Ok ⟨Str.ofString "a",wa,wb,wc,wd,1,1⟩:=⟨zgY.nm,zgY.nl,w1.t0,w1.t1,w1.b0,w1.b1,w2.t0,w2.t1,w2.b0,w2.b1,by show (1:Int)<=1;decide,by show (1:Int)<=4;decide,by show (1:Int)<=1;decide,by show (1:Int)<=3;decide⟩
 refine ⟨.ref l,_,rfl,.inr ⟨l,[(pr,⟨Str.ofString "a",wa,wb,wc,wd,1,1⟩)],rfl,⟨h4,fun y hy=>?_⟩,⟨by show (1:Nat)<=1;decide,by show (1:Nat)<=8;decide,fun y hy=>?_,fun i j y z hy hz _=>?_⟩,.inr ⟨4+m % 3,rfl,by omega,by omega,fun o H5 v s5 n5 hh nw=>?_⟩⟩⟩
 ·rw [mem_singleton.mp hy]
  exact ⟨pw,pz,s4 _ _ h3,w1'.at_,w2'.at_⟩
 ·rw [mem_singleton.mp hy]
  exact okr
 ·match i,j,hy,hz with
  | 0,0,_,_=>rfl
  | 0,j+1,_,hz=>cases hz
  | i+1,_,hy,_=>cases hy
 have hi:HI (CsA.mk Ad Ab Aa) Ae Ac tT H5 o v (fun _=>0) (SR.low ⟨Str.ofString "a",wa,wb,wc,wd,1,1⟩) 0:=New.hi hh ((s1.trans (s14.trans s5)) _ _ hT) nw (by omega) okr.low rfl rfl
 generalize er:(SR.low ⟨Str.ofString "a",wa,wb,wc,wd,1,1⟩)=r at hi
 have ea:r.nm = "a" := by rw [<-er];rfl
 refine ⟨_,rfl,_,rfl,o,v,_,r,x,rfl,hi,nw.ps,ea,fun H6 v tl km hi lk fu=>⟨_,rfl,iteF ?_⟩⟩
 clear hh nw
 have lk':km<=1000:=by omega
 have op:=fu.op rfl rfl
 have cw:∀q,q∈v.ps->q.2.1=.waiting->q.2.2.came<=v.t:=fun q hq hw=>by rw [hi.on.wt q hq hw,hi.t];decide
 obtain ⟨dx,e6⟩:=hi.hh.at_
 refine ⟨_,rfl,o,_,dx,_,_,rfl,e6,rfl,Aq,o,v,rfl,hi.hh,hi.p,fun D1 H7 xs s7 n7 hI1 ex1=>?_⟩
 refine ⟨_,rfl,o,_,dx,_,_,rfl,s7 _ _ e6,rfl,D5,o,v,rfl,(hi.same s7).hh,hi.p,fun D2 H8 bs s8 n8 hD2 eb2 hb2=>?_⟩
 have s68:=s7.trans s8
 refine ⟨_,rfl,o,_,dx,_,_,rfl,s68 _ _ e6,rfl,Cs,o,v,rfl,(hi.same s68).hh,hi.p,hi.ok.t0,hi.ok.t1,cw,(hi.same s68).hT,fun D3 H9 s9 n9 h9=>⟨si3,fun L H10 s10 n10 h10=>?_⟩⟩
 have tri:Tri K H10 v L:=⟨D1,D2,D3,xs,bs,h10,(hI1.same (s8.trans (s9.trans s10))).chs,ex1,(s9.trans s10) _ _ hD2,eb2,fun b hb=>(s9.trans s10) _ _ (hb2 b hb),s10 _ _ h9⟩
 have hi:=hi.same (s68.trans (s9.trans s10))
 refine ⟨si2,fun u1 HA sA _ hA=>⟨si2,fun u2 HB sB _ hB=>⟨si2,fun u3 HC sC _ hC=>⟨u3,rfl,⟨_,SqL.of hC⟩,?_⟩⟩⟩⟩
 have hi:=hi.same (sA.trans (sB.trans sC))
 have tri:=tri.same (sA.trans (sB.trans sC))
 refine zcj (K:=K) (a:=u3) (xs:=[.ref u1,.ref u2]) (fun i σ H'=>∃(v3 v4:Option V),σ=[some (.int x),some (.ref o),some (.ref L),v3,v4,none]/\Same HC H') ⟨_,_,rfl,Same.refl _⟩ (fun i σ H' _ ⟨_,_,_,s⟩=>SqL.of (s _ _ hC)) ?_ ?_
 ·rintro i y σ HD hy ⟨v3,v4,rfl,sD⟩
  obtain ⟨u,t,ey,hu,t0,t1⟩:∃(u:Addr) (t:Int),y=.ref u/\HC u=some (.tup [.str "hold",.int t])/\0<=t/\t<=400:=by
   match i with
   | 0=>cases hy;exact ⟨u1,5,rfl,(sB.trans sC) _ _ hA,by decide,by decide⟩
   | 1=>cases hy;exact ⟨u2,0,rfl,sC _ _ hB,by decide,by decide⟩
   | _+2=>cases hy
  subst ey
  have hiD:=hi.same sD
  refine ⟨u,_,rfl,SqT.of (sD _ _ hu),rfl,_,_,rfl,_,_,rfl,rfl,?_⟩
  refine ⟨_,rfl,_,rfl,_,rfl,o,v,tl,r,km,"hold",t,rfl,hiD,lk',ea,op,fun z=>absurd z (by decide +kernel),t0,t1,fun HE sE=>⟨_,rfl,iteF ?_⟩⟩
  have hiE:=hiD.same sE
  obtain ⟨dx,e⟩:=hiE.hh.at_
  refine ⟨_,rfl,o,_,dx,_,_,rfl,e,rfl,Aq,o,v,rfl,hiE.hh,hiE.p,fun D1 H7 xs s7 n7 hI1 ex1=>?_⟩
  refine ⟨_,rfl,o,_,dx,_,_,rfl,s7 _ _ e,rfl,D5,o,v,rfl,(hiE.same s7).hh,hiE.p,fun D2 H8 bs s8 n8 hD2 eb2 hb2=>?_⟩
  have s68:=s7.trans s8
  refine ⟨_,rfl,o,_,dx,_,_,rfl,s68 _ _ e,rfl,Cs,o,v,rfl,(hiE.same s68).hh,hiE.p,hiE.ok.t0,hiE.ok.t1,cw,(hiE.same s68).hT,fun D3 H9 s9 n9 h9=>⟨si3,fun L' HX sX nX hX=>?_⟩⟩
  have tri':Tri K HX v L':=⟨D1,D2,D3,xs,bs,hX,(hI1.same (s8.trans (s9.trans sX))).chs,ex1,(s9.trans sX) _ _ hD2,eb2,fun b hb=>(s9.trans sX) _ _ (hb2 b hb),sX _ _ h9⟩
  have sDX:=sE.trans (s68.trans (s9.trans sX))
  exact ⟨_,rfl,tri'.deq (tri.same (sD.trans sDX)),_,rfl,iteF ⟨_,_,rfl,sD.trans sDX⟩⟩
 rintro σ HD ⟨v3,v4,rfl,sD⟩
 have hi:=hi.same sD
 clear tri cw e6
 refine ⟨_,rfl,o,v,tl,r,km,.str "b",401,rfl,hi,lk',ea,.inl ⟨_,rfl,fun s hs=>?_⟩,.inl rfl,.inr (by decide),fun HE sE=>⟨_,rfl,iteF ?_⟩⟩
 ·rw [mem_singleton.mp hs,ea]
  decide +kernel
 refine ⟨_,rfl,si1,fun lb HF sF nF hF=>⟨_,rfl,o,v,tl,r,km,.ref lb,-1,rfl,(hi.same sE).same sF,lk',ea,.inr (.inr ⟨lb,_,rfl,hF,.inr (.inl ⟨_,rfl⟩)⟩),.inr rfl,.inl (by decide),fun HG sG=>⟨_,rfl,iteF ?_⟩⟩⟩
 have hi:=hi.same (sE.trans (sF.trans sG))
 refine ⟨si2,fun lw HI' sI nI hI=>⟨lw,rfl,⟨_,SqL.of hI⟩,?_⟩⟩
 have hi:=hi.same sI
 refine zcj (K:=K) (a:=lw) (xs:=[.int 38,.int 39]) (fun i σ H'=>∃(v5:Option V) (v:Hv) (tl:Int->Int) (km:Nat),σ=[some (.int x),some (.ref o),some (.ref L),v3,v4,v5]/\HI (CsA.mk Ad Ab Aa) Ae Ac tT H' o v tl r km/\km<=50+i/\H' lw=some (.lst [.int 38,.int 39])/\((i=0/\Ful r .held .held v.ps)\/(i=1/\Ful r .waiting .held v.ps)\/(i=2/\Ful r .waiting .waiting v.ps))) ⟨_,v,tl,km,rfl,hi,by omega,hI,.inl ⟨rfl,fu⟩⟩ (fun i σ H' _ ⟨_,_,_,_,_,_,_,h,_⟩=>SqL.of h) ?_ ?_
 ·rintro i y σ HJ hy ⟨v5,v,tl,km,rfl,hi,lk,hl,h⟩
  obtain ⟨dx,e⟩:=hi.hh.at_
  rcases h with ⟨ei,fu⟩ | ⟨ei,fu⟩ | ⟨ei,fu⟩
  ·have ei:i=0:=ei
   subst ei
   cases hy
   obtain ⟨q0,ys,pl,eq,fu'⟩:=fu.take1
   refine ⟨_,rfl,o,_,dx,_,_,rfl,e,rfl,Br,?_⟩
   dsimp only [zdE,tC,tNil]
   refine hi.come_place (by omega) pl eq ea (fun a g v1 tl1 H2 hi2 e2 hg ls=>?_)
   obtain ⟨gdx,g1⟩:=id hg
   refine ⟨g,_,gdx,_,_,rfl,g1,rfl,DJ,g,_,rfl,hg,fun p H3 s3 h3=>⟨_,rfl,si2,fun p' H4 s4 n4 h4=>?_⟩⟩
   refine ⟨p,p',_,_,rfl,rfl,SqT.of (s4 _ _ h3),SqT.of h4,rfl,rfl,?_⟩
   have ev:eqVs [V.str (Str.ofString "granted"),V.int ((38:Nat):Int)] [V.str (Str.ofString "granted"),V.int 38]=true:=zb7 rfl
   rw [ev]
   refine ⟨_,rfl,iteF ⟨_,v1,tl1,km+1,rfl,(hi2.same s3).same s4,by omega,(s3.trans s4) _ _ (ls _ _ hl),.inr (.inl ?_)⟩⟩
   exact ⟨rfl,by rw [e2];exact fu' a⟩
  ·have ei:i=1:=ei
   subst ei
   cases hy
   obtain ⟨q0,ys,pl,eq,fu'⟩:=fu.take2 (by decide)
   refine ⟨_,rfl,o,_,dx,_,_,rfl,e,rfl,Br,?_⟩
   dsimp only [zdE,tC,tNil]
   refine hi.come_place (by omega) pl eq ea (fun a g v1 tl1 H2 hi2 e2 hg ls=>?_)
   obtain ⟨gdx,g1⟩:=id hg
   refine ⟨g,_,gdx,_,_,rfl,g1,rfl,DJ,g,_,rfl,hg,fun p H3 s3 h3=>⟨_,rfl,si2,fun p' H4 s4 n4 h4=>?_⟩⟩
   refine ⟨p,p',_,_,rfl,rfl,SqT.of (s4 _ _ h3),SqT.of h4,rfl,rfl,?_⟩
   have ev:eqVs [V.str (Str.ofString "granted"),V.int ((39:Nat):Int)] [V.str (Str.ofString "granted"),V.int 39]=true:=zb7 rfl
   rw [ev]
   refine ⟨_,rfl,iteF ⟨_,v1,tl1,km+1,rfl,(hi2.same s3).same s4,by omega,(s3.trans s4) _ _ (ls _ _ hl),.inr (.inr ?_)⟩⟩
   exact ⟨rfl,by rw [e2];exact fu' a⟩
  ·subst ei
   cases hy
 rintro σ HJ ⟨v5,v,tl,km,rfl,hi,lk,hl,h⟩
 have fu:Ful r .waiting .waiting v.ps:=by
  rcases h with ⟨ei,fu⟩ | ⟨ei,fu⟩ | ⟨ei,fu⟩
  ·cases ei
  ·cases ei
  ·exact fu
 clear h hl hI
 have lk:km<=52:=lk
 have op:=fu.op rfl rfl
 refine ⟨_,rfl,o,v,tl,r,km,"come",0,rfl,hi,by omega,ea,op,fun _=>fu.pl (by decide) (by decide),by decide,by decide,fun HK sK=>⟨_,rfl,iteF ?_⟩⟩
 have hi:=hi.same sK
 refine ⟨_,rfl,o,v,tl,r,km,"hold",400,rfl,hi,by omega,ea,op,fun _=>fu.pl (by decide) (by decide),by decide,by decide,fun HL sL=>⟨_,rfl,iteF ?_⟩⟩
 have hi:=hi.same sL
 obtain ⟨dx,e⟩:=hi.hh.at_
 refine ⟨_,rfl,o,_,dx,_,_,rfl,e,rfl,Aq,o,v,rfl,hi.hh,hi.p,fun D1 HM xs sM nM hI1 ex1=>?_⟩
 have lx:(xs.map fun q=>V.ref q.1).length=40:=by
  have:=congrArg List.length ex1
  unfold chV at this
  rw [length_map,length_map,op] at this
  rw [length_map,this]
 refine ⟨D1,_,rfl,.inl (SqL.of hI1.chs.at_),?_⟩
 rw [lx]
 have hi:=hi.same sM
 refine ⟨rfl,_,rfl,ite2 (fun c=>absurd rfl (zqn c)) (fun _=>?_)⟩
 obtain ⟨q0,ei,w0,last,fu'⟩:=fu.off
 obtain ⟨dx,e⟩:=hi.hh.at_
 refine ⟨_,rfl,o,_,dx,_,_,rfl,e,rfl,CK,?_⟩
 dsimp only [zdE,tC,tNil]
 refine hi.off ei w0 last (fun a v1 HN hi1 e1 ls=>?_)
 have fu1:Ful r .waiting .calledOff v1.ps:=by
  rw [e1]
  exact fu' a
 have op1:=fu1.op1 rfl (by decide)
 obtain ⟨dx,e⟩:=hi1.hh.at_
 refine ⟨_,rfl,o,_,dx,_,_,rfl,e,rfl,Br,?_⟩
 dsimp only [zdE,tC,tNil]
 refine hi1.come (by omega) (by rw [fu1.len];decide) (by rw [op1];decide) (fu1.pl (by decide) (by decide)) ea (fun a2 g v2 tl2 HO hi2 e2 hg ls=>?_)
 have e2:v2.ps=v1.ps++[(a2,Wd.waiting,pvOf r v1.ps.length 0)]:=e2
 rw [fu1.len] at e2 hg
 obtain ⟨gdx,g1⟩:=id hg
 refine ⟨g,_,gdx,_,_,rfl,g1,rfl,DJ,g,_,rfl,hg,fun p HP s3 h3=>⟨si2,fun p' HQ s4 n4 h4=>?_⟩⟩
 refine ⟨p,p',_,_,rfl,rfl,SqT.of (s4 _ _ h3),SqT.of h4,rfl,rfl,?_⟩
 have ev:eqVs [V.str (Str.ofString "granted"),V.int ((40:Nat):Int)] [V.str (Str.ofString "granted"),V.int 40]=true:=zb7 rfl
 rw [ev]
 have op2:(v2.ps.filter fun q=>q.2.1.opn).length=40:=by
  rw [e2,filter_append,length_append,op1]
  rfl
 have pl2:plL r.nm 0 v2.ps=[]:=by
  rw [e2,zjp,fu1.pl (by decide) (by decide),zob,if_neg (by decide)]
  rfl
 exact ⟨_,rfl,iteT ⟨_,rfl,o,v2,tl2,r,km+1,"come",0,rfl,(hi2.same s3).same s4,by omega,ea,op2,fun _=>pl2,by decide,by decide,fun HR sR=>q HR⟩⟩
theorem zlf:FnScope ["_law_script","_law_thing","_law_rows"] ["_law_script"] (zac zlH):=fsc
include T in
theorem zsI (D:Dfn K mg "law" zlH ["_law_script"] f fd) (zdy:Cal P w K mg bf "_law_cell" 1 pl23 (zpV K)) (za8:Cal P w K mg bf "_law_weight" 3 pl24 zid) (zcu:Cal P w K mg bf "_law_no_sorts" 1 [] (zjo K)) (zcC:Cal P w K mg bf "_law_made" 11 pl26 (zpW K)) (zeb:Cal P w K mg bf "_law_forty" 19 ["_law_cell_here"] (zod tT)):FnOk P w K mg bf CX0 20 f fd ["_law_script"] (zmz K tT):=by
 refine D.F.ok zlf (fun vs H Q E h=>?_) (fun cdv A outer s H vs Q E hr h=>?_)
 ·obtain ⟨a,ns,rfl,_⟩:=h
  rfl
 obtain ⟨a,ns,rfl,hS,h63,hT,q⟩:=h
 refine ⟨_,(zag (zdB PassesOwn.never rfl (zaL (zqJ zcu hr.o rfl)) (zbN (i:=1) zlf.nd rfl (Or.inl rfl)) (zaf (za9 (PW.pt (zga (zaE (zel hr.units0) (zao zcC hr.o rfl (zaa (pv 1) (zaa zad zae))) (zai (pai (zab zaB (zab zaB (zab zbm (zab zbm zay)))))) (zaJ _)) (zed (zaE (zel hr.units0) (zao zcC hr.o rfl (zaa (pv 1) (zaa zad zae))) (zai (pai (zab zaB (zab zaB (zab zbm (zab zbm zay)))))) (zaJ _))))) (zaf (zak zbm)) zaC)))
  (zag (zaz (i:=2) zlf.nd rfl (Or.inl rfl) (zat (zaa (zai (pai (zab zaB (zab (zao za8 hr.o rfl (zaa (zao zdy hr.o rfl (zaa (pv 0) (zaa zad zae))) (zaa zad zae))) (zab (zai (zaa zad (zaa zad zae))) (zab zad (zab zad zay))))))) zae)))
  (zag (zdB PassesOwn.never rfl (zaL (zat (pai (zab zad (zab zad (zab (zmb zin zad) (zab zbm (zab zec (zab zaB (zab (zat (zaa zad zae)) (zab (zaD zim zad zad) zay))))))))))) (zbN (i:=1) zlf.nd rfl (Or.inl rfl)) (zaf (za9 (zaE (zel hr.units0) (zao zcC hr.o rfl (zaa (zgf ziP rfl T.znt zjJ (zaa (pv 2) zae)) (zaa (pv 1) zae))) (zai (pai (zab zaB (zab (zar (zhv (K:=K) (show _ from hr.gd) (show _ from hr.units4) rfl) rfl T.zpG znl (zaa (pv 1) zae)) (zab zbm (zab zbm zay)))))) (zaJ _)) (zaf (zak zbm)) zaC)))
  (zaf (zak (zao zeb hr.o rfl (zaa (zao zdy hr.o rfl (zaa (pv 0) (zaa zad zae))) zae))))))),?_⟩
 refine ⟨rfl,fun D H1 xs s1 hD lx hx=>⟨D,rfl,⟨_,SqL.of hD⟩,?_⟩⟩
 refine zcj (K:=K) (a:=D) (xs:=xs) (fun i σ H'=>∃v1:Option V,σ=[some (.ref a),v1,none]/\Same H1 H') ⟨_,rfl,Same.refl _⟩ (fun i σ H' _ ⟨_,_,s⟩=>SqL.of (s _ _ hD)) ?_ ?_
 ·rintro i y σ HA hy ⟨v1,rfl,sA⟩
  have hb:=(hx y (mem_of_getElem? hy)).same sA
  refine ⟨_,rfl,y,.int 0,rfl,.inl ⟨hb,fun p HB sB hB=>⟨si4,fun p' HC sC nC hC=>⟨p,p',_,_,rfl,rfl,SqT.of (sC _ _ hB),SqT.of hC,rfl,rfl,?_⟩⟩⟩⟩
  rw [zb7 rfl]
  refine ⟨_,rfl,iteF ?_⟩
  refine ⟨_,rfl,y,.int 2,rfl,.inl ⟨hb.same (sB.trans sC),fun p HE sE hE=>⟨si4,fun p' HF sF nF hF=>⟨p,p',_,_,rfl,rfl,SqT.of (sF _ _ hE),SqT.of hF,rfl,rfl,?_⟩⟩⟩⟩
  rw [zb7 rfl]
  exact ⟨_,rfl,iteF ⟨_,rfl,sA.trans (sB.trans (sC.trans (sE.trans sF)))⟩⟩
 rintro σ HA ⟨v1,rfl,sA⟩
 have s0A:=s1.trans sA
 refine ⟨_,rfl,a,ns,0,rfl,s0A.seq hS,by decide,fun c=>⟨c,0,rfl,by decide,fun pw HB wa wb sB wB=>⟨si2,fun pz HC sC _ hC=>⟨si5,fun pr HD sD _ hD=>⟨si1,fun l HE sE nE hE=>?_⟩⟩⟩⟩⟩
 have sBE:=sC.trans (sD.trans sE)
 have okr:SR.Ok ⟨Str.ofString "a",wa,wb,1,2,2,3⟩:=⟨zgY.nm,zgY.nl,wB.t0,wB.t1,wB.b0,wB.b1,by show (0:Int)<=1;decide,by show (1:Int)<=1000000;decide,by show (1:Int)<=2;decide,by show (2:Int)<=12;decide,by show (1:Int)<=2;decide,by show (2:Int)<=4;decide,by show (1:Int)<=3;decide,by show (3:Int)<=3;decide⟩
 have hsr:IsSR HE pr ⟨Str.ofString "a",wa,wb,1,2,2,3⟩:=⟨pw,pz,sE _ _ hD,sBE _ _ wB.at_,(sD.trans sE) _ _ hC⟩
 refine ⟨_,rfl,si1,fun lo HF sF nF hF=>⟨_,_,rfl,rfl,⟨by decide,by decide,by decide⟩,si8,fun lt HG sG nG hG=>⟨lt,rfl,⟨_,SqL.of hG⟩,?_⟩⟩⟩
 have sEG:=sF.trans sG
 refine zcj (K:=K) (a:=lt) (xs:=[.int 0,.int 7,.int (-1),.bl true,.non,.str (Str.ofString "1"),.ref lo,.int ((10:Int) ^ (30:Int).toNat)]) (fun i σ H'=>∃v1:Option V,σ=[some (.ref a),v1,some (.ref l)]/\Same HG H') ⟨_,rfl,Same.refl _⟩ (fun i σ H' _ ⟨_,_,s⟩=>SqL.of (s _ _ hG)) ?_ ?_
 ·rintro i y σ HH hy ⟨v1,rfl,sH⟩
  have hloH:=(sG.trans sH) _ _ hF
  obtain ⟨sy,hw,hs⟩:∃sy,WhB K HH y 1 6 false/\Shw K HH y sy:=by
   have mu:=mem_of_getElem? hy
   simp only [mem_cons,not_mem_nil,or_false] at mu
   rcases mu with rfl | rfl | rfl | rfl | rfl | rfl | rfl | rfl
   ·exact ⟨_,zlc (.inl (by decide)),.int _ (by decide)⟩
   ·exact ⟨_,zlc (.inr (by decide)),.int _ (by decide)⟩
   ·exact ⟨_,zlc (.inl (by decide)),.int _ (by decide)⟩
   ·exact ⟨_,.inr ⟨⟨_,.bl true,.inl T.zjW⟩,rfl⟩,.bl true⟩
   ·exact ⟨_,.inr ⟨⟨_,.non,.inr ⟨T.Db,T.Dq⟩⟩,rfl⟩,.non⟩
   ·exact ⟨_,.inr ⟨⟨_,.str _,.inr ⟨T.zlM,T.zny⟩⟩,rfl⟩,.str _ (by decide +kernel)⟩
   ·exact ⟨_,.inr ⟨⟨_,.lst hloH,.inr ⟨T.zjX,T.zlL⟩⟩,rfl⟩,.lst 1 (SqL.of hloH) (by decide +kernel) (by decide +kernel)⟩
   ·exact ⟨_,zlc (.inr (by decide)),.int _ (by decide)⟩
  refine ⟨_,rfl,l,_,rfl,.inl (SqL.of ((sEG.trans sH) _ _ hE)),fun l' HI' sI nI hI=>⟨_,rfl,_,y,rfl,.inr ⟨l',[(pr,⟨Str.ofString "a",wa,wb,1,2,2,3⟩)],sy,rfl,⟨hI,fun z hz=>?_⟩,⟨by show (1:Nat)<=1;decide,by show (1:Nat)<=8;decide,fun z hz=>?_,fun i j z w hz hw _=>?_⟩,hw.same sI,hs.same sI,fun p HJ sJ hJ=>⟨_,rfl,y,sy,rfl,(hs.same sI).same sJ,si4,fun p' HK sK nK hK=>⟨p,p',_,_,rfl,rfl,SqT.of (sK _ _ hJ),SqT.of hK,rfl,rfl,?_⟩⟩⟩⟩⟩
  ·rw [mem_singleton.mp hz]
   exact hsr.same (sEG.trans (sH.trans sI))
  ·rw [mem_singleton.mp hz]
   exact okr
  ·match i,j,hz,hw with
   | 0,0,_,_=>rfl
   | 0,j+1,_,hw=>cases hw
   | i+1,_,hz,_=>cases hz
  ·rw [zb7 rfl]
   exact ⟨_,rfl,iteF ⟨_,rfl,sH.trans (sI.trans (sJ.trans sK))⟩⟩
 rintro σ HH ⟨v1,rfl,sH⟩
 have sz0:=s0A.trans (sB.trans (sBE.trans (sEG.trans sH)))
 exact ⟨_,rfl,a,ns,1,rfl,sz0.seq hS,by decide,fun c=>⟨c,rfl,sz0 _ _ hT,q⟩⟩
end
theorem all_mk {l:W.OpenLaw} {w:World} {K:W.Frag} {h:Heap} {mg:Str->Option Value} {fa Ag Aj Ak Ai Am Ao Av Ah Az Bb Ad Ab Aa Ap Ae AA Af AB Ac:Addr} (X:K.In h) (G:h.Ns mainGlobals mg) (hfa:mg "law" = some (.ref fa))
 (d0:DAt K "is_whole" zeU xf0 xo0 xp0 xq0 xr0 xs0 xt0 xu0 xv0 xw0)
 (d1:DAt K "all_between" zcH xf1 xo1 xp1 xq1 xr1 xs1 xt1 xu1 xv1 xw1)
 (d2:DAt K "is_name" zgB xf2 xo2 xp2 xq2 xr2 xs2 xt2 xu2 xv2 xw2)
 (d3:DAt K "common_divisor" zbQ xf3 xo3 xp3 xq3 xr3 xs3 xt3 xu3 xv3 xw3)
 (d4:DAt K "lowest" zhR xf4 xo4 xp4 xq4 xr4 xs4 xt4 xu4 xv4 xw4)
 (d5:DAt K "is_weight" zdK xf5 xo5 xp5 xq5 xr5 xs5 xt5 xu5 xv5 xw5)
 (d6:DAt K "check_turn" zc6 xf6 xo6 xp6 xq6 xr6 xs6 xt6 xu6 xv6 xw6)
 (d7:DAt K "common_bottom" zb8 xf7 xo7 xp7 xq7 xr7 xs7 xt7 xu7 xv7 xw7)
 (d8:DAt K "place_key" zdL xf8 xo8 xp8 xq8 xr8 xs8 xt8 xu8 xv8 xw8)
 (d9:DAt K "claims_in_order" zax xf9 xo9 xp9 xq9 xr9 xs9 xt9 xu9 xv9 xw9)
 (d10:DAt K "numbers_in_order" zbp xf10 xo10 xp10 xq10 xr10 xs10 xt10 xu10 xv10 xw10)
 (d11:DAt K "order_at" zeV xf11 xo11 xp11 xq11 xr11 xs11 xt11 xu11 xv11 xw11)
 (d12:DAt K "numbers_worked" zbR xf12 xo12 xp12 xq12 xr12 xs12 xt12 xu12 xv12 xw12)
 (d13:DAt K "chores_behind" zb9 xf13 xo13 xp13 xq13 xr13 xs13 xt13 xu13 xv13 xw13)
 (d14:DAt K "turn_done" zdM xf14 xo14 xp14 xq14 xr14 xs14 xt14 xu14 xv14 xw14)
 (d15:DAt K "chores_taken" zcn xf15 xo15 xp15 xq15 xr15 xs15 xt15 xu15 xv15 xw15)
 (a16:W.nsIn K mainGlobals "run_of" = some (some (.ref xf16))) (l16:K.lookup xf16=some ⟨xo16,xp16,.func (W.fnOf "run_of" "run_of" (zaq zcI) (zan zcI) (zac zcI) (.ref xd16) xq16 xr16 xs16 xt16 xu16 xv16),xw16⟩) (c16:W.codeIn K xu16 "run_of" = true) (k16:W.keepIn K (.ref xf16)=true) (t16:K.lookup xd16=some xe16) (u16:Obj.data xe16=.seq #[.none] xn16)
 (d17:DAt K "is_piece_of" zcJ xf17 xo17 xp17 xq17 xr17 xs17 xt17 xu17 xv17 xw17)
 (d18:DAt K "check_piece" zcK xf18 xo18 xp18 xq18 xr18 xs18 xt18 xu18 xv18 xw18)
 (d19:DAt K "last_turns" zc7 xf19 xo19 xp19 xq19 xr19 xs19 xt19 xu19 xv19 xw19)
 (d20:DAt K "latest_all" zc8 xf20 xo20 xp20 xq20 xr20 xs20 xt20 xu20 xv20 xw20)
 (d21:DAt K "latest_of" zdN xf21 xo21 xp21 xq21 xr21 xs21 xt21 xu21 xv21 xw21)
 (d22:DAt K "kept_all" zeW xf22 xo22 xp22 xq22 xr22 xs22 xt22 xu22 xv22 xw22)
 (d23:DAt K "claim_of" zeX xf23 xo23 xp23 xq23 xr23 xs23 xt23 xu23 xv23 xw23)
 (d24:DAt K "chore_of" zeY xf24 xo24 xp24 xq24 xr24 xs24 xt24 xu24 xv24 xw24)
 (d25:DAt K "is_row" zhS xf25 xo25 xp25 xq25 xr25 xs25 xt25 xu25 xv25 xw25)
 (d26:DAt K "are_rows" zeZ xf26 xo26 xp26 xq26 xr26 xs26 xt26 xu26 xv26 xw26)
 (d27:DAt K "in_lowest" zdO xf27 xo27 xp27 xq27 xr27 xs27 xt27 xu27 xv27 xw27)
 (d28:DAt K "sort_from" zdP xf28 xo28 xp28 xq28 xr28 xs28 xt28 xu28 xv28 xw28)
 (d29:DAt K "chores_of" zdQ xf29 xo29 xp29 xq29 xr29 xs29 xt29 xu29 xv29 xw29)
 (d30:DAt K "with_piece" zc9 xf30 xo30 xp30 xq30 xr30 xs30 xt30 xu30 xv30 xw30)
 (d31:DAt K "_law_cell" ze1 xf31 xo31 xp31 xq31 xr31 xs31 xt31 xu31 xv31 xw31)
 (d32:DAt K "_law_mix" zgC xf32 xo32 xp32 xq32 xr32 xs32 xt32 xu32 xv32 xw32)
 (d33:DAt K "_law_draw" ze2 xf33 xo33 xp33 xq33 xr33 xs33 xt33 xu33 xv33 xw33)
 (d34:DAt K "_law_weight" zda xf34 xo34 xp34 xq34 xr34 xs34 xt34 xu34 xv34 xw34)
 (d35:DAt K "_law_no_sorts" zco xf35 xo35 xp35 xq35 xr35 xs35 xt35 xu35 xv35 xw35)
 (d36:DAt K "_law_made" ze3 xf36 xo36 xp36 xq36 xr36 xs36 xt36 xu36 xv36 xw36)
 (d37:DAt K "_law_no_room" zcL xf37 xo37 xp37 xq37 xr37 xs37 xt37 xu37 xv37 xw37)
 (d38:DAt K "_law_many" ze4 xf38 xo38 xp38 xq38 xr38 xs38 xt38 xu38 xv38 xw38)
 (d39:DAt K "_law_filled" zdb xf39 xo39 xp39 xq39 xr39 xs39 xt39 xu39 xv39 xw39)
 (d40:DAt K "_law_forty" zdR xf40 xo40 xp40 xq40 xr40 xs40 xt40 xu40 xv40 xw40)
 (d41:DAt K "law" zlH xf41 xo41 xp41 xq41 xr41 xs41 xt41 xu41 xv41 xw41)
 (B5:ZeS K "ValueError")
 (Ew:ZeS K "abs")
 (Ex:ZeS K "all")
 (Ey:ZeS K "any")
 (Eb:ZeS K "bool")
 (Ec:ZeS K "dict")
 (Ez:ZeS K "int")
 (B8:ZeS K "isinstance")
 (EA:ZeS K "len")
 (Ed:ZeS K "list")
 (EB:ZeS K "min")
 (DX:ZeS K "range")
 (Ee:ZeS K "repr")
 (EC:ZeS K "set")
 (DC:ZeS K "sorted")
 (ED:ZeS K "str")
 (DY:ZeS K "tuple")
 (AE:GlS K "LONGEST_NAME" 8 Ef)
 (Bw:GlS K "MOST_TOP" 1000000 EE)
 (AG:GlS K "MOST_BOTTOM" 12 Eh)
 (Bd:GlS K "MOST_TURN" 1000000000000000 Er)
 (AX:GlS K "MOST_SORTS" 8 Em)
 (Be:GlS K "MOST_SPAN" 4 Es)
 (AY:GlS K "MOST_TRIES" 3 En)
 (AZ:GlS K "MOST_HANDS" 6 Eo)
 (Bf:GlS K "MOST_OPEN" 40 Et)
 (As:GlS K "MOST_TURNS_TO_HOLD" 400 DK)
 (gc:GcT K)
 (xa0:XAt K "WaitError" Ag xc0 [.type "ValueError",.type "Exception",.type "BaseException",.type "object"] none)
 (xa1:XAt K "NoSorts" Aj xc1 [.ref Ag,.type "ValueError",.type "Exception",.type "BaseException",.type "object"] none)
 (xa2:XAt K "NoSort" Ak xc2 [.ref Ag,.type "ValueError",.type "Exception",.type "BaseException",.type "object"] (some yf2))
 (y2:YAt K Ak "name" "NoSort.__init__" zi3 yf2 yo2 yp2 yq2 yr2 ys2 yt2 yu2 yv2 yw2)
 (xa3:XAt K "NoHands" Ai xc3 [.ref Ag,.type "ValueError",.type "Exception",.type "BaseException",.type "object"] (some yf3))
 (y3:YAt K Ai "hands" "NoHands.__init__" zhz yf3 yo3 yp3 yq3 yr3 ys3 yt3 yu3 yv3 yw3)
 (xa4:XAt K "NoTurn" Am xc4 [.ref Ag,.type "ValueError",.type "Exception",.type "BaseException",.type "object"] (some yf4))
 (y4:YAt K Am "turn" "NoTurn.__init__" zi4 yf4 yo4 yp4 yq4 yr4 ys4 yt4 yu4 yv4 yw4)
 (xa5:XAt K "NoPiece" Ao xc5 [.ref Ag,.type "ValueError",.type "Exception",.type "BaseException",.type "object"] (some yf5))
 (y5:YAt K Ao "number" "NoPiece.__init__" zhA yf5 yo5 yp5 yq5 yr5 ys5 yt5 yu5 yv5 yw5)
 (xa6:XAt K "Over" Av xc6 [.ref Ag,.type "ValueError",.type "Exception",.type "BaseException",.type "object"] (some yf6))
 (y6:YAt K Av "number" "Over.__init__" znr yf6 yo6 yp6 yq6 yr6 ys6 yt6 yu6 yv6 yw6)
 (xa7:XAt K "TooMany" Ah xc7 [.ref Ag,.type "ValueError",.type "Exception",.type "BaseException",.type "object"] none)
 (xa8:XAt K "NoEnd" Az xc8 [.ref Ag,.type "ValueError",.type "Exception",.type "BaseException",.type "object"] (some yf8))
 (y8:YAt K Az "number" "NoEnd.__init__" zkW yf8 yo8 yp8 yq8 yr8 ys8 yt8 yu8 yv8 yw8)
 (znd:[Ag,Aj,Ak,Ai,Am,Ao,Av,Ah,Az].Nodup)
 (o0:OAt K "Piece" Bb)
 (o1:OAt K "Held" Ad)
 (m1:CAt K Ad zf0)
 (n0:NoS K Ad "number")
 (n1:NoS K Ad "sort_name")
 (n2:NoS K Ad "came")
 (n3:NoS K Ad "span")
 (n4:NoS K Ad "tries")
 (n5:NoS K Ad "spent")
 (e0:MeS K Ad "called_off" zf1)
 (e1:MeS K Ad "is_open" zf2)
 (e2:MeS K Ad "taken" zf3)
 (e3:MeS K Ad "work_left" zf4)
 (o2:OAt K "Waiting" Ab)
 (m2:CAt K Ab zf0)
 (n6:NoS K Ab "number")
 (n7:NoS K Ab "sort_name")
 (n8:NoS K Ab "came")
 (n9:NoS K Ab "span")
 (n10:NoS K Ab "tries")
 (n11:NoS K Ab "spent")
 (e4:MeS K Ab "called_off" zf5)
 (e5:MeS K Ab "is_open" zf6)
 (e6:MeS K Ab "taken" zf7)
 (e7:MeS K Ab "work_left" zf4)
 (o3:OAt K "CalledOff" Aa)
 (m3:CAt K Aa zf0)
 (n12:NoS K Aa "number")
 (n13:NoS K Aa "sort_name")
 (n14:NoS K Aa "came")
 (n15:NoS K Aa "span")
 (n16:NoS K Aa "tries")
 (n17:NoS K Aa "spent")
 (e8:MeS K Aa "called_off" zf8)
 (e9:MeS K Aa "is_open" zf9)
 (e10:MeS K Aa "taken" zf7)
 (e11:MeS K Aa "work_left" zf4)
 (o4:OAt K "Sort" Ap)
 (m4:CAt K Ap zf10)
 (n18:NoS K Ap "name")
 (n19:NoS K Ap "weight")
 (n20:NoS K Ap "speed")
 (n21:NoS K Ap "span")
 (n22:NoS K Ap "tries")
 (e12:MeS K Ap "as_row" zf11)
 (o5:OAt K "Sorts" Ae)
 (m5:CAt K Ae zf12)
 (n23:NoS K Ae "rows")
 (e13:MeS K Ae "sort_of" zf13)
 (o6:OAt K "Verdict" AA)
 (o7:OAt K "Granted" Af)
 (m7:CAt K Af zf14)
 (n24:NoS K Af "number")
 (e14:MeS K Af "granted" zf15)
 (e15:MeS K Af "told" zf16)
 (e16:MeS K Af "word" zf17)
 (o8:OAt K "LateOne" AB)
 (o9:OAt K "House" Ac)
 (m9:CAt K Ac zf18)
 (n25:NoS K Ac "sorts")
 (n26:NoS K Ac "hands")
 (n27:NoS K Ac "turn")
 (n28:NoS K Ac "pieces")
 (n29:NoS K Ac "numbers")
 (n30:NoS K Ac "rows")
 (e17:MeS K Ac "asked" zf19)
 (e18:MeS K Ac "asked_with" zf20)
 (e19:MeS K Ac "call_off" zf21)
 (e20:MeS K Ac "check_room" zf22)
 (e21:MeS K Ac "chores_now" zf23)
 (e22:MeS K Ac "claims_now" zf24)
 (e23:MeS K Ac "come" zf25)
 (e24:MeS K Ac "come_to" zf26)
 (e25:MeS K Ac "held" zf27)
 (e26:MeS K Ac "hold" zf28)
 (e27:MeS K Ac "latest_turn" zf29)
 (e28:MeS K Ac "piece_of" zf30)
 (e29:MeS K Ac "pieces_waiting" zf31)
 (e30:MeS K Ac "places" zf32)
 (e31:MeS K Ac "tell" zf33)
 (e32:MeS K Ac "told_now" zf34)
 (e33:MeS K Ac "waiting" zf35)
 (e34:MeS K Ac "waiting_piece" zf36)
 (AN:K.lookup zf0=some ⟨zo0,zp0,.func (W.fnOf "__init__" "Piece.__init__" (zaq zaM) (zan zaM) (zac zaM) (.ref zd0) zq0 zr0 zs0 zt0 zu0 zv0),zw0⟩) (AO:W.codeIn K zu0 "Piece.__init__" = true) (AQ:W.keepIn K (.ref zf0)=true) (Aw:W.isFn K (.ref zf0)=true) (AR:K.lookup zd0=some ze0) (AS:Obj.data ze0=.seq #[.int 0 zk0] zn0)
 (h1:MAt K "called_off" "Held.called_off" zbz zf1 zo1 zp1 zq1 zr1 zs1 zt1 zu1 zv1 zw1)
 (h2:MAt K "is_open" "Held.is_open" zcp zf2 zo2 zp2 zq2 zr2 zs2 zt2 zu2 zv2 zw2)
 (h3:MAt K "taken" "Held.taken" zdc zf3 zo3 zp3 zq3 zr3 zs3 zt3 zu3 zv3 zw3)
 (h4:MAt K "work_left" "Piece.work_left" zby zf4 zo4 zp4 zq4 zr4 zs4 zt4 zu4 zv4 zw4)
 (h5:MAt K "called_off" "Waiting.called_off" zbe zf5 zo5 zp5 zq5 zr5 zs5 zt5 zu5 zv5 zw5)
 (h6:MAt K "is_open" "Waiting.is_open" zbA zf6 zo6 zp6 zq6 zr6 zs6 zt6 zu6 zv6 zw6)
 (h7:MAt K "taken" "Piece.taken" zcM zf7 zo7 zp7 zq7 zr7 zs7 zt7 zu7 zv7 zw7)
 (h8:MAt K "called_off" "Piece.called_off" zbq zf8 zo8 zp8 zq8 zr8 zs8 zt8 zu8 zv8 zw8)
 (h9:MAt K "is_open" "Piece.is_open" zca zf9 zo9 zp9 zq9 zr9 zs9 zt9 zu9 zv9 zw9)
 (h10:MAt K "__init__" "Sort.__init__" zcb zf10 zo10 zp10 zq10 zr10 zs10 zt10 zu10 zv10 zw10)
 (h11:MAt K "as_row" "Sort.as_row" zcN zf11 zo11 zp11 zq11 zr11 zs11 zt11 zu11 zv11 zw11)
 (h12:MAt K "__init__" "Sorts.__init__" zbS zf12 zo12 zp12 zq12 zr12 zs12 zt12 zu12 zv12 zw12)
 (h13:MAt K "sort_of" "Sorts.sort_of" zcc zf13 zo13 zp13 zq13 zr13 zs13 zt13 zu13 zv13 zw13)
 (h14:MAt K "__init__" "Granted.__init__" zbr zf14 zo14 zp14 zq14 zr14 zs14 zt14 zu14 zv14 zw14)
 (h15:MAt K "granted" "Granted.granted" zbB zf15 zo15 zp15 zq15 zr15 zs15 zt15 zu15 zv15 zw15)
 (h16:MAt K "told" "Granted.told" zcr zf16 zo16 zp16 zq16 zr16 zs16 zt16 zu16 zv16 zw16)
 (h17:MAt K "word" "Granted.word" zcq zf17 zo17 zp17 zq17 zr17 zs17 zt17 zu17 zv17 zw17)
 (h18:MAt K "__init__" "House.__init__" zbT zf18 zo18 zp18 zq18 zr18 zs18 zt18 zu18 zv18 zw18)
 (h19:MAt K "asked" "House.asked" zcO zf19 zo19 zp19 zq19 zr19 zs19 zt19 zu19 zv19 zw19)
 (h20:MAt K "asked_with" "House.asked_with" zbt zf20 zo20 zp20 zq20 zr20 zs20 zt20 zu20 zv20 zw20)
 (h21:MAt K "call_off" "House.call_off" zbV zf21 zo21 zp21 zq21 zr21 zs21 zt21 zu21 zv21 zw21)
 (h22:MAt K "check_room" "House.check_room" zbs zf22 zo22 zp22 zq22 zr22 zs22 zt22 zu22 zv22 zw22)
 (h23:MAt K "chores_now" "House.chores_now" zbv zf23 zo23 zp23 zq23 zr23 zs23 zt23 zu23 zv23 zw23)
 (h24:MAt K "claims_now" "House.claims_now" zbu zf24 zo24 zp24 zq24 zr24 zs24 zt24 zu24 zv24 zw24)
 (h25:MAt K "come" "House.come" zdd zf25 zo25 zp25 zq25 zr25 zs25 zt25 zu25 zv25 zw25)
 (h26:MAt K "come_to" "House.come_to" zcd zf26 zo26 zp26 zq26 zr26 zs26 zt26 zu26 zv26 zw26)
 (h27:MAt K "held" "House.held" zdg zf27 zo27 zp27 zq27 zr27 zs27 zt27 zu27 zv27 zw27)
 (h28:MAt K "hold" "House.hold" zde zf28 zo28 zp28 zq28 zr28 zs28 zt28 zu28 zv28 zw28)
 (h29:MAt K "latest_turn" "House.latest_turn" zbg zf29 zo29 zp29 zq29 zr29 zs29 zt29 zu29 zv29 zw29)
 (h30:MAt K "piece_of" "House.piece_of" zbU zf30 zo30 zp30 zq30 zr30 zs30 zt30 zu30 zv30 zw30)
 (h31:MAt K "pieces_waiting" "House.pieces_waiting" za4 zf31 zo31 zp31 zq31 zr31 zs31 zt31 zu31 zv31 zw31)
 (h32:MAt K "places" "House.places" zcs zf32 zo32 zp32 zq32 zr32 zs32 zt32 zu32 zv32 zw32)
 (h33:MAt K "tell" "House.tell" zdf zf33 zo33 zp33 zq33 zr33 zs33 zt33 zu33 zv33 zw33)
 (h34:MAt K "told_now" "House.told_now" zbW zf34 zo34 zp34 zq34 zr34 zs34 zt34 zu34 zv34 zw34)
 (h35:MAt K "waiting" "House.waiting" zce zf35 zo35 zp35 zq35 zr35 zs35 zt35 zu35 zv35 zw35)
 (h36:MAt K "waiting_piece" "House.waiting_piece" za7 zf36 zo36 zp36 zq36 zr36 zs36 zt36 zu36 zv36 zw36)
 (q0:KtC K Aa Ad false)
 (q1:KtC K Aa Ab false)
 (q2:KtC K Ad Ad true)
 (q3:KtC K Ad Ab false)
 (q4:KtC K Ab Ad false)
 (q5:KtC K Ab Ab true)
 (q6:KtT K "NoneType" "bool" false)
 (q7:KtT K "NoneType" "int" false)
 (q8:KtT K "NoneType" "list" false)
 (q9:KtT K "NoneType" "str" false)
 (q10:KtT K "NoneType" "tuple" false)
 (q11:KtT K "bool" "bool" true)
 (q12:KtT K "bool" "str" false)
 (q13:KtT K "dict" "str" false)
 (q14:KtT K "int" "bool" false)
 (q15:KtT K "int" "int" true)
 (q16:KtT K "int" "list" false)
 (q17:KtT K "int" "str" false)
 (q18:KtT K "int" "tuple" false)
 (q19:KtT K "list" "bool" false)
 (q20:KtT K "list" "int" false)
 (q21:KtT K "list" "list" true)
 (q22:KtT K "list" "str" false)
 (q23:KtT K "list" "tuple" false)
 (q24:KtT K "str" "bool" false)
 (q25:KtT K "str" "int" false)
 (q26:KtT K "str" "list" false)
 (q27:KtT K "str" "str" true)
 (q28:KtT K "str" "tuple" false)
 (q29:KtT K "tuple" "bool" false)
 (q30:KtT K "tuple" "int" false)
 (q31:KtT K "tuple" "list" false)
 (q32:KtT K "tuple" "str" false)
 (q33:KtT K "tuple" "tuple" true)
 : ∃(fd fg:FuncData) (ag:Addr) (og:Obj),(∀(s:Shared) (v:Value),BindsTo s fd ⟨[v],[]⟩ [("_law_script",v)])/\mg "claims_in_order" = some (.ref ag)/\K.lookup ag=some og/\og.data=.func fg/\∀(tT:Addr) (bf:Heap),K.In bf->bf.Ns mainGlobals mg->Site K mg bf fg.code tT->FnOk l.prog w K mg bf CX0 20 fa fd ["_law_script"] (zmz K tT):=by
 cases hfa.symm.trans (W.mg_of X G d41.a)
 have T:Txt K mg Ag Aj Ak Ai Am Ao Av Ah Az Bb Ad Ab Aa Ap Ae AA Af AB Ac:=⟨znd,xa0.g X G,xa0.xd,xa0.cls gc,xa1.g X G,xa1.xd,xa1.cls gc,xa2.g X G,xa2.xd,xa2.cls gc,y2.y6,xa3.g X G,xa3.xd,xa3.cls gc,y3.y6,xa4.g X G,xa4.xd,xa4.cls gc,y4.y6,xa5.g X G,xa5.xd,xa5.cls gc,y5.y6,xa6.g X G,xa6.xd,xa6.cls gc,y6.y6,xa7.g X G,xa7.xd,xa7.cls gc,xa8.g X G,xa8.xd,xa8.cls gc,y8.y6,W.mg_none_of X G B5.e,W.mg_none_of X G Ew.e,W.mg_none_of X G Ex.e,W.mg_none_of X G Ey.e,W.mg_none_of X G Eb.e,W.mg_none_of X G Ec.e,W.mg_none_of X G Ez.e,W.mg_none_of X G B8.e,W.mg_none_of X G EA.e,W.mg_none_of X G Ed.e,W.mg_none_of X G EB.e,W.mg_none_of X G DX.e,W.mg_none_of X G Ee.e,W.mg_none_of X G EC.e,W.mg_none_of X G DC.e,W.mg_none_of X G ED.e,W.mg_none_of X G DY.e,⟨_,W.mg_of X G AE.e⟩,⟨_,W.mg_of X G Bw.e⟩,⟨_,W.mg_of X G AG.e⟩,⟨_,W.mg_of X G Bd.e⟩,⟨_,W.mg_of X G AX.e⟩,⟨_,W.mg_of X G Be.e⟩,⟨_,W.mg_of X G AY.e⟩,⟨_,W.mg_of X G AZ.e⟩,⟨_,W.mg_of X G Bf.e⟩,⟨_,W.mg_of X G As.e⟩,o0.g X G,o0.ow gc,o1.g X G,o1.ow gc,n0.e,n1.e,n2.e,n3.e,n4.e,n5.e,o2.g X G,o2.ow gc,n6.e,n7.e,n8.e,n9.e,n10.e,n11.e,o3.g X G,o3.ow gc,n12.e,n13.e,n14.e,n15.e,n16.e,n17.e,o4.g X G,o4.ow gc,n18.e,n19.e,n20.e,n21.e,n22.e,o5.g X G,o5.ow gc,n23.e,o6.g X G,o6.ow gc,o7.g X G,o7.ow gc,n24.e,o8.g X G,o8.ow gc,o9.g X G,o9.ow gc,n25.e,n26.e,n27.e,n28.e,n29.e,n30.e,q0.e,q1.e,q2.e,q3.e,q4.e,q5.e,q6.e,q7.e,q8.e,q9.e,q10.e,q11.e,q12.e,q13.e,q14.e,q15.e,q16.e,q17.e,q18.e,q19.e,q20.e,q21.e,q22.e,q23.e,q24.e,q25.e,q26.e,q27.e,q28.e,q29.e,q30.e,q31.e,q32.e,q33.e⟩
 have zlS:=d0.d3 X G "thing" "low" "high"
 have zig:=d1.d3 X G "text" "first" "last"
 have zoe:=d2.d1 X G "thing"
 have zfO:=d3.d2 X G "one" "other"
 have zpi:=d4.d2 X G "top" "bottom"
 have zkh:=d5.d1 X G "thing"
 have zjr:=d6.d2 X G "claims" "turn"
 have zg0:=d7.d1 X G "claims"
 have zki:=d8.d3 X G "claim" "turn" "common"
 have zfq:=d9.c2 X G "claims" "turn"
 have zeB:=d10.d2 X G "claims" "turn"
 have zlT:=d11.d2 X G "claims" "turn"
 have zfP:=d12.d3 X G "chores" "hands" "turn"
 have zg1:=d13.d2 X G "chores" "numbers"
 have zkj:=d14.d3 X G "chores" "hands" "turn"
 have zhg:=d15.d2 X G "chores" "real"
 have F16:=zqD (st:=zcI) l16 c16 k16 t16 u16
 have b16:=F16.binds (ps:=pl14) fun _ _ _ _ _ _ _ us hl=>by obtain ⟨_,_,_,_,rfl⟩:=ul4 hl;exact ⟨_,rfl,rfl⟩
 have bd16:=F16.bindsD (ps:=pl14) fun _ _ _ _ _ _ _ us hl=>by obtain ⟨_,_,_,rfl⟩:=ul3 (show us.length=3 by rw [length_append] at hl;exact Nat.succ.inj hl);exact ⟨_,rfl,rfl⟩
 have zpj:DfnD K mg "run_of" zcI pl14 _ _:=⟨F16,b16,bd16,W.mg_of X G a16⟩
 have zih:=d17.d2 X G "chores" "number"
 have zii:=d18.d2 X G "chores" "number"
 have zjs:=d19.d1 X G "rows"
 have zjt:=d20.d3 X G "chores" "hands" "begin"
 have zkk:=d21.d4 X G "chores" "hands" "begin" "number"
 have zlU:=d22.d4 X G "chores" "hands" "begin" "told"
 have zlV:=d23.d2 X G "piece" "sorts"
 have zlW:=d24.d2 X G "piece" "sorts"
 have zpk:=d25.d1 X G "thing"
 have zlX:=d26.d1 X G "thing"
 have zkl:=d27.d1 X G "weight"
 have zkm:=d28.d1 X G "row"
 have zkn:=d29.d2 X G "pieces" "sorts"
 have zju:=d30.d2 X G "pieces" "changed"
 have zlY:=d31.d2 X G "_law_script" "_law_k"
 have zof:=d32.d2 X G "_law_cell_here" "_law_k"
 have zlZ:=d33.d3 X G "_law_cell_here" "_law_k" "_law_many_here"
 have zjv:=d34.d2 X G "_law_cell_here" "_law_k"
 have zhh:=d35.d0 X G
 have zl0:=d36.d2 X G "_law_sorts" "_law_hands"
 have zij:=d37.d3 X G "_law_house" "_law_thing" "_law_turn"
 have zl1:=d38.d3 X G "_law_house" "_law_word" "_law_turn"
 have zjw:=d39.d2 X G "_law_house" "_law_cell_here"
 have zko:=d40.d1 X G "_law_cell_here"
 have zts:=d41.d1 X G "_law_script"
 refine ⟨W.fnOf "law" "law" (zaq zlH) (zan zlH) (zac zlH) .none xq41 xr41 xs41 xt41 xu41 xv41,W.fnOf "claims_in_order" "claims_in_order" (zaq zax) (zan zax) (zac zax) .none xq9 xr9 xs9 xt9 xu9 xv9,xf9,⟨xo9,xp9,.func (W.fnOf "claims_in_order" "claims_in_order" (zaq zax) (zan zax) (zac zax) .none xq9 xr9 xs9 xt9 xu9 xv9),xw9⟩,fun s v=>.of_eq rfl,W.mg_of X G d9.a,d9.l,rfl,fun tT bf _ _ SI=>?_⟩
 have EF:=xa0.c0 gc X G
 have Df:=xa1.c0 gc X G
 have DB:XCal l.prog w K mg bf "NoSort" Ak "name" := xa2.c1 gc X G y2 fun F=>zdr F zlI rfl rfl rfl rfl rfl (fun _=>rfl)
 have Dg:XCal l.prog w K mg bf "NoHands" Ai "hands" := xa3.c1 gc X G y3 fun F=>zdr F zjU rfl rfl rfl rfl rfl (fun _=>rfl)
 have Cq:XCal l.prog w K mg bf "NoTurn" Am "turn" := xa4.c1 gc X G y4 fun F=>zdr F zlJ rfl rfl rfl rfl rfl (fun _=>rfl)
 have Cr:XCal l.prog w K mg bf "NoPiece" Ao "number" := xa5.c1 gc X G y5 fun F=>zdr F zjV rfl rfl rfl rfl rfl (fun _=>rfl)
 have CW:XCal l.prog w K mg bf "Over" Av "number" := xa6.c1 gc X G y6 fun F=>zdr F zoY rfl rfl rfl rfl rfl (fun _=>rfl)
 have Dh:=xa7.c0 gc X G
 have EZ:XCal l.prog w K mg bf "NoEnd" Az "number" := xa8.c1 gc X G y8 fun F=>zdr F zns rfl rfl rfl rfl rfl (fun _=>rfl)
 have AT:=zqI (st:=zaM) AN AO AQ AR AS
 have CL:=AT.binds (ps:=pl2) fun _ _ _ _ _ _ _ us hl=>by obtain ⟨_,_,_,_,_,_,_,rfl⟩:=ul7 hl;exact ⟨_,rfl,rfl⟩
 have CM:=AT.bindsD (ps:=pl2) fun _ _ _ _ _ _ _ us hl=>by obtain ⟨_,_,_,_,_,_,rfl⟩:=ul6 (show us.length=6 by rw [length_append] at hl;exact Nat.succ.inj hl);exact ⟨_,rfl,rfl⟩
 have AD:MfnE K "__init__" "Piece.__init__" zaM pl2 _ _ _:=⟨AT,CL,CM⟩
 have Bs:=h1.m1 "self"
 have B9:=h2.m1 "self"
 have Ct:=h3.m1 "self"
 have Ay:=h4.m1 "self"
 have A6:=h5.m1 "self"
 have Bt:=h6.m1 "self"
 have Bv:=h7.m1 "self"
 have Bi:=h8.m1 "self"
 have BR:=h9.m1 "self"
 have BS:=h10.m6 "self" "name" "weight" "speed" "span" "tries"
 have Cj:=h11.m1 "self"
 have BD:=h12.m2 "self" "rows"
 have BT:=h13.m2 "self" "name"
 have Bj:=h14.m2 "self" "number"
 have Bu:=h15.m1 "self"
 have Ca:=h16.m1 "self"
 have Cb:=h17.m1 "self"
 have BE:=h18.m3 "self" "sorts" "hands"
 have Ck:=h19.m5 "self" "pieces" "sorts" "hands" "number"
 have Bk:=h20.m2 "self" "piece"
 have BF:=h21.m2 "self" "number"
 have Bl:=h22.m1 "self"
 have Bm:=h23.m1 "self"
 have Bn:=h24.m1 "self"
 have Cu:=h25.m2 "self" "sort"
 have BU:=h26.m2 "self" "place"
 have Cv:=h27.m1 "self"
 have Cw:=h28.m3 "self" "sort" "turn"
 have A8:=h29.m2 "self" "number"
 have BG:=h30.m2 "self" "number"
 have AJ:=h31.m1 "self"
 have Cc:=h32.m1 "self"
 have Cy:=h33.m2 "self" "number"
 have BH:=h34.m1 "self"
 have BV:=h35.m1 "self"
 have AK:=h36.m2 "self" "number"
 have zdy:=zkc (P:=l.prog) (w:=w) (bf:=bf) T zlY
 have zaW:=zlR (P:=l.prog) (w:=w) (bf:=bf) T zof
 have zbk:=zke T zlZ zaW
 have za8:=zie T zjv zaW zbk
 have zcu:=zgZ (P:=l.prog) (w:=w) (bf:=bf) T zhh
 have zau:=zjZ (P:=l.prog) (w:=w) (bf:=bf) T zlS
 have zcP:=zg6 (P:=l.prog) (w:=w) (bf:=bf) T zig
 have zgI:=zlP T zoe zcP
 have zcQ:=zja T zkh zau
 have zhW:=znJ T zpk zau zgI zcQ
 have zfa:=zj1 T zlX zhW
 have zaS:=ze7 (P:=l.prog) (w:=w) (bf:=bf) T zfO
 have zhX:=znH T zpi zaS
 have zcR:=zjc T zkl zhX
 have Dj:=zfF T BS zcR
 have D8:MakG CX0 l.prog w K mg bf "Sort" Ap 4 (znD Ap):=⟨_,_,_,_,m4.mk_ h10.i,FnOk.mono Dj (by decide),BS.b,o4.g X G,zss T.Dw.cl (no5 T.BI T.BJ T.BZ T.BK T.Bp)⟩
 have zbC:=zje T zkm D8
 have DE:=zg8 (P:=l.prog) (w:=w) (bf:=bf) T Cj
 have DA:=mok e12 h11 T.Dw Cj DE
 have CZ:=ze9 T BD zfa zbC Df DA
 have DU:MakG (CX1 l.prog w) l.prog w K mg bf "Sorts" Ae 7 (znG K Ae Aj):=⟨_,_,_,_,m5.mk_ h12.i,FnOk.mono CZ (by decide),BD.b,o5.g X G,zst T.DS.cl T.CV⟩
 have C0:=zff T BE zau Dg DU
 have CJ:MakG (CX1 l.prog w) l.prog w K mg bf "House" Ac 9 (zk8 K (CsA.mk Ad Ab Aa) Ae Ac Aj Ai):=⟨_,_,_,_,m9.mk_ h18.i,FnOk.mono C0 (by decide),BE.b,o9.g X G,zsy T.An.cl (noH T.At T.A9 T.Ax T.Al T.AH T.DI)⟩
 have zcC:=zkf T zl0 CJ
 have A7:=ze6 (P:=l.prog) (w:=w) (bf:=bf) T AD
 have BB:Mak l.prog w K mg bf "Waiting" Ab 1 pl1 (.int 0):=MfnE.mak AD A7 T.Bx.cl (no6 T.BN T.Bg T.Cg T.Ci T.BX T.BY) (m2.mk_ Aw) (o2.g X G) ⟨_,rfl⟩
 have zaV:=zfI (P:=l.prog) (w:=w) (bf:=bf) T zg1
 have zcf:=zfH T zg0 zaS
 have zdV:=zjf (P:=l.prog) (w:=w) (bf:=bf) T zki
 have zbD:=zev (tT:=tT) T zfq SI zcf zdV
 have zaK:=zdX T zeB zbD
 have zbX:=zfb T zfP zaK
 have zdY:=zjg T zkj zbX zaV
 have zct:=zgM (P:=l.prog) (w:=w) (bf:=bf) T zhg
 have zdw:=znP T zpj zaV zdY zct
 have zbi:=zh2 (P:=l.prog) (w:=w) (bf:=bf) T zjs
 have zfn:=zj8 T zlU zdw zbi
 have Dk:=zfG T BT zbC DB
 have AC:=mok e13 h13 T.DS BT Dk
 have zb4:=zj3 T zlV AC
 have Dr:=zgF (P:=l.prog) (w:=w) (bf:=bf) T B9
 have CO:=zeq (P:=l.prog) (w:=w) (bf:=bf) T Bt
 have Dl:=zfD (P:=l.prog) (w:=w) (bf:=bf) T BR
 have BA:∀d,MOk CX0 l.prog w K mg bf 1 (CsA.cl (CsA.mk Ad Ab Aa) d) "is_open" (zi6 (CsA.mk Ad Ab Aa) d):=fun d=>match d with
  | .held=>⟨T.Dv.cl,_,_,_,⟨e1.e,h2.i,h2.k⟩,FnOk.mono Dr (by decide),B9.b⟩
  | .waiting=>⟨T.Bx.cl,_,_,_,⟨e5.e,h6.i,h6.k⟩,FnOk.mono CO (by decide),Bt.b⟩
  | .calledOff=>⟨T.AL.cl,_,_,_,⟨e9.e,h9.i,h9.k⟩,FnOk.mono (FnOk.imp Dl (fun vs H Q E h=>let ⟨a,p,e,hp,q⟩:=h;⟨a,e,q⟩)) (by decide),BR.b⟩
 have AU:=zes T Ay BA
 have Cn:∀d,MOk CX0 l.prog w K mg bf 2 (CsA.cl (CsA.mk Ad Ab Aa) d) "work_left" (znA (CsA.mk Ad Ab Aa)):=fun d=>match d with
  | .held=>⟨T.Dv.cl,_,_,_,⟨e3.e,h4.i,h4.k⟩,FnOk.mono AU (by decide),Ay.b⟩
  | .waiting=>⟨T.Bx.cl,_,_,_,⟨e7.e,h4.i,h4.k⟩,FnOk.mono AU (by decide),Ay.b⟩
  | .calledOff=>⟨T.AL.cl,_,_,_,⟨e11.e,h4.i,h4.k⟩,FnOk.mono AU (by decide),Ay.b⟩
 have zfd:=zj5 T zlW zb4 Cn
 have zbE:=zjk T zkn zfd BA
 have Cz:=zd1 (P:=l.prog) (w:=w) (bf:=bf) T Bj
 have BC:MakG CX0 l.prog w K mg bf "Granted" Af 1 (zk6 Af):=⟨_,_,_,_,m7.mk_ h14.i,FnOk.mono Cz (by decide),Bj.b,o7.g X G,zsx T.B0.cl T.BQ⟩
 have BW:=zcV (P:=l.prog) (w:=w) (bf:=bf) T AJ
 have Au:=mok e29 h31 T.An AJ BW
 have C1:=zfk T BH Au
 have CI:=mok e32 h34 T.An BH C1
 have DF:=zhd T Ck zfn zbE BC CI
 have DW:=mok e17 h19 T.An Ck DF
 have CA:=zd3 T Bm zbE
 have Aq:=mok e21 h23 T.An Bm CA
 have CB:=zd8 T Bl Dh Aq
 have Bq:=mok e20 h22 T.An Bl CB
 have CC:=zea T Bk DW Bq
 have AF:=mok e18 h20 T.An Bk CC
 have zbj:=zh8 (P:=l.prog) (w:=w) (bf:=bf) T zju
 have DL:=zhU T Ct BB
 have CD:=zg4 (P:=l.prog) (w:=w) (bf:=bf) T Bv CW
 have DV:∀d,MOk (CX1 l.prog w) l.prog w K mg bf 4 (CsA.cl (CsA.mk Ad Ab Aa) d) "taken" (zgH K (CsA.mk Ad Ab Aa) Av zkX d):=fun d=>match d with
  | .held=>⟨T.Dv.cl,_,_,_,⟨e2.e,h3.i,h3.k⟩,FnOk.mono DL (by decide),Ct.b⟩
  | .waiting=>⟨T.Bx.cl,_,_,_,⟨e6.e,h7.i,h7.k⟩,FnOk.mono (FnOk.imp CD (fun vs H Q E h=>let ⟨a,p,e,hp,q⟩:=h;⟨a,.waiting,p,e,hp,q.2 rfl⟩)) (by decide),Bv.b⟩
  | .calledOff=>⟨T.AL.cl,_,_,_,⟨e10.e,h7.i,h7.k⟩,FnOk.mono (FnOk.imp CD (fun vs H Q E h=>let ⟨a,p,e,hp,q⟩:=h;⟨a,.calledOff,p,e,hp,q.2 rfl⟩)) (by decide),Bv.b⟩
 have zcS:=zha T zih zau
 have zcT:=zhc T zii zcS Cr
 have zdl:=zh4 T zjt zdw zbi
 have zd6:=zji T zkk zcT zdl
 have Co:=zdA T A8 zd6 Aq
 have BL:=mok e27 h29 T.An A8 Co
 have C2:=zfi T BG zau Cr
 have Ba:=mok e28 h30 T.An BG C2
 have Cd:=zc0 T AK CW Ba
 have Bh:=mok e34 h36 T.An AK Cd
 have DM:=zh9 T Cy BL Bh
 have Dx:=mok e31 h33 T.An Cy DM
 have Dm:=zfM T BU zbj BC DV Dx
 have Di:=mok e24 h26 T.An BU Dm
 have CP:=zex (P:=l.prog) (w:=w) (bf:=bf) T Bu
 have AI:=mok e14 h15 T.B0 Bu CP
 have Ds:=zgT (P:=l.prog) (w:=w) (bf:=bf) T Cc
 have Ce:=mok e30 h32 T.An Cc Ds
 have DN:=zic T Cu BB AF Di AI Ce AC Dx
 have Br:=mok e23 h25 T.An Cu DN
 have Ea:Mak l.prog w K mg bf "Held" Ad 1 pl1 (.int 0):=MfnE.mak AD A7 T.Dv.cl (no6 T.Cp T.BM T.C9 T.Da T.CT T.CU) (m1.mk_ Aw) (o1.g X G) ⟨_,rfl⟩
 have DO:=zib T Cw zau Cq Ea AF AC
 have B4:=mok e26 h28 T.An Cw DO
 have zb3:=zhf T zij Br B4
 have zb5:=zkg T zl1 Br B4
 have zdn:=zif T zjw zaW zbk Br AI B4
 have AM:Mak l.prog w K mg bf "CalledOff" Aa 1 pl1 (.int 0):=MfnE.mak AD A7 T.AL.cl (no6 T.Bo T.A0 T.BO T.BP T.By T.Bz) (m3.mk_ Aw) (o3.g X G) ⟨_,rfl⟩
 have CQ:=zeu T Bs AM
 have Cf:=zdi T A6 AM
 have CF:=zdU (P:=l.prog) (w:=w) (bf:=bf) T Bi CW
 have B3:∀d,MOk (CX1 l.prog w) l.prog w K mg bf 4 (CsA.cl (CsA.mk Ad Ab Aa) d) "called_off" (zgH K (CsA.mk Ad Ab Aa) Av zgG d):=fun d=>match d with
  | .held=>⟨T.Dv.cl,_,_,_,⟨e0.e,h1.i,h1.k⟩,FnOk.mono CQ (by decide),Bs.b⟩
  | .waiting=>⟨T.Bx.cl,_,_,_,⟨e4.e,h5.i,h5.k⟩,FnOk.mono Cf (by decide),A6.b⟩
  | .calledOff=>⟨T.AL.cl,_,_,_,⟨e8.e,h8.i,h8.k⟩,FnOk.mono (FnOk.imp CF (fun vs H Q E h=>let ⟨a,p,e,hp,q⟩:=h;⟨a,.calledOff,p,e,hp,q.2 rfl⟩)) (by decide),Bi.b⟩
 have C3:=zfm T BF zbj B3 Ba
 have CK:=mok e19 h21 T.An BF C3
 have DP:=zh6 T Cv Ce
 have D5:=mok e25 h27 T.An Cv DP
 have Dt:=zgP (P:=l.prog) (w:=w) (bf:=bf) T Cb
 have D9:=mok e16 h17 T.B0 Cb Dt
 have Du:=zgR T Ca D9
 have DJ:=mok e15 h16 T.B0 Ca Du
 have zdk:=zh0 T zjr zau Cq
 have zfg:=zj7 T zlT zdk zaK
 have CG:=zd5 T Bn zb4 Au
 have B1:=mok e22 h24 T.An Bn CG
 have Dn:=zfK T BV zfg B1
 have Cs:=mok e33 h35 T.An BV Dn
 have zeb:=zjq T zko zaW za8 zb3 zb5 zdn CJ CK Aq Br D5 DJ Cs
 exact zsI T zts zdy za8 zcu zcC zeb
theorem walk {l:W.OpenLaw} {q:Program} {loose:List Str} {XP:(Str->Option Value)->Heap->Prop} {YP:World->Heap->Prop} {d:DefRec} {K:Params->W.Frag} (hn:l.most=some 63) (hdf:d.params.defaults=[])
  (hY:∀(w:World) (h:Heap),YP w h->(K w.params).In h) (hK:∀p,zgt (K p)=true) (hrec:∃dr,(PyProof.Rows.recsOf q).find? (fun e=>e.name==("claims_in_order" : Str))=some dr)
  (F:∀(w:World) (mg:Str->Option Value) (fa:Addr) (h:Heap),(K w.params).In h->h.Ns mainGlobals mg->mg d.name=some (.ref fa)->
    ∃(fd fg:FuncData) (ag:Addr) (og:Obj),(∀(s:Shared) (u:Value),BindsTo s fd ⟨[u],[]⟩ [("_law_script",u)])/\mg "claims_in_order" = some (.ref ag)/\(K w.params).lookup ag=some og/\og.data=.func fg/\
     ∀(tT:Addr) (bf:Heap),(K w.params).In bf->bf.Ns mainGlobals mg->Site (K w.params) mg bf fg.code tT->FnOk l.prog w (K w.params) mg bf CX0 20 fa fd ["_law_script"] (zmz (K w.params) tT)):
  W.WalkO q loose XP YP l.row.toRowW d [] (fun f vs=>PySem.call f vs):=
 L2.walk_ofT (n:=63) (k:=20) (x := "_law_script") (g := "claims_in_order") (lp:=zbc) (q:=lamQ) (sp:=fun K tT=>zmz K tT) hn (by decide) hdf ⟨rfl,by decide,by decide,rfl⟩ hY hK hrec F (fun _ _ _ a ns hl hT hS=>⟨a,ns,rfl,hS,hl,hT,fun _=>rfl⟩)
end K79
open PySem PySem.W PyProof.Rows
set_option maxRecDepth 100000 in
set_option maxHeartbeats 0 in
theorem PySem.Challenge.cw_greywait_k79_no_house_and_forty_holds : PySem.Challenge.rw_greywait_k79_no_house_and_forty.Holds := by
 refine K79hd ?_
 k_fill
 refine K79.walk (l:=PySem.Challenge.rw_greywait_k79_no_house_and_forty) rfl rfl (fun w h Y=>PySem.W.km_in_of Y) (fun _=>by kernel_rfl) ⟨_,rfl⟩ ?F
 case F=>
  intro w mg fa h KX G hmg
  refine' K79.all_mk (l:=PySem.Challenge.rw_greywait_k79_no_house_and_forty) (w:=w) KX G hmg ⟨?a0,?l0,?c0,?k0⟩ ⟨?a1,?l1,?c1,?k1⟩ ⟨?a2,?l2,?c2,?k2⟩ ⟨?a3,?l3,?c3,?k3⟩ ⟨?a4,?l4,?c4,?k4⟩ ⟨?a5,?l5,?c5,?k5⟩ ⟨?a6,?l6,?c6,?k6⟩ ⟨?a7,?l7,?c7,?k7⟩ ⟨?a8,?l8,?c8,?k8⟩ ⟨?a9,?l9,?c9,?k9⟩ ⟨?a10,?l10,?c10,?k10⟩ ⟨?a11,?l11,?c11,?k11⟩ ⟨?a12,?l12,?c12,?k12⟩ ⟨?a13,?l13,?c13,?k13⟩ ⟨?a14,?l14,?c14,?k14⟩ ⟨?a15,?l15,?c15,?k15⟩ ?a16 ?l16 ?c16 ?k16 ?t16 ?u16 ⟨?a17,?l17,?c17,?k17⟩ ⟨?a18,?l18,?c18,?k18⟩ ⟨?a19,?l19,?c19,?k19⟩ ⟨?a20,?l20,?c20,?k20⟩ ⟨?a21,?l21,?c21,?k21⟩ ⟨?a22,?l22,?c22,?k22⟩ ⟨?a23,?l23,?c23,?k23⟩ ⟨?a24,?l24,?c24,?k24⟩ ⟨?a25,?l25,?c25,?k25⟩ ⟨?a26,?l26,?c26,?k26⟩ ⟨?a27,?l27,?c27,?k27⟩ ⟨?a28,?l28,?c28,?k28⟩ ⟨?a29,?l29,?c29,?k29⟩ ⟨?a30,?l30,?c30,?k30⟩ ⟨?a31,?l31,?c31,?k31⟩ ⟨?a32,?l32,?c32,?k32⟩ ⟨?a33,?l33,?c33,?k33⟩ ⟨?a34,?l34,?c34,?k34⟩ ⟨?a35,?l35,?c35,?k35⟩ ⟨?a36,?l36,?c36,?k36⟩ ⟨?a37,?l37,?c37,?k37⟩ ⟨?a38,?l38,?c38,?k38⟩ ⟨?a39,?l39,?c39,?k39⟩ ⟨?a40,?l40,?c40,?k40⟩ ⟨?a41,?l41,?c41,?k41⟩ ⟨?B5⟩ ⟨?Ew⟩ ⟨?Ex⟩ ⟨?Ey⟩ ⟨?Eb⟩ ⟨?Ec⟩ ⟨?Ez⟩ ⟨?B8⟩ ⟨?EA⟩ ⟨?Ed⟩ ⟨?EB⟩ ⟨?DX⟩ ⟨?Ee⟩ ⟨?EC⟩ ⟨?DC⟩ ⟨?ED⟩ ⟨?DY⟩ ⟨?AE⟩ ⟨?Bw⟩ ⟨?AG⟩ ⟨?Bd⟩ ⟨?AX⟩ ⟨?Be⟩ ⟨?AY⟩ ⟨?AZ⟩ ⟨?Bf⟩ ⟨?As⟩ ⟨?xcg,?xct⟩ ⟨?xaa0,?xb0,?xcc0,?xd0,?xe0,?xf0,?xg0,?xh0,?xi0,?xj0,?xk0,?xl0⟩ ⟨?xaa1,?xb1,?xcc1,?xd1,?xe1,?xf1,?xg1,?xh1,?xi1,?xj1,?xk1,?xl1⟩ ⟨?xaa2,?xb2,?xcc2,?xd2,?xe2,?xf2,?xg2,?xh2,?xi2,?xj2,?xk2,?xl2⟩ ⟨?ya2,?yb2,?yc2,?yd2,?ye2,?yg2⟩ ⟨?xaa3,?xb3,?xcc3,?xd3,?xe3,?xf3,?xg3,?xh3,?xi3,?xj3,?xk3,?xl3⟩ ⟨?ya3,?yb3,?yc3,?yd3,?ye3,?yg3⟩ ⟨?xaa4,?xb4,?xcc4,?xd4,?xe4,?xf4,?xg4,?xh4,?xi4,?xj4,?xk4,?xl4⟩ ⟨?ya4,?yb4,?yc4,?yd4,?ye4,?yg4⟩ ⟨?xaa5,?xb5,?xcc5,?xd5,?xe5,?xf5,?xg5,?xh5,?xi5,?xj5,?xk5,?xl5⟩ ⟨?ya5,?yb5,?yc5,?yd5,?ye5,?yg5⟩ ⟨?xaa6,?xb6,?xcc6,?xd6,?xe6,?xf6,?xg6,?xh6,?xi6,?xj6,?xk6,?xl6⟩ ⟨?ya6,?yb6,?yc6,?yd6,?ye6,?yg6⟩ ⟨?xaa7,?xb7,?xcc7,?xd7,?xe7,?xf7,?xg7,?xh7,?xi7,?xj7,?xk7,?xl7⟩ ⟨?xaa8,?xb8,?xcc8,?xd8,?xe8,?xf8,?xg8,?xh8,?xi8,?xj8,?xk8,?xl8⟩ ⟨?ya8,?yb8,?yc8,?yd8,?ye8,?yg8⟩ ?znd ⟨?oa0,?ob0,?oc0,?od0,?oe0,?of0,?og0⟩ ⟨?oa1,?ob1,?oc1,?od1,?oe1,?of1,?og1⟩ ⟨?oh1,?oi1,?oj1⟩ ⟨?n0⟩ ⟨?n1⟩ ⟨?n2⟩ ⟨?n3⟩ ⟨?n4⟩ ⟨?n5⟩ ⟨?e0⟩ ⟨?e1⟩ ⟨?e2⟩ ⟨?e3⟩ ⟨?oa2,?ob2,?oc2,?od2,?oe2,?of2,?og2⟩ ⟨?oh2,?oi2,?oj2⟩ ⟨?n6⟩ ⟨?n7⟩ ⟨?n8⟩ ⟨?n9⟩ ⟨?n10⟩ ⟨?n11⟩ ⟨?e4⟩ ⟨?e5⟩ ⟨?e6⟩ ⟨?e7⟩ ⟨?oa3,?ob3,?oc3,?od3,?oe3,?of3,?og3⟩ ⟨?oh3,?oi3,?oj3⟩ ⟨?n12⟩ ⟨?n13⟩ ⟨?n14⟩ ⟨?n15⟩ ⟨?n16⟩ ⟨?n17⟩ ⟨?e8⟩ ⟨?e9⟩ ⟨?e10⟩ ⟨?e11⟩ ⟨?oa4,?ob4,?oc4,?od4,?oe4,?of4,?og4⟩ ⟨?oh4,?oi4,?oj4⟩ ⟨?n18⟩ ⟨?n19⟩ ⟨?n20⟩ ⟨?n21⟩ ⟨?n22⟩ ⟨?e12⟩ ⟨?oa5,?ob5,?oc5,?od5,?oe5,?of5,?og5⟩ ⟨?oh5,?oi5,?oj5⟩ ⟨?n23⟩ ⟨?e13⟩ ⟨?oa6,?ob6,?oc6,?od6,?oe6,?of6,?og6⟩ ⟨?oa7,?ob7,?oc7,?od7,?oe7,?of7,?og7⟩ ⟨?oh7,?oi7,?oj7⟩ ⟨?n24⟩ ⟨?e14⟩ ⟨?e15⟩ ⟨?e16⟩ ⟨?oa8,?ob8,?oc8,?od8,?oe8,?of8,?og8⟩ ⟨?oa9,?ob9,?oc9,?od9,?oe9,?of9,?og9⟩ ⟨?oh9,?oi9,?oj9⟩ ⟨?n25⟩ ⟨?n26⟩ ⟨?n27⟩ ⟨?n28⟩ ⟨?n29⟩ ⟨?n30⟩ ⟨?e17⟩ ⟨?e18⟩ ⟨?e19⟩ ⟨?e20⟩ ⟨?e21⟩ ⟨?e22⟩ ⟨?e23⟩ ⟨?e24⟩ ⟨?e25⟩ ⟨?e26⟩ ⟨?e27⟩ ⟨?e28⟩ ⟨?e29⟩ ⟨?e30⟩ ⟨?e31⟩ ⟨?e32⟩ ⟨?e33⟩ ⟨?e34⟩ ?AN ?AO ?AQ ?Aw ?AR ?AS ⟨?ha1,?hb1,?hc1,?hd1⟩ ⟨?ha2,?hb2,?hc2,?hd2⟩ ⟨?ha3,?hb3,?hc3,?hd3⟩ ⟨?ha4,?hb4,?hc4,?hd4⟩ ⟨?ha5,?hb5,?hc5,?hd5⟩ ⟨?ha6,?hb6,?hc6,?hd6⟩ ⟨?ha7,?hb7,?hc7,?hd7⟩ ⟨?ha8,?hb8,?hc8,?hd8⟩ ⟨?ha9,?hb9,?hc9,?hd9⟩ ⟨?ha10,?hb10,?hc10,?hd10⟩ ⟨?ha11,?hb11,?hc11,?hd11⟩ ⟨?ha12,?hb12,?hc12,?hd12⟩ ⟨?ha13,?hb13,?hc13,?hd13⟩ ⟨?ha14,?hb14,?hc14,?hd14⟩ ⟨?ha15,?hb15,?hc15,?hd15⟩ ⟨?ha16,?hb16,?hc16,?hd16⟩ ⟨?ha17,?hb17,?hc17,?hd17⟩ ⟨?ha18,?hb18,?hc18,?hd18⟩ ⟨?ha19,?hb19,?hc19,?hd19⟩ ⟨?ha20,?hb20,?hc20,?hd20⟩ ⟨?ha21,?hb21,?hc21,?hd21⟩ ⟨?ha22,?hb22,?hc22,?hd22⟩ ⟨?ha23,?hb23,?hc23,?hd23⟩ ⟨?ha24,?hb24,?hc24,?hd24⟩ ⟨?ha25,?hb25,?hc25,?hd25⟩ ⟨?ha26,?hb26,?hc26,?hd26⟩ ⟨?ha27,?hb27,?hc27,?hd27⟩ ⟨?ha28,?hb28,?hc28,?hd28⟩ ⟨?ha29,?hb29,?hc29,?hd29⟩ ⟨?ha30,?hb30,?hc30,?hd30⟩ ⟨?ha31,?hb31,?hc31,?hd31⟩ ⟨?ha32,?hb32,?hc32,?hd32⟩ ⟨?ha33,?hb33,?hc33,?hd33⟩ ⟨?ha34,?hb34,?hc34,?hd34⟩ ⟨?ha35,?hb35,?hc35,?hd35⟩ ⟨?ha36,?hb36,?hc36,?hd36⟩ ⟨?q0⟩ ⟨?q1⟩ ⟨?q2⟩ ⟨?q3⟩ ⟨?q4⟩ ⟨?q5⟩ ⟨?q6⟩ ⟨?q7⟩ ⟨?q8⟩ ⟨?q9⟩ ⟨?q10⟩ ⟨?q11⟩ ⟨?q12⟩ ⟨?q13⟩ ⟨?q14⟩ ⟨?q15⟩ ⟨?q16⟩ ⟨?q17⟩ ⟨?q18⟩ ⟨?q19⟩ ⟨?q20⟩ ⟨?q21⟩ ⟨?q22⟩ ⟨?q23⟩ ⟨?q24⟩ ⟨?q25⟩ ⟨?q26⟩ ⟨?q27⟩ ⟨?q28⟩ ⟨?q29⟩ ⟨?q30⟩ ⟨?q31⟩ ⟨?q32⟩ ⟨?q33⟩
  (case a0|l0|c0|k0|a1|l1|c1|k1|a2|l2|c2|k2|a3|l3|c3|k3|a4|l4|c4|k4|a5|l5|c5|k5|a6|l6|c6|k6|a7|l7|c7|k7|a8|l8|c8|k8|a9|l9|c9|k9|a10|l10|c10|k10|a11|l11|c11|k11|a12|l12|c12|k12|a13|l13|c13|k13|a14|l14|c14|k14|a15|l15|c15|k15|a16|l16|c16|k16|t16=>k_is)
  (case u16=>rfl)
  (case a17|l17|c17|k17|a18|l18|c18|k18|a19|l19|c19|k19|a20|l20|c20|k20|a21|l21|c21|k21|a22|l22|c22|k22|a23|l23|c23|k23|a24|l24|c24|k24|a25|l25|c25|k25|a26|l26|c26|k26|a27|l27|c27|k27|a28|l28|c28|k28|a29|l29|c29|k29|a30|l30|c30|k30|a31|l31|c31|k31|a32|l32|c32|k32|a33|l33|c33|k33|a34|l34|c34|k34|a35|l35|c35|k35|a36|l36|c36|k36|a37|l37|c37|k37|a38|l38|c38|k38|a39|l39|c39|k39|a40|l40|c40|k40|a41|l41|c41|k41|B5|Ew|Ex|Ey|Eb|Ec|Ez|B8|EA|Ed|EB|DX|Ee|EC|DC|ED|DY|AE|Bw|AG|Bd|AX|Be|AY|AZ|Bf|As|xcg|xct|xaa0|xb0|xcc0|xd0|xe0|xf0|xg0|xh0|xi0|xj0=>k_is)
  (case xk0=>rfl)
  (case xl0=>kernel_rfl)
  (case xaa1|xb1|xcc1|xd1|xe1|xf1|xg1|xh1|xi1|xj1=>k_is)
  (case xk1=>rfl)
  (case xl1=>kernel_rfl)
  (case xaa2|xb2|xcc2|xd2|xe2|xf2|xg2|xh2|xi2|xj2|ya2|yb2|yc2|yd2|ye2|yg2=>k_is)
  (case xk2=>rfl)
  (case xl2=>kernel_rfl)
  (case xaa3|xb3|xcc3|xd3|xe3|xf3|xg3|xh3|xi3|xj3|ya3|yb3|yc3|yd3|ye3|yg3=>k_is)
  (case xk3=>rfl)
  (case xl3=>kernel_rfl)
  (case xaa4|xb4|xcc4|xd4|xe4|xf4|xg4|xh4|xi4|xj4|ya4|yb4|yc4|yd4|ye4|yg4=>k_is)
  (case xk4=>rfl)
  (case xl4=>kernel_rfl)
  (case xaa5|xb5|xcc5|xd5|xe5|xf5|xg5|xh5|xi5|xj5|ya5|yb5|yc5|yd5|ye5|yg5=>k_is)
  (case xk5=>rfl)
  (case xl5=>kernel_rfl)
  (case xaa6|xb6|xcc6|xd6|xe6|xf6|xg6|xh6|xi6|xj6|ya6|yb6|yc6|yd6|ye6|yg6=>k_is)
  (case xk6=>rfl)
  (case xl6=>kernel_rfl)
  (case xaa7|xb7|xcc7|xd7|xe7|xf7|xg7|xh7|xi7|xj7=>k_is)
  (case xk7=>rfl)
  (case xl7=>kernel_rfl)
  (case xaa8|xb8|xcc8|xd8|xe8|xf8|xg8|xh8|xi8|xj8|ya8|yb8|yc8|yd8|ye8|yg8=>k_is)
  (case xk8=>rfl)
  (case xl8=>kernel_rfl)
  (case znd=>decide)
  (case oa0|ob0|oc0|od0|oe0|of0|og0|oa1|ob1|oc1|od1|oe1|of1|og1|oh1|oi1|oj1|n0|n1|n2|n3|n4|n5|e0|e1|e2|e3|oa2|ob2|oc2|od2|oe2|of2|og2|oh2|oi2|oj2|n6|n7|n8|n9|n10|n11|e4|e5|e6|e7|oa3|ob3|oc3|od3|oe3|of3|og3|oh3|oi3|oj3|n12|n13|n14|n15|n16|n17|e8|e9|e10|e11|oa4|ob4|oc4|od4|oe4|of4|og4|oh4|oi4|oj4|n18|n19|n20|n21|n22|e12|oa5|ob5|oc5|od5|oe5|of5|og5|oh5|oi5|oj5|n23|e13|oa6|ob6|oc6|od6|oe6|of6|og6|oa7|ob7|oc7|od7|oe7|of7|og7|oh7|oi7|oj7|n24|e14|e15|e16|oa8|ob8|oc8|od8|oe8|of8|og8|oa9|ob9|oc9|od9|oe9|of9|og9|oh9|oi9|oj9|n25|n26|n27|n28|n29|n30|e17|e18|e19|e20|e21|e22|e23|e24|e25|e26|e27|e28|e29|e30|e31|e32|e33|e34|AN|AO|AQ|Aw|AR=>k_is)
  (case AS=>rfl)
  (case ha1|hb1|hc1|hd1|ha2|hb2|hc2|hd2|ha3|hb3|hc3|hd3|ha4|hb4|hc4|hd4|ha5|hb5|hc5|hd5|ha6|hb6|hc6|hd6|ha7|hb7|hc7|hd7|ha8|hb8|hc8|hd8|ha9|hb9|hc9|hd9|ha10|hb10|hc10|hd10|ha11|hb11|hc11|hd11|ha12|hb12|hc12|hd12|ha13|hb13|hc13|hd13|ha14|hb14|hc14|hd14|ha15|hb15|hc15|hd15|ha16|hb16|hc16|hd16|ha17|hb17|hc17|hd17|ha18|hb18|hc18|hd18|ha19|hb19|hc19|hd19|ha20|hb20|hc20|hd20|ha21|hb21|hc21|hd21|ha22|hb22|hc22|hd22|ha23|hb23|hc23|hd23|ha24|hb24|hc24|hd24|ha25|hb25|hc25|hd25|ha26|hb26|hc26|hd26|ha27|hb27|hc27|hd27|ha28|hb28|hc28|hd28|ha29|hb29|hc29|hd29|ha30|hb30|hc30|hd30|ha31|hb31|hc31|hd31|ha32|hb32|hc32|hd32|ha33|hb33|hc33|hd33|ha34|hb34|hc34|hd34|ha35|hb35|hc35|hd35|ha36|hb36|hc36|hd36=>k_is)
  (case q0|q1|q2|q3|q4|q5|q6|q7|q8|q9|q10|q11|q12|q13|q14|q15|q16|q17|q18|q19|q20|q21|q22|q23|q24|q25|q26|q27|q28|q29|q30|q31|q32|q33=>kit_is)
