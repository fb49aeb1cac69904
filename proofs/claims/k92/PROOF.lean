import PyProof.Rows.All
import KE.KNestM
import KE.KSortTup
import KE.KDictOf
import KE.KLam
import KE.KMinBuiltin
import PySem.Challenge.RW_greywait_k92_whole_far_orders
import KE.RegKIsAll
import Wide.FinOn
open List (all_cons all_eq_true any_cons append_nil countP_cons filter_append filter_cons filter_eq_self filter_map filter_sublist find?_cons foldl_cons getD_eq_getElem?_getD getElem?_append_left getElem?_append_right getElem?_eq_getElem getElem?_eq_none getElem?_map getElem_inj getElem_map getElem_mem getElem_of_mem getLast?_map length_append length_cons length_drop length_filter_le length_map length_nil length_range length_take lookup_cons map_append map_congr_left map_cons map_map map_nil map_take map_zipWith mem_append mem_append_right mem_cons mem_cons_of_mem mem_cons_self mem_filter mem_filterMap mem_map mem_of_getElem? mem_of_getLast? mem_of_mem_take mem_range mem_singleton nodup_cons nodup_iff_pairwise_ne not_mem_nil pairwise_cons pairwise_iff_getElem pairwise_map range_succ range_succ_eq_map size_toArray take_add_one take_length take_of_length_le)
set_option Elab.async false
set_option linter.all false
set_option maxRecDepth 100000
structure PySem.W.Fast:Prop where
 (tw14617557155419639457 tw17200058836454019170 tw13364482515750101570 tw13678640185303882498 tw15477285960048411139 tw16401028767749743269 tw4569523885460345350 tw7371038637944258921 tw4135014281514913866 tw476602306526314667 tw18266134044920244717 tw16949436150162291344 tw17571661207662965584 tw6995553641579990705 tw13586181513950211190 tw4655905170971460695 tw1301385411324450231 tw9652432132623401655 tw5383803711663035000 tw13820424853474419576 tw5825043836256263160 tw10340491366905290905 tw17107355502513491577 tw5919521879648143418 tw13791731027593432634 tw2050190667993178811 tw5905934012792328348 tw7503659206445591869 tw15125185088828818365 tw3802951500043597982 tw7579225416348457182 tw6549177830653807198 tw7326899956568105822 tw1578196987388165215 tw4757250971474124636 tw10090829383017397243 tw2404740023358406334 tw1046876656366586660 tw6323768973801787086 tw16602215632198269193 tw11668483279407905738 tw15285979701029498369 tw12901976351319391233 tw9846375891572843801 tw1118308451136329730 tw3425898442482516459 tw17138291953423572107 tw15819161567121136866 tw8097250633869894599 tw12170426864379940154 tw14011561975437869036 tw1201961383872053729 tw8772301973703829345 tw18315703614751676636 tw700522663882269549 tw11232746859712888582 tw11223667112485058444 tw14534300814073119124 tw5186359930527330414 tw1958061910429211366 tw9445614373694186690 tw13696911293599767603 tw12573698548400182512 tw3075903463633562069 tw4367046009137779796 tw3644232078002226820 tw9113144468285828479 tw6882951862962422691 tw11982670860555344756 tw6467511537777320204 tw5028662156336805911 tw5601342073497357030 tw14490780469177161964 tw14001030490672037799 tw15901881065275046231 tw9593670595043453694 tw3740475852441180160 tw13314354072076145377 tw15392810864412452055 tw1584479598920788614 tw7276723661904684348 tw13250521556328019196 tw10276254094822753647 tw1066225358736969520 tw15097915862934935374 tw11389032559981425788 tw551852287399110841 tw4472718433753757494 tw4733851183807028325 tw17629679758093040961 tw24910378150820956 tw2905576047761270557 tw3760776569897482607 tw15536927762603554846 tw15043762435853623760 tw8459414545743723500 tw5187275688244356657 tw12979639777781257677 tw4492728903428627746 tw11520188845085076655 tw9434104453272167158 tw9167204602071743244 tw4784678449860455547 tw5325034762605118100 tw1346443816116919601 tw13879938830883766061 tw5421585130173108175 tw1859258129860538604 tw15451687812216571360 tw12451536925522579352 tw16885061929285087914 tw10354926036668933563 tw12917151569549863713 tw11464943107543743714 tw1526379453647524377 tw5704802410930422942 tw5636328707571674204 tw13771111084266601970 tw15504284445765003663 tw504613955908004832 tw7142247653105828307 tw5295454170698510978 tw13288289715262019026 tw9548607244715901241 tw4835528652849774467 tw1393763565686162940 tw8103518837878125942 tw10034131861998330845 tw2538671835068210894 tw16838077902208876829 tw4114884399890312742 tw11195530041045948706 tw17572601484073378964 tw11126096849649235064 tw3265610244153673818 tw13936635869455737952 tw13855103349250184782 tw5635870082678094602 tw14572908086466640300 tw14898033900394691049 tw12850927374522041161 tw17021610261438469956 tw15938521693239607831 tw15167110610264807314 tw10373492048620601030 tw8484708267160305711 tw9774036517448624588 tw12117686512809898497 tw16708091133053141827 tw5485451875620383789 tw9054573637532399313 tw12056942667218123852 tw1275681381044001772 tw12254791484590823962 tw1218049472920157906 tw16180169186257330901 tw8186158297503917580 tw10849133500613679488 tw3240904979286206276 tw6441653048851350011 tw3353734532582106655 tw3407188927836060985 tw7960638351299617503 tw3864015112041898739 tw15917480909630328437 tw13869829739451652908 tw2262039473585084204 tw6903658010994809617 tw17044160927856788420 tw6876501562115809673 tw11101086995880674909 tw5149700089222498565 tw15225432647170086913 tw9088043436017651720 tw1952903583482927046 tw17444709754923866685 tw1768779311850927563 tw13672768783488043137 tw10789723169238822642 tw2924136718982692455 tw15855329570653673965 tw3650123381940528853 tw6598830530831185725 tw4741993921879594268 tw1181125891018760766 tw16915812791016530667 tw11735527144686462430 tw10312664308463124858 tw10931827929224830749 tw507668256148456921 tw2132441654059951283 tw4627579686967602293 tw1548640439325217290 tw6322158574556153538 tw11726731972036376205 tw18132405410254560876 tw7478371160839009346 tw921502001398664082 tw13087439158555917991 tw103346041696648307 tw12536828803760860720 tw5930742195156643588 tw14359409194798750555 tw17446502014321494305 tw571551985256948813 tw4628356825809964380 tw6940472622524748999 tw1169555322474150404 tw3963401206555232481 tw17848048594842381067 tw14899062879930560694 tw4411661547801712564 tw13641205645684889709 tw1506296109820959123 tw5917707906194055205 tw6212132363403641285 tw11252215814809546116 tw8839563029951183111 tw14954916033382693900 tw15533678531590425196 tw9110636027409431765 tw4604445030315456535 tw1758537112094730316 tw4141021635219064627 tw6506550730648006274 tw3887363768530369674 tw2483850477462966385 tw11187538797819524542 tw9100525839590179002 tw18016635745616030049 tw17850562752648611098 tw8986250660405768268 tw4080187472109904976 tw13602320144214392924 tw7362917576911731397 tw7470114943266962470 tw3217403171337098616 tw15535960901030871439 tw8227554721578010412 tw15066513302150581868 tw16964011221073777976 tw17401960474567455052 tw13104696437337855342 tw6558010731709903641 tw14652185501316561790 tw14398447460559902 tw17593280630808788471 tw10470417084003609469 tw8005447490841418382 tw16300014824086310876 tw8634643608353481134 tw2867939560824588905 tw18241648559966972717 tw16885853835687401005 tw8790444170273159741 tw932478754659311230 tw18056474580353579429 tw5402094234850773442 tw4681900090658229216 tw13313148481757035249 tw666823376697357346 tw7993943215753060709 tw14188221389813780155 tw16953380299139709230 tw5279000205685144012 tw13314784491317675753 tw13772890533047304094 tw15761220237612182915 tw5338376052844077653 tw6350950318328965992 tw2288141877316815450 tw15885943771305230423 tw10163566978693342673 tw8931291615598688003 tw4377072903900398432 tw9874221422097393853 tw16327151326616840024 tw2424166905613955092 tw10640179793866007303 tw10434685203305162780 tw14050264693852358601 tw6674767803547839277 tw14294185754537839290 tw4976253307626982048 tw15927453612194040897 tw2075568428796231393 tw4734846155496325622 tw14962889912898742062 tw9557013206574871606 tw4382491090340555021 tw15046105170714297603 tw3317693647760049672 tw7515988530696581719 tw13597839923753901800 tw8564227313495334697 tw8149220768662800871 tw16664785426030920074 tw17020635839484131376 tw18363691241085562874 tw13471302870365651031 tw6258227291718565771 tw6721401677032326344 tw15776878867878346045 tw13275032887149416700 tw9007085656646644078 tw16164287706523447351 tw10305024805296271770 tw11278848406924277274 tw10480937675264193164 tw14540840422970343434 tw16679936015830836455 tw9351053701915874619 tw12888968531026485959 tw17746472228271830197 tw12780447344605305474 tw15968056679866126574 tw3031860048091911693 tw1227096691938171443 tw8311401261732684940 tw6572433709687163488 tw15979176258170847328 tw12358749612845668775 tw10940262731122773944 tw5993675535701729531 tw15410387084579795097 tw16705021324952757289 tw16384214581462523697 tw7480934167568056055 tw263796735416128632 tw9156514806252936939 tw16091897853593056242 tw10066353217227653129 tw4343595699742943120 tw3224976951785338773 tw4244490554469479466 tw592415759591061255 tw8485018315129992188 tw5348374132572269314 tw6344325970746787371 tw5220810334412533588 tw4818847225665363072 tw10121630166566006028 tw13955461079072031382 tw10340502377235856771 tw2141805239674730252 tw13141635330661658967 tw10587415851176628914 tw8894576312429555520 tw144957520096921480 tw17524626463201723573 tw17079627645979450737 tw18222378696122806148 tw11447570972747230022 tw3910141509612152122 tw10295920094409961462 tw9104759444552647788 tw11857324295961162256 tw8692817795099740408 tw15079435414903818006 tw12050735326361028995 tw11778496989897235987 tw9550136733225937387 tw17185908323071441494 tw6427657257602584350 tw8030469472806328171 tw8175258656625070398 tw15175260397575593016 tw8333768019594214017 tw13850239023183523807 tw12145829950785473904 tw10978076923398484237 tw13369345680810396439 tw10668543643842126308 tw1416689159606293934 tw2604247286364065840 tw6689463364729119022 tw1247838097797811525 tw2318459589399772350 tw10176889202445977862 tw13567491612426329126 tw15148876703546399936 tw14823811057903891739 tw4751237579973604828 tw13530229690407192057 tw3861282585802166326 tw8242918769912586843 tw3289451337883924500 tw6153947810708726819 tw3041993501454979338 tw14992075397644920979 tw13700502741821025941 tw3164532868330357701 tw14487019422316275865 tw12533114469522707728 tw17532865830053936613 tw15972122222833346125 tw4114308939276136459 tw10929471924047692529 tw10916126954493435992 tw10232704247735489686 tw5603322650073209533 tw12595805170608432276 tw755564311346527672 tw1777328854355058574 tw8888458475453480588 tw13580928413279527651 tw15898314125761231060 tw10761045616657273623 tw2976004547461195934 tw1282006964474181204 tw5934204130717914009 tw8467872857987341471 tw12732128622706151806 tw5633132970756883677 tw12845393588702449124 tw12672274634556441908 tw13214094877743945313 tw9656400846378252115 tw13185440470812527980 tw14405153356155976040 tw14142307090656293474 tw17455888148663245756 tw8576588343566737434 tw2990809614408121803 tw15114467056282319099 tw2764567237639847631 tw4311176705242066338 tw14176314137748893345 tw12386512391439538621 tw5591219755130803347 tw14474186394977834082 tw11233364404073378522 tw1068335505345342050 tw9071657781330776721 tw13914361645909735835 tw257383068055468140 tw11504262221271089348 tw10304863545637809681 tw6738024839283268023 tw15077286697359374162 tw9838425253743685491 tw8063205249350178592 tw8580723575079152835 tw5181941797073855252 tw3231624894908885694 tw9454836877346966643 tw1035321473258172690 tw13049510976629352349 tw12125548757945701992 tw2302656945978362965 tw8725231029479575307 tw3018615894867974408 tw4007930075022570114 tw9375766247848422920 tw7416372282252456583 tw8438128544076671888 tw5159876549408254571 tw4917848263560218313 tw18024824687386878052 tw14530901264671712452 tw6294497662632966627 tw3671269268984439986 tw5552028325892623057 tw1281012713811609323 tw3860307321646797526 tw8334602534796293443 tw13226115240492207135 tw606089800900945671 tw9300666950711892142 tw17536556515025786157 tw17984947494544104939 tw16837538940439681279 tw15757316052067804828 tw14333605271152867310 tw3984623706883207554 tw14861980016245280407 tw9937635077147799796 tw8611256573012501600 tw6411284563746843717 tw6149195413436803213 tw843459749559403356 tw3343449350838755725 tw3655009479713329816 tw13780618963792232810 tw15241780912690479518 tw14010336992914954030 tw1496385409997483691 tw14202585268448048946 tw12933414152717528557 tw6080207863686429990 tw5828075780158730406 tw16970363563610513786 tw11111243401971967460 tw15669532081992917652 tw17388402501340295146 tw13331674661861745646 tw3651335943439736104 tw14909101844648827926 tw14821536680907137251 tw2404609132239700561 tw6276818416523699185 tw1268824133368295748 tw3225074130885311274 tw18423622364457192981 tw10367447469044340095 tw3181185460240069293 tw862027520114566348 tw1498781608563762730 tw11074164961245136265 tw795164378231231305 tw3113256874948387555 tw6677595289469183103 tw12982444239801157460 tw12673959701419746683 tw12842044374050803451 tw5561005863179423997 tw1349137788358582820 tw8549344468200824164 tw398896775135430968 tw14714586011819538257 tw17563950529540592924 tw4109836390923576262 tw5687249459063392775 tw12044091579098801376 tw18317413767654743322 tw17191606175992929122 tw11059724962341868365 tw13721859235396313265 tw264346463999020031 tw8417385250718919761 tw14963091453550130371 tw4219932307983127964 tw7864697234201927361 tw7360542879054895012 tw4159871073804334057 tw11213637265487984590 tw6056929808045873211 tw2896326175409913132 tw6382868210427451901 tw1947105240529753808 tw16362670251975329325 tw7521652080971225154 tw10096813964847045214 tw10961691908587960610 tw10378159105321543777 tw194858280925684918 tw15923935076333662480 tw11433678827541310709 tw10977719224159905554 tw6213539852863177106 tw17051256023513774641 tw3811258861633233280 tw14008624085548856689 tw3542504716307756336 tw5161467669135680933 tw8187982845090190069 tw5658202851748760748 tw8583849171735158989 tw2218922440616358125 tw9770033041562341575 tw10479672887775632165 tw15539407241274766063 tw4569549304304376795 tw9679025963223221135 tw5563087744239416570 tw1285031725225376113 tw14798406224797913267 tw8051625126191772644 tw7155706596200738828 tw270569766290377024 tw8089123053829192639 tw13577390770872607352 tw12257237466052682250 tw17606968457653187860 tw9394156811996813334 tw5861256310183839402 tw3579684273178340815 tw15486307263018065328 tw712241105108118980 tw13504639657359032366 tw7248067458354742291 tw10557836329489451118 tw7580097568738532385 tw11898492013522811937 tw17871789255263868410 tw10120435179433098754 tw15937201237941908882 tw8386862829766293855 tw14563643665400792541 tw3776699992277657092 tw7510387149367433993 tw9196443208856986273 tw2459198410698319869 tw7110859432152756246 tw6766553038808977366 tw3631499535528249341 tw6663140724282970274 tw4507462173115878526 tw17197934604888291434 tw14684876278495514416 tw8989137844113163253 tw15874693807861384658 tw4346584260436417866 tw3938882487853220001 tw18096527822933174749 tw2899169289418204410 tw3136547678554233539 tw7237746588873603697 tw4060852308987721632 tw12088041121399553090 tw16764910658183239450 tw17948771181619345675 tw10320492960987651345 tw3238426201931659577 tw3961862357752820285 tw17082834640976956725 tw14887668877043127594 tw318262807423145073 tw2036908582783968964 tw15809286647563824758 tw9664071097317760463 tw13627619789313625117 tw5768153013435714125 tw280504900407149795 tw16058566677565153089 tw2198098450965721799 tw18025337443083887902 tw16916516696880155647 tw128824352671980386 tw2460420785792102929 tw6826099961116809587 tw7438327965248847129 tw7748529376716365059 tw654813206152022601 tw5153903338734728736 tw10643585576813855201 tw5727202056642657095 tw12991217821231565640 tw15701028389054098710 tw16600909091077355345 tw710622491334325208 tw12624248710484791864 tw11693895007327005272 tw2358956218456776774 tw3085703776720556684 tw1550641976035799923 tw963627522369955173 tw8559563729770317731 tw3081491324302128711 tw11832025185753521923 tw14010008455038946772 tw15646927205690164734 tw18318675684236490094 tw17706491396260585685 tw5476502288758978556 tw16990783550888156842 tw5388321950316765211 tw1556890465785322452 tw10222985829118589579 tw8644817206670450150 tw11914030292800397777 tw6719717783492085982 tw13543240525039318456 tw4665067049241614571 tw17719896579133854245 tw16791105041508710887 tw6775739591551217149 tw15154972647664056398 tw5738958646843968704 tw7423099879804771099 tw10201409921569569306 tw7481063860751469656 tw2093056309387940689 tw9988902541765087266 tw10830150971941974124 tw4893484673225937912 tw13144711238499980626 tw12694622697368003667 tw9230508287734870849 tw6737178245202590452 tw9178965844156023384 tw9855346808061936475 tw8471262332310892905 tw7784533623110101008 tw4207225056858687306 tw17635434635638251235 tw18243609268193064296 tw17746147341114097285 tw502153637020382453 tw8297096115526540109 tw423705853090356394 tw13685743297403903628 tw9675071200386729682 tw18297690518510494792 tw10710415968819084063 tw14744114395918154194 tw1562996670105789426 tw12852516083680901325 tw11651274905270410383 tw7901759123598789284 tw12704181437155534711 tw11277247521942511607 tw8481882378978217311 tw308397802611868224 tw6741551156790915713 tw15334026019773461173 tw10893056078328306181 tw17749387375777005658 tw17715735908661689396 tw13755531253022957328 tw15202834144938592252 tw10566478346188390217 tw10664955336621502803 tw7912383349889141373 tw15859295375863447039 tw14232129157638772720 tw18122503576147555534 tw8939905514122619918 tw3797389362934784036 tw209469915006467573 tw15319260620460032828 tw6988616696019679838 tw6036307647475377910 tw344928224678437090 tw4551531099992669312 tw5007346903104675358 tw12860775496496568860 tw7823131652731489886 tw10759004717745378846 tw16476166264094270802 tw14541379432509882043 tw7014988093666514458 tw468056615810289907 tw4412329818198238306 tw8774256085388881981 tw14445801310798123000 tw12806283779062976537 tw10226173411178876132 tw4462471865407135912 tw11961282054479790990 tw3391375431748899347 tw14121969625405508918 tw16161204832255480695 tw2167052504001892000 tw4364560158351803451 tw1415240596459383955 tw1164983774183206915 tw5702169291279371555 tw6446285037272542913 tw15122113165832020699 tw12781479188020977498 tw7599806022410605884 tw14663745721177722809 tw16305938367327976588 tw1432362076873298822 tw17504248890549074109 tw16557944167507228959 tw11333495404062460104 tw7228839711381599780 tw2347859464544863070 tw14216331242159611068 tw11832413363242953761 tw12037308086006906145 tw10724682298502600029 tw8862166042892758115 tw17742547061024058554 tw8194596635114336898 tw326499486136029851 tw11950660639301370477 tw11832934612680876355 tw474253778128224933 tw2481441370077412598 tw3325657661211706727 tw45042800385504714 tw1417096157877531478 tw5786917486982053985 tw17179497905714909784 tw18392627878050439637 tw14090300982634785802 tw11778989612484054159 tw13542607633298586658 tw13867002199425312930 tw15501423971873182930 tw12791900276734494059 tw7772830606164830768 tw6987387094532604262 tw17209387700023477553 tw4782255546448878827 tw18011358230622201421 tw10432520297869081376 tw10722717627726731456 tw9227296834052076726 tw4155091246499016714 tw4991827998700318692 tw5412688047094705715 tw78906011468602636 tw14262351733234017536 tw8174029139164795683 tw7060338633316535996 tw16460919269855497101 tw11285559541314635136 tw8010556432861635092 tw16307965368584820985 tw13968742621266491000 tw2038520890404640454 tw15214292826867825010 tw9438824270438645000 tw15651696068178916833 tw2802592388143544434 tw15616962429075059865 tw3459268137777165672 tw14453849496166089711 tw4364992298172790518 tw9284827955349954400 tw8770228603415084599 tw13756128935004890008 tw14564536756769007629 tw10044265228938894508 tw18047165055894180459:True)
open PySem PySem.W PyProof.Rows in
set_option maxRecDepth 100000 in
set_option maxHeartbeats 0 in
open_top K92hd for PySem.Challenge.rw_greywait_k92_whole_far_orders
def tj:=@List.getElem?_eq_getElem
def tm:=@List.length_map
def tz:=@PySem.Heap.get?_push_of_some
def tD:=@PySem.wpAny_bind
def tE:=@List.mem_of_getElem?
def tF:=@Nat.le_refl
def tG:=@Bool.false_ne_true
def tH:=@PySem.wpAny_pure
def tI:=@PySem.Heap.lt_size
def tJ:=@PySem.Heap.get?_push_size
def tK:=@List.getD_eq_getElem?_getD
def tL:=@Option.some.inj
def tM:=@Nat.ne_of_lt
def tN:=@List.mem_cons_self
def tO:=@List.mem_cons_of_mem
def tP:=@of_decide_eq_true
def tQ:=@Nat.lt_of_lt_of_le
def tR:=@List.length_append
def tS:=@decide_eq_false
def tU:=@Nat.le_trans
def tV:=@Nat.zero_le
def tW:=@congrArg
def tX:=@List.mem_append_right
def tY:=@PySem.PassesOwn.never
def tZ:=@decide_eq_true_iff
def t3:=@List.map_cons
def t4:=@List.map_append
def t5:=@List.map_map
def t6:=@List.getElem_of_mem
def t7:=@PySem.wpAny_holding
def t8:=@PySem.W.mg_none_of
def se:=@List.filter_cons
def sf:=@List.length_filter_le
def si:=@Int.mul_nonpos_of_nonpos_of_nonneg
def sj:=@List.length_take
def sk:=@PySem.mem_of_lookup
def so:=@Int.ediv_mul_cancel
def ss:=@PySem.wpAny_truthy_bool
def su:=@of_decide_eq_false
def sy:=@Int.mul_le_mul
def sF:=@Bool.eq_iff_iff
def sH:=@PySem.wpAny_Call_Name_kw
def sI:=@List.getElem_mem
def sJ:=@PySem.Around.under_plainId
def sL:=@Int.mul_pos
def sM:=@List.filter_map
def sN:=@List.getElem?_append_right
def sO:=@PySem.F.slot_dict_get
def sP:=@PySem.wpAny_mono
def sQ:=@Sum.inl.inj
def sR:=@List.getElem?_append_left
def sS:=@decide_eq_false_iff_not
def sT:=@Int.mul_nonneg
def sU:=@PyProof.Rows.F.plain_set_update_loop
def sV:=@List.range_succ_eq_map
def sW:=@List.take_of_length_le
def sX:=@PyProof.Rows.callWith_type1
def sY:=@PySem.codeAny_builtin
def sZ:=@PySem.Heap.get?_update_other
def rc:=@Int.mul_nonpos_of_nonneg_of_nonpos
def re:=@Nat.lt_succ_self
def rf:=@List.getElem?_eq_none
def rg:=@decide_eq_decide
def rh:=@PySem.F.plain_max_loop
def rj:=@List.nodup_iff_pairwise_ne
def rn:=@Nat.le_succ
def rA:=@Int.le_refl
def rB:=@Classical.byContradiction
def rC:=@PySem.wpAny_passesOwn
def rE:=@List.append_nil
def rF:=@PySem.wpAny_newObj_type
def rG:=@PySem.codeAny_mono
def rH:=@Bool.true_and
def rJ:=@PySem.BindsTo.of_defaults
def rK:=@PySem.W.mg_of
def rL:=@PySem.F.plainAttrs_list
def rM:=@List.ext_getElem
def rN:=@List.eq_nil_of_length_eq_zero
def rO:=@PySem.F.entry_dict_get
def rP:=@PySem.Calls.spliced_cons
def rQ:=@PySem.tupleKind_room_in1
def rR:=@Int.emod_lt_of_pos
def rS:=@PySem.W.kia_one
def rT:=@PySem.W.kia_tup
def rV:=@Int.mul_lt_mul_of_pos_right
def rW:=@Int.sub_mul
def rX:=@Int.le_of_lt
def rY:=@Int.emod_nonneg
def rZ:=@Nat.lt_irrefl
def r8:=@PySem.wpAny_pyIter_list
def qa:=@PyProof.Rows.listUpdate_at
def qb:=@PySem.plainId_quiet
def qc:=@List.getElem?_zip_eq_some
def qd:=@Array.getElem?_eq_getElem
def qe:=@PySem.wpAny_tryCatch
def qf:=@PyProof.Rows.F.entry_set_update_loop
def qg:=@beq_self_eq_true
def qh:=@PySem.Heap.get?_update_ne
def qj:=@PySem.Heap.SameBut.update
def ql:=@List.take_length
def qm:=@List.length_range
def qo:=@List.Pairwise.imp_of_mem
def qr:=@PySem.F.slot_list_append
def qt:=@PySem.F.type_list_append
def qu:=@List.filter_append
def qx:=@PyProof.Rows.get?_update_seq
def qy:=@Int.eq_ofNat_of_zero_le
def qz:=@List.mem_of_mem_take
def qA:=@PySem.Calls.callWith_builtin
def qB:=@PySem.Calls.spliced_nil
def qC:=@Int.toNat_natCast
def qD:=@List.length_drop
def qE:=@PyProof.Rows.slot_tuple_getitem
def qF:=@Bool.false_and
def qG:=@Nat.ne_of_gt
def qH:=@PySem.W.callWith_K
def qI:=@PyProof.Rows.callWith_builtin1
def qJ:=@PySem.Heap.get?_update_self
def qK:=@Nat.zero_add
def qM:=@Int.ediv_le_self
def qN:=@Option.bind_some
def qO:=@List.mem_append_left
def qP:=@PySem.Calls.evalArgs_plain
def qQ:=@PySem.lookup_relabel_local
def qR:=@List.pairwise_iff_getElem
def qS:=@List.any_cons
def qU:=@PySem.wpAny_call
def qV:=@List.filterMap_cons
def qW:=@PySem.wpAny_execs_nil
def qX:=@PySem.wpAny_loadPart'
def qZ:=@Int.add_mul
def pd:=@PySem.W.methodCall_KW
def pe:=@List.mem_map_of_mem
def ph:=@List.mem_of_getLast?
def pi:=@Nat.le_of_lt
def pj:=@Nat.lt_trans
def pq:=@Nat.lt_of_le_of_lt
def pA:=@Int.add_zero
def pB:=@List.map_take
def pC:=@Int.le_trans
def pD:=@PySem.Heap.size_push
def pE:=@List.map_congr_left
def pF:=@List.filter_sublist
def pG:=@Nat.lt_succ_of_lt
def pH:=@List.append_assoc
def pI:=@Int.mul_assoc
def pJ:=@PySem.wpAny_newList
def pK:=@PyProof.Rows.seqEpoch_at
def pL:=@PySem.wpAny_letGo
def pM:=@List.countP_cons
def pN:=@Int.dvd_trans
def pO:=@PySem.wpAny_execs_cons
def pP:=@PySem.Around.in1_units
def pQ:=@List.map_snd_zip
def pR:=@PySem.F.entry_max_loop
def pS:=@Nat.le_of_eq
def pT:=@PySem.call_meetsIn
def pU:=@Int.mul_comm
def pV:=@List.pairwise_map
def pW:=@List.take_add_one
def pX:=@List.getLast?_map
def pY:=@List.all_cons
def pZ:=@PySem.call_meets
def oh:=@List.foldl_cons
def oi:=@List.range_succ
abbrev ac:=PySem.Value->PySem.Shared->Prop
abbrev ae:=List (PySem.Addr × PySem.Obj)
abbrev af:=PySem.Str->Option PySem.Value
abbrev aj:=List PySem.Value
abbrev ak:=Option PySem.Addr
abbrev al:=List (Int × Int)
abbrev am:=PySem.W.Frag
abbrev ap:=Array (Option PySem.Value)
abbrev aq:=Unit->PySem.Shared->Prop
namespace L2
open PySem PySem.Spec PyProof.Rows
abbrev Key:=Sum Int Str
def zkZ:Key->Value->Bool
 | .inl k,v=>Value.isInt k v
 | .inr x,v=>Value.isStrOf x v
def keyH(w:World):Key->Int
 | .inl k=>hashInt k
 | .inr x=>hashStr w x
theorem zbb:∀{k:Key}{v:Value},zkZ k v=true->(∃i t,k=Sum.inl i/\v=Value.int i t)\/(∃x t,k=Sum.inr x/\v=Value.str x t)
 | .inl i,v,h=>by
   obtain⟨t,e⟩:=Value.isInt_shape (k:=i) (v:=v) h
   exact .inl ⟨i,t,rfl,e⟩
 | .inr x,v,h=>by
   obtain⟨t,e⟩:=Value.isStrOf_shape (x:=x) (v:=v) h
   exact .inr ⟨x,t,rfl,e⟩
def znL(i:Int)(t:Tok):zkZ (.inl i) (.int i t)=true:=by simp[zkZ,Value.isInt]
def znM(x:Str)(t:Tok):zkZ (.inr x) (.str x t)=true:=by simp[zkZ,Value.isStrOf]
def ztE(a b:Int):decide ((Sum.inl a:Key)=Sum.inl b)=(a==b):=by
 by_cases e:a=b
 ·subst e;simp
 ·have h:¬(Sum.inl a:Key)=Sum.inl b:=λq=>e (sQ q)
  rw[tS h]
  exact(beq_eq_false_iff_ne.mpr e).symm
def ztF(a b:Str):decide ((Sum.inr a:Key)=Sum.inr b)=decide (a=b):=by
 by_cases e:a=b
 ·subst e;simp
 ·have h:¬(Sum.inr a:Key)=Sum.inr b:=λq=>e (Sum.inr.inj q)
  rw[tS h,tS e]
def ztG(a:Int)(b:Str):decide ((Sum.inl a:Key)=Sum.inr b)=false:=tS (λq=>nomatch q)
def ztH(a:Str)(b:Int):decide ((Sum.inr a:Key)=Sum.inl b)=false:=tS (λq=>nomatch q)
def zaV(prog:Program)(w:World):PySem.KeyKind prog w Key where
 is:=zkZ
 hash:=keyH w
 inj:=λv a b ha hb=>by
  rcases zbb ha with⟨i,t,rfl,rfl⟩ | ⟨x,t,rfl,rfl⟩
  ·rcases zbb hb with⟨j,u,rfl,e⟩ | ⟨y,u,rfl,e⟩
   ·injection e with e1 _;rw[e1]
   ·exact nomatch e
  ·rcases zbb hb with⟨j,u,rfl,e⟩ | ⟨y,u,rfl,e⟩
   ·exact nomatch e
   ·injection e with e1 _;rw[e1]
 byValue:=λk v h=>by
  rcases zbb h with⟨i,t,rfl,rfl⟩ | ⟨x,t,rfl,rfl⟩<;>rfl
 pyHash:=λhv h=>by
  rcases zbb hv with⟨i,t,rfl,rfl⟩ | ⟨x,t,rfl,rfl⟩
  ·exact wpAny_pyHash_int h
  ·exact wpAny_pyHash_str h
 eqBool:=λhu hv h=>by
  rcases zbb hu with⟨i,t,rfl,rfl⟩ | ⟨x,t,rfl,rfl⟩
  ·rcases zbb hv with⟨j,u,rfl,rfl⟩ | ⟨y,u,rfl,rfl⟩
   ·rw[ztE]at h;exact wpAny_eqBool_int h
   ·rw[ztG]at h;exact SeqAt.EqAt.int_str i t y u _ _ _ _ h
  ·rcases zbb hv with⟨j,u,rfl,rfl⟩ | ⟨y,u,rfl,rfl⟩
   ·rw[ztH]at h;exact SeqAt.EqAt.str_int x t j u _ _ _ _ h
   ·rw[ztF]at h;exact wpAny_eqBool_str h
 «strs» := λk x t v h=>by
  rcases zbb h with⟨i,u,rfl,e⟩ | ⟨y,u,rfl,e⟩
  ·exact nomatch e
  ·injection e with e1 _
   subst e1
   cases v<;>rfl
def ziC(prog:Program)(w:World)(k:Key)(v:Value):(zaV prog w).is k v=zkZ k v:=rfl
def eJ(prog:Program)(w:World)(i:Int)(t:Tok):(zaV prog w).is (.inl i) (.int i t)=true:=znL i t
def eK(prog:Program)(w:World)(x:Str)(t:Tok):(zaV prog w).is (.inr x) (.str x t)=true:=znM x t
inductive V where
 | non | bl (b:Bool) | int (i:Int) | str (x:Str) | byt (b:Array UInt8) | flt (b:UInt64) | ref (a:Addr) | ty (n:String)
 deriving DecidableEq
def RelV:V->Value->Prop
 | .non,u=>u=Value.none
 | .bl b,u=>u=Value.bool b
 | .int i,u=>∃t,u=Value.int i t
 | .str x,u=>∃t,u=Value.str x t
 | .byt b,u=>∃t,u=Value.bytes b t
 | .flt b,u=>∃t,u=Value.float b t
 | .ref a,u=>u=Value.ref a
 | .ty n,u=>u=Value.type n
abbrev Vals:List V->List Value->Prop:=Paired RelV
def Vals.length{xs:List V}{us:aj}(r:Vals xs us):xs.length=us.length:=Paired.length r
theorem Vals.get:∀{xs:List V}{us:aj}{i:Nat}{x:V},Vals xs us->xs[i]?=some x->∃u,us[i]?=some u/\RelV x u
 | _,_,_,_,.nil,e=>by simp at e
 | _,_,0,_,.cons r _,e=>by simp at e;subst e;exact⟨_,rfl,r⟩
 | _,_,i+1,x,.cons _ t,e=>by
   obtain⟨u,h1,h2⟩:=Vals.get (i:=i) (x:=x) t (by simpa using e)
   exact⟨u,by simpa using h1,h2⟩
theorem Vals.set{x:V}{u:Value}(r:RelV x u):∀{xs:List V}{us:aj}(i:Nat),Vals xs us->Vals (xs.set i x) (us.set i u)
 | _,_,_,.nil=>.nil
 | _,_,0,.cons _ t=>.cons r t
 | _,_,i+1,.cons q t=>.cons q (Vals.set r i t)
theorem Vals.append:∀{xs ys:List V}{us ws:aj},Vals xs us->Vals ys ws->Vals (xs++ys) (us++ws)
 | _,_,_,_,.nil,s=>s
 | _,_,_,_,.cons r t,s=>.cons r (Vals.append t s)
theorem Vals.take:∀{xs:List V}{us:aj}(n:Nat),Vals xs us->Vals (xs.take n) (us.take n)
 | _,_,0,_=>.nil
 | _,_,_+1,.nil=>.nil
 | _,_,n+1,.cons r t=>.cons r (Vals.take n t)
theorem Vals.drop:∀{xs:List V}{us:aj}(n:Nat),Vals xs us->Vals (xs.drop n) (us.drop n)
 | _,_,0,r=>r
 | _,_,_+1,.nil=>.nil
 | _,_,n+1,.cons _ t=>Vals.drop n t
def RelO:Option V->Option Value->Prop
 | some v,some u=>RelV v u
 | none,none=>True
 | _,_=>False
def KV{κ:Type}:List (κ × V)->List (κ × Value)->Prop:=Paired λ(p : κ × V)(q : κ × Value)=>p.1=q.1/\RelV p.2 q.2
def kV:Key->V
 | .inl i=>.int i
 | .inr x=>.str x
inductive HO where
 | lst (xs:List V)
 | tup (xs:List V)
 | dK (kvs:List (Key × V)) | dT (kvs:List (List Key × V))
 | set (S:Int->Bool) (n:Nat)
 | ins (C dx:Addr) (fs:List (Str × V))
 | own (x:Addr)
 | xd (fs:List (Str × V))
 | met (f x:Addr)
 | rng (lo hi:Int)
 | frz (o:Obj) (u:HO)
 | tbl (lp:Pos) (lq:Str)
 | ext (φ:Heap->Prop)
abbrev Hp:=Addr->Option HO
def upd(H:Hp)(a:Addr)(o:HO):Hp:=λb=>if b=a then some o else H b
def zar{H:Hp}{a:Addr}{o:HO}:upd H a o a=some o:=by unfold upd;rw[if_pos rfl]
def zaw{H:Hp}{a b:Addr}{o:HO}(h:b≠a):upd H a o b=H b:=by unfold upd;rw[if_neg h]
def zqm{H:Hp}{a b:Addr}{o u:HO}(h:H a=some o)(h':H b=some u)(d:o≠u):a≠b:=by
 intro e;subst e;rw[h]at h';exact d (tL h')
def zaA{H:Hp}{a b:Addr}{o:HO}(h:H a=some o)(h':H b=none):a≠b:=by
 intro e;subst e;rw[h]at h';cases h'
section
variable(P:Program)(w:World)
def zbf(H:Hp)(h:Heap)(a:Addr):HO->Prop
 | .lst xs=>xs.length<=sizeLine/\∃(its:aj)(n:Nat),Vals xs its/\h.get? a=some { cls:=.type "list",data:=.seq its.toArray n }
 | .tup xs=>xs.length<=sizeLine/\∃its:List Value,Vals xs its/\IsTup h a its.toArray
 | .dK kvs=>kvs.length<=sizeLine/\(a==sysModules)=false/\∃vs,KV kvs vs/\h.DictOf (zaV P w) a vs
 | .dT kvs=>kvs.length<=sizeLine/\(a==sysModules)=false/\∃xs:List (List Key × Addr × Value),
    Paired (λ(p:List Key × V)(q:List Key × Addr × Value)=>p.1=q.1/\H q.2.1=some (.tup (p.1.map kV))/\RelV p.2 q.2.2) kvs xs/\
    ∃o es ep,h.get? a=some o/\o.ExactDict/\o.data=.dict es ep/\es.toList=xs.map (entryOfKey (tupleKind (zaV P w)))/\(xs.map (·.1)).Nodup
 | .set S n=>h.SetOf (intKind P w) a S n
 | .ins C dx fs=>H dx=some (.own a)/\fs.length<=1000/\dx≠a/\h.get? a=some (W.instObj C dx)/\
    ∃mA,h.Ns1 dx mA/\(∀f,RelO (fs.lookup f) (mA f))/\PySem.Within mA (fs.map (·.1))
 | .own _=>∃o,h.get? a=some o
 | .xd fs=>∃mA,h.Ns1 a mA/\∀f,RelO (fs.lookup f) (mA f)
 | .rng lo hi=>∃t u v,h.get? a=some { cls:=.type "range",data:=.fields #[.int lo t,.int hi u,.int 1 v] }
 | .frz o u=>h.get? a=some o/\zbf H h a u
 | .tbl lp lq=>∃vs:Array Value,h.get? a=some { cls:=.none,data:=.fields vs }/\TriplesOk vs.toList/\(codeAmong lp vs.toList=none\/∃c oc us t,codeAmong lp vs.toList=some (.ref c)/\H c=some (.frz oc (.own c))/\oc.data=.fields us/\us[1]?=some (.str lq t))
 | .met f x=>h.get? a=some (W.methodObj (.ref f) (.ref x))
 | .ext φ => φ h/\(∃o,h.get? a=some o)/\∀h1 h2:Heap,φ h1->(∀o,h1.get? a=some o->h2.get? a=some o) -> φ h2
def HOk(H:Hp)(h:Heap):Prop:=∀a o,H a=some o->zbf P w H h a o
end
section
variable{P:Program}{w:World}{H H':Hp}{h h':Heap}{a:Addr}{o:HO}
theorem zbf.lt(x:zbf P w H h a o):a<h.objs.size:=by
 cases o with
 | lst xs=>obtain⟨_,_,_,_,e⟩:=x;exact tI e
 | tup xs=>obtain⟨_,_,_,p⟩:=x;exact p.lt
 | dK kvs=>obtain⟨_,_,_,_,o,_,_,e,_⟩:=x;exact tI e
 | dT kvs=>obtain⟨_,_,_,_,o,_,_,e,_⟩:=x;exact tI e
 | set S n=>obtain⟨o,_,_,_,e,_⟩:=x;exact tI e
 | ins C dx fs=>obtain⟨_,_,_,e,_⟩:=x;exact tI e
 | own y=>obtain⟨_,e⟩:=x;exact tI e
 | xd fs=>obtain⟨_,⟨_,_,_,e,_⟩,_⟩:=x;exact tI e
 | rng lo hi=>obtain⟨_,_,_,e⟩:=x;exact tI e
 | frz ob u=>obtain⟨e,_⟩:=x;exact tI e
 | tbl lp lq=>obtain⟨_,e,_⟩:=x;exact tI e
 | met f y=>exact tI (show h.get? a=some _ from x)
 | ext φ=>obtain⟨_,⟨_,e⟩,_⟩:=x;exact tI e
theorem Paired.mapP{α β:Type}{F G : α -> β->Prop}:∀{l₁:List α}{l₂:List β},Paired F l₁ l₂->(∀a b,F a b->G a b)->Paired G l₁ l₂
 | _,_,.nil,_=>.nil
 | _,_,.cons r t,f=>.cons (f _ _ r) (Paired.mapP t f)
theorem zbf.stay(x:zbf P w H h a o)(k:∀b u,(b=a\/H b=some (.own a))->h.get? b=some u->h'.get? b=some u)
  (ho:∀b,H b=some (.own a)->H' b=some (.own a)) (ht:∀b xs,H b=some (.tup xs)->H' b=some (.tup xs)) (hz:∀b ob u,H b=some (.frz ob u)->H' b=some (.frz ob u)):zbf P w H' h' a o:=by
 induction o with
 | lst xs=>obtain⟨z,its,n,r,e⟩:=x;exact⟨z,its,n,r,k _ _ (.inl rfl) e⟩
 | tup xs=>obtain⟨z,its,r,ob,e,c⟩:=x;exact⟨z,its,r,ob,k _ _ (.inl rfl) e,c⟩
 | dK kvs=>obtain⟨z,y,vs,r,ob,es,ep,e,c⟩:=x;exact⟨z,y,vs,r,ob,es,ep,k _ _ (.inl rfl) e,c⟩
 | dT kvs=>
   obtain⟨z,y,xs,r,ob,es,ep,e,c⟩:=x
   exact⟨z,y,xs,Paired.mapP r λp q z=>⟨z.1,ht _ _ z.2.1,z.2.2⟩,ob,es,ep,k _ _ (.inl rfl) e,c⟩
 | set S n=>obtain⟨ob,es,ep,t,e,c⟩:=x;exact⟨ob,es,ep,t,k _ _ (.inl rfl) e,c⟩
 | ins C dx fs=>
   obtain⟨d,z,ne,e,mA,⟨od,es,ep,e2,c⟩,r⟩:=x
   exact⟨ho _ d,z,ne,k _ _ (.inl rfl) e,mA,⟨od,es,ep,k _ _ (.inr d) e2,c⟩,r⟩
 | own y=>obtain⟨ob,e⟩:=x;exact⟨ob,k _ _ (.inl rfl) e⟩
 | xd fs=>obtain⟨mA,⟨od,es,ep,e,c⟩,r⟩:=x;exact⟨mA,⟨od,es,ep,k _ _ (.inl rfl) e,c⟩,r⟩
 | rng lo hi=>obtain⟨t,u,v,e⟩:=x;exact⟨t,u,v,k _ _ (.inl rfl) e⟩
 | frz ob u ih=>obtain⟨e,q⟩:=x;exact⟨k _ _ (.inl rfl) e,ih q⟩
 | tbl lp lq=>
   obtain⟨vs,e,tr,r⟩:=x
   exact⟨vs,k a _ (.inl rfl) e,tr,r.imp id λ⟨c,oc,us,t,e1,e2,e3⟩=>⟨c,oc,us,t,e1,hz _ _ _ e2,e3⟩⟩
 | met f y=>
   have e:h.get? a=some (W.methodObj (.ref f) (.ref y)):=x
   show h'.get? a=some (W.methodObj (.ref f) (.ref y))
   exact k a _ (.inl rfl) e
 | ext φ=>obtain⟨p,⟨o,e⟩,st⟩:=x;exact⟨st _ _ p λo q=>k _ _ (.inl rfl) q,⟨o,k _ _ (.inl rfl) e⟩,st⟩
def HOk.lt(x:HOk P w H h)(e:H a=some o):a<h.objs.size:=(x a o e).lt
theorem HOk.fresh(x:HOk P w H h)(e:h.objs.size<=a):H a=none:=by
 cases q:H a with
 | none=>rfl
 | some u=>exact absurd (tQ (x.lt q) e) (rZ _)
def HOk.kept(x:HOk P w H h)(k:∀b u,h.get? b=some u->h'.get? b=some u):HOk P w H h':=λa o e=>
 (x a o e).stay (λb u _ q=>k b u q) (λ_ q=>q) (λ_ _ q=>q) λ_ _ _ q=>q
def HOk.laid(x:HOk P w H h)(k:∀b u,h.get? b=some u->h'.get? b=some u)(hp:h.objs.size<=a)(new:zbf P w (upd H a o) h' a o):HOk P w (upd H a o) h':=λb u e=>by
 have hn:=x.fresh hp
 by_cases hb:b=a
 ·subst hb;rw[zar]at e;cases e;exact new
 ·rw[zaw hb]at e
  exact(x b u e).stay (λc v _ q=>k c v q) (λc q=>by rw[zaw (zaA q hn)];exact q) (λc xs q=>by rw[zaw (zaA q hn)];exact q) λc ob xs q=>by rw[zaw (zaA q hn)];exact q
end
def Rd(H:Hp)(a:Addr)(u:HO):Prop:=H a=some u\/∃o,H a=some (.frz o u)
def Rd.ok{P:Program}{w:World}{H:Hp}{h:Heap}{a:Addr}{u:HO}(r:Rd H a u)(x:HOk P w H h):zbf P w H h a u:=by
 rcases r with r | ⟨o,r⟩
 ·exact x a u r
 ·obtain⟨_,q⟩:=x a _ r
  exact q
def Mut:Option HO->Prop
 | some (.lst _)=>True
 | some (.dK _)=>True
 | some (.dT _)=>True
 | some (.set _ _)=>True
 | some (.ins _ _ _)=>True
 | some (.ext _)=>True
 | _=>False
section
variable{P:Program}{w:World}{H:Hp}{h h':Heap}{x e:Addr}{o':HO}
def HOk.write(ok:HOk P w H h)(mu:Mut (H x))(he:e=x\/H e=some (.own x))(k:∀b u,b≠e->h.get? b=some u->h'.get? b=some u)(heo:∃u,h'.get? e=some u)
    (new:zbf P w (upd H x o') h' x o'):HOk P w (upd H x o') h':=λb u q=>by
 have nown:∀c y,H c=some (.own y)->c≠x:=λc y r z=>by subst z;rw[r]at mu;exact mu
 have ntup:∀c xs,H c=some (.tup xs)->c≠x:=λc xs r z=>by subst z;rw[r]at mu;exact mu
 have nfrz:∀c ob xs,H c=some (.frz ob xs)->c≠x:=λc ob xs r z=>by subst z;rw[r]at mu;exact mu
 by_cases hb:b=x
 ·subst hb;rw[zar]at q;cases q;exact new
 ·rw[zaw hb]at q
  by_cases hbe:b=e
  ·have q':H b=some (.own x):=by
    rcases he with z | z
    ·exact absurd (hbe.trans z) hb
    ·rw[hbe];exact z
   rw[q]at q';cases q'
   obtain⟨v,hv⟩:=heo
   exact⟨v,by rw[hbe];exact hv⟩
  ·refine(ok b u q).stay (λc v hc r=>k c v ?_ r) (λc r=>by rw[zaw (nown c b r)];exact r) (λc xs r=>by rw[zaw (ntup c xs r)];exact r) λc ob xs r=>by rw[zaw (nfrz c ob xs r)];exact r
   rcases hc with rfl | hc
   ·exact hbe
   ·rintro rfl
    rcases he with z | z
    ·exact nown c b hc z
    ·rw[hc]at z;cases z;exact hb rfl
end
structure Un(fs ex:List Addr)(H H':Hp)(h h':Heap):Prop where
 keep:∀b o,h.get? b=some o->H b=none->b∉fs->b∉ex->h'.get? b=some o
 slot:∀b o,h.get? b=some o->H b=none->b∈fs->b∉ex->∃sl,h'.get? b=some { o with slots:=sl }
 free:∀b o,h.get? b=some o->H b=none->b∉ex->H' b=none
 there:∀b o,h.get? b=some o->b∉ex->∃o',h'.get? b=some o'
 tups:∀b xs,H b=some (.tup xs)->H' b=some (.tup xs)
 frzs:∀b o u,H b=some (.frz o u)->H' b=some (.frz o u)
 tbls:∀b lp lq,H b=some (.tbl lp lq)->H' b=some (.tbl lp lq)
section
variable{fs fs' ex ex':List Addr}{H H1 H2:Hp}{h h1 h2 h':Heap}{a x e:Addr}{o:HO}
def Un.any(u:Un fs ex H H1 h h1){b:Addr}{ob:Obj}(q:h.get? b=some ob)(n:H b=none)(hx:b∉ex):∃sl,h1.get? b=some { ob with slots:=sl }:=by
 by_cases hb:b∈fs
 ·exact u.slot b ob q n hb hx
 ·exact⟨ob.slots,u.keep b ob q n hb hx⟩
def Un.kept(k:∀b u,h.get? b=some u->h'.get? b=some u):Un fs ex H H h h':=
 ⟨λb ob q _ _ _=>k b ob q,λb ob q _ _ _=>⟨ob.slots,k b ob q⟩,λ_ _ _ n _=>n,λb ob q _=>⟨ob,k b ob q⟩,λ_ _ q=>q,λ_ _ _ q=>q,λ_ _ _ q=>q⟩
def Un.refl:Un fs ex H H h h:=Un.kept λ_ _ q=>q
def Un.laid(k:∀b u,h.get? b=some u->h'.get? b=some u)(hp:h.objs.size<=a)(hn:H a=none):Un fs ex H (upd H a o) h h' where
 keep:=λb u q _ _ _=>k b u q
 slot:=λb u q _ _ _=>⟨u.slots,k b u q⟩
 free:=λb u q n _=>by rw[zaw (tM (tQ (tI q) hp))];exact n
 there:=λb u q _=>⟨u,k b u q⟩
 tups:=λb xs q=>by rw[zaw (zaA q hn)];exact q
 frzs:=λb u xs q=>by rw[zaw (zaA q hn)];exact q
 tbls:=λb lp lq q=>by rw[zaw (zaA q hn)];exact q
def Un.write(mu:Mut (H x))(he:e=x\/H e=some (.own x))(k:∀b u,b≠e->h.get? b=some u->h'.get? b=some u)(heo:∃u,h'.get? e=some u):Un fs ex H (upd H x o) h h':=by
 have hx:∀b,H b=none->b≠x:=λb n z=>by subst z;rw[n]at mu;exact mu
 have hb:∀b,H b=none->b≠e:=λb n z=>by
  subst z
  rcases he with r | r
  ·exact hx b n r
  ·rw[n]at r;cases r
 have hm:∀b u,H b=some u->¬Mut (some u)->b≠x:=λb u q nm z=>by subst z;rw[q]at mu;exact nm mu
 refine⟨λb u q n _ _=>k b u (hb b n) q,λb u q n _ _=>⟨u.slots,k b u (hb b n) q⟩,λb u q n _=>by rw[zaw (hx b n)];exact n,λb u q _=>?_,
  λb xs q=>by rw[zaw (hm b _ q λz=>z)];exact q,λb u xs q=>by rw[zaw (hm b _ q λz=>z)];exact q,λb lp lq q=>by rw[zaw (hm b _ q λz=>z)];exact q⟩
 by_cases hbe:b=e
 ·subst hbe;exact heo
 ·exact⟨u,k b u hbe q⟩
end
def trk(h:Heap)(H:Hp):List Addr:=(List.range h.objs.size).filter λa=>(H a).isSome
def hidT(h:Heap)(H:Hp):Heap:=W.hideAll h (trk h H)
def znN(h:Heap)(H:Hp):(hidT h H).objs.size=h.objs.size:=W.hideAll_size _ _
def zqn{h:Heap}{H:Hp}{b:Addr}{o:Obj}(e:h.get? b=some o)(n:H b=none):(hidT h H).get? b=some o:=
 W.hideAll_get _ e λhm=>by
  have q:(H b).isSome=true:=(mem_filter.mp hm).2
  rw[n]at q;simp at q
theorem zss{h:Heap}{H:Hp}{b:Addr}{o:Obj}(e:(hidT h H).get? b=some o):h.get? b=some o/\H b=none:=by
 have e':h.get? b=some o:=W.of_hideAll (trk h H) e
 refine⟨e',?_⟩
 cases q:H b with
 | none=>rfl
 | some x=>
   have hm:b∈trk h H:=mem_filter.mpr ⟨mem_range.mpr (tI e'),by simp[q]⟩
   have z:(hidT h H).get? b=none:=W.hideAll_none (trk h H) hm
   rw[z]at e;cases e
def zst(g h:Heap)(L:Addr):List (Addr × Obj):=(List.range h.objs.size).filterMap λa=>if a=L\/(g.get? a).isSome=true then none else(h.get? a).map λo=>(a,o)
def rest(g h:Heap)(L d:Addr):List (Addr × Obj):=(zst g h L).filter λp=>decide (p.1≠d)
structure Mod(K:am)(mg:af)(bj:Heap):Prop where
 kin:K.In bj
 glob:bj.Ns mainGlobals mg
 blt:∃mb,bj.Ns builtinsNs mb/\∀x:Str,x ≠ "__name__" -> mb x=bootBuiltins x
 nolimit:bj.NoLimit
structure Cx where
 prog:Program
 w:World
 K:W.Frag
 mg:Str->Option Value
 bj:Heap
 A:Around
 N:List Str
 s₀:Shared
 H₀:Hp
 env:Env
 outer:List Env
 stack:List Env
 ex:List Addr
 fn:Str->Bool
 calm:Bool
 pn:List (Addr × Obj)
 xe:Value->Shared->Prop
def frs(l:List Env):List Addr:=l.filterMap (·.frame)
abbrev Cx.fs(X:Cx):List Addr:=frs X.outer
def Vis(sc:Scope)(x:Str):Prop:=sc.names.lookup x=some .local\/sc.names.lookup x=some .cell\/sc.names.lookup x=some .free
def Loc(sc:Scope)(x:Str):Prop:=sc.names.lookup x=some .local\/sc.names.lookup x=some .cell
def Look(env:Env)(h:Heap)(m:af)(x:Str)(u:Value):Prop:=
 (env.kindOf x=some .local/\m x=some u)\/((env.kindOf x=some .cell\/env.kindOf x=some .free)/\∃c,env.cells.lookup x=some c/\h.IsCell c (some u))
structure Cx.Ok(X:Cx):Prop where
 mod:Mod X.K X.mg X.bj
 kind:X.env.scope.kind=.function
 glob:X.env.globals=mainGlobals
 blt:X.env.builtins=builtinsNs
 above:X.s₀.heap.objs.size<=X.env.locals
 inj:∀x y c,X.env.cells.lookup x=some c->X.env.cells.lookup y=some c->x=y
 has:∀x,(X.env.kindOf x=some .cell\/X.env.kindOf x=some .free)->∃c,X.env.cells.lookup x=some c
 cab:∀x c,X.fn x=true->X.env.cells.lookup x=some c->X.s₀.heap.objs.size<=c
 hd:X.calm=true->X.A.handled=none
 frames:X.A.frames=some X.stack
 stk:X.stack=X.outer\/(X.stack=X.env::X.outer/\X.env.frame=some X.env.locals)
 exf:∀b∈X.ex,b≠X.env.locals/\∀x c,X.env.cells.lookup x=some c->c≠b
 bs:∀b o,X.bj.get? b=some o->X.s₀.heap.get? b=some o/\X.H₀ b=none
 bsz:X.bj.objs.size<=X.s₀.heap.objs.size
 noex:∀b o,X.bj.get? b=some o->b∉X.ex
 exfs:∀b∈X.ex,b∉X.fs
 funs:X.s₀.heap.FunFrames X.bj X.outer
 frf:∀b∈X.fs,X.H₀ b=none
structure Inv(X:Cx)(ai:ae)(σ:List (Option V))(H:Hp)(s:Shared):Prop where
 ok:X.Ok
 os:s.os=X.s₀.os
 bare:AllBare s.gens
 bj:Un X.fs X.ex X.H₀ H X.s₀.heap s.heap
 loc:∃m,s.heap.Ns X.env.locals m/\∀(i:Nat)(x:Str)(v:V),X.N[i]?=some x -> σ[i]?=some (some v)->Vis X.env.scope x->∃u,RelV v u/\Look X.env s.heap m x u
 cell:∀x c,X.env.cells.lookup x=some c->∃v,s.heap.IsCell c v
 free:H X.env.locals=none
 freeC:∀x c,X.env.cells.lookup x=some c->H c=none
 pin:∀p∈X.pn++ai,s.heap.get? p.1=some p.2/\H p.1=none/\p.1≠X.env.locals/\p.1∉X.fs/\∀v,p.2.data≠.cell v
 hok:HOk X.prog X.w H s.heap
 len : σ.length=X.N.length
section
variable{X:Cx}{ai:ae}{σ:List (Option V)}{H H':Hp}{s:Shared}{h':Heap}
def Cx.Ok.nofr(ok:X.Ok){b:Addr}{o:Obj}(e:X.bj.get? b=some o):b∉X.fs:=λhb=>by
 have:=(ok.funs.mem hb).1
 rw[e]at this;cases this
def Inv.bs(I:Inv X ai σ H s):∀b o,X.bj.get? b=some o->s.heap.get? b=some o/\H b=none:=λb o e=>
 ⟨I.bj.keep b o (I.ok.bs b o e).1 (I.ok.bs b o e).2 (I.ok.nofr e) (I.ok.noex b o e),I.bj.free b o (I.ok.bs b o e).1 (I.ok.bs b o e).2 (I.ok.noex b o e)⟩
def Inv.bk(I:Inv X ai σ H s):∀b o,X.bj.get? b=some o->s.heap.get? b=some o:=λb o e=>(I.bs b o e).1
def Inv.mod(I:Inv X ai σ H s):Mod X.K X.mg X.bj:=I.ok.mod
def Inv.kIn(I:Inv X ai σ H s):X.K.In s.heap:=I.ok.mod.kin.keeps I.bk
def Inv.nolimit(I:Inv X ai σ H s):s.heap.NoLimit:=I.ok.mod.nolimit.keeps I.bk
def Inv.lt(I:Inv X ai σ H s):X.env.locals<s.heap.objs.size:=let ⟨_,hn,_⟩:=I.loc;hn.lt
def Inv.sz(I:Inv X ai σ H s):X.s₀.heap.objs.size<=s.heap.objs.size:=tU I.ok.above (pi I.lt)
def Inv.nofs(I:Inv X ai σ H s){a:Addr}(h:s.heap.objs.size<=a):a∉X.fs:=λhb=>by
 obtain⟨_,o,ho,_⟩:=I.ok.funs.mem hb
 exact absurd (tQ (tI ho) (tU I.sz h)) (rZ _)
def Inv.cne(I:Inv X ai σ H s):∀x c,X.env.cells.lookup x=some c->c≠X.env.locals:=λx c e z=>by
 obtain⟨v,o,ho,hd⟩:=I.cell x c e
 obtain⟨m,⟨o',es,ep,ho',hd',_⟩,_⟩:=I.loc
 rw[z,ho']at ho;cases ho;rw[hd']at hd;cases hd
theorem Inv.funs(I:Inv X ai σ H s):s.heap.FunFrames X.bj X.outer:=by
 have all:∀(l:List Env),(∀b∈frs l,b∈X.fs)->X.s₀.heap.FunFrames X.bj l->s.heap.FunFrames X.bj l:=by
  intro l
  induction l with
  | nil=>intro _ _;trivial
  | cons env r ih=>
    intro hs hl
    obtain⟨hk,⟨L,o,hf,hn,ho,hd⟩,hr⟩:=hl
    have hL:L∈X.fs:=hs L (by unfold frs;rw[qV,hf];exact tN)
    obtain⟨sl,e⟩:=I.bj.slot L o ho (I.ok.frf L hL) hL λz=>I.ok.exfs L z hL
    exact⟨hk,⟨L,_,hf,hn,e,hd⟩,ih (λb hb=>hs b (by unfold frs;rw[qV,hf];exact tO _ hb)) hr⟩
 exact all X.outer (λ_ hb=>hb) I.ok.funs
def Inv.stack(I:Inv X ai σ H s):s.heap.FunFrames X.bj X.stack:=by
 rcases I.ok.stk with e | ⟨e,hf⟩
 ·rw[e];exact I.funs
 ·rw[e]
  obtain⟨m,hn,_⟩:=I.loc
  refine .cons (by rw[I.ok.kind];decide) hf hn ?_ I.funs
  exact Heap.get?_none_of_le (tU I.ok.bsz I.ok.above)
def Inv.stkSub(I:Inv X ai σ H s):∀b∈frs X.stack,b∈X.env.locals::X.fs:=λb hb=>by
 rcases I.ok.stk with e | ⟨e,hf⟩
 ·rw[e]at hb;exact tO _ hb
 ·rw[e]at hb
  unfold frs at hb
  rw[qV,hf]at hb
  exact hb
def Inv.stkFree(I:Inv X ai σ H s):∀b∈frs X.stack,H b=none:=λb hb=>by
 rcases mem_cons.mp (I.stkSub b hb)with e | hb
 ·rw[e];exact I.free
 ·obtain⟨_,o,ho,_⟩:=I.ok.funs.mem hb
  exact I.bj.free b o ho (I.ok.frf b hb) λz=>I.ok.exfs b z hb
def Inv.step{g':Array GenState}{t':Nat}{d':Drawn}{ch:List Addr}(I:Inv X ai σ H s)
    (hch:∀b∈ch,(b∈X.ex\/X.s₀.heap.objs.size<=b)/\b≠X.env.locals/\(∀x c,X.env.cells.lookup x=some c->c≠b)/\∀p∈X.pn++ai,p.1≠b)
    (keep:∀b o,b≠X.env.locals->b∉X.fs->b∉ch->s.heap.get? b=some o->H b=none->h'.get? b=some o)
    (slot:∀b o,b≠X.env.locals->b∈X.fs->b∉ch->s.heap.get? b=some o->H b=none->∃sl,h'.get? b=some { o with slots:=sl }) (free:∀b o,b∉ch->s.heap.get? b=some o->H b=none->H' b=none)
    (there:∀b o,b∉ch->s.heap.get? b=some o->∃o',h'.get? b=some o')
    (tups:∀b xs,H b=some (.tup xs)->H' b=some (.tup xs)) (frzs:∀b o u,H b=some (.frz o u)->H' b=some (.frz o u)) (tbls:∀b lp lq,H b=some (.tbl lp lq)->H' b=some (.tbl lp lq))
    (ns:∀m,s.heap.Ns X.env.locals m->h'.Ns X.env.locals m) (hok:HOk X.prog X.w H' h') (hg:AllBare g'):
    Inv X ai σ H' { s with heap:=h',gens:=g',drawn:=d',toks:=t' }:=by
 have neL:∀b o,X.s₀.heap.get? b=some o->b≠X.env.locals:=λb o e=>tM (tQ (tI e) I.ok.above)
 have neC:∀b o,X.s₀.heap.get? b=some o->b∉X.ex->b∉ch:=λb o e hx hb=>by
  rcases(hch b hb).1 with z | z
  ·exact hx z
  ·exact absurd (tQ (tI e) z) (rZ _)
 have cellK:∀x c,X.env.cells.lookup x=some c->∀v,s.heap.IsCell c v->h'.IsCell c v:=λx c e v ⟨o,ho,hd⟩=>by
  have nch:c∉ch:=λz=>(hch c z).2.2.1 x c e rfl
  by_cases hc:c∈X.fs
  ·obtain⟨sl,q⟩:=slot c o (I.cne x c e) hc nch ho (I.freeC x c e)
   exact⟨_,q,hd⟩
  ·exact⟨o,keep c o (I.cne x c e) hc nch ho (I.freeC x c e),hd⟩
 refine⟨I.ok,I.os,hg,⟨λb o e n hb hx=>?_,λb o e n hb hx=>?_,λb o e n hx=>?_,λb o e hx=>?_,λb xs e=>tups b xs (I.bj.tups b xs e),λb o xs e=>frzs b o xs (I.bj.frzs b o xs e),λb lp lq e=>tbls b lp lq (I.bj.tbls b lp lq e)⟩,?_,λx c e=>?_,?_,λx c e=>?_,λp hp=>?_,hok,I.len⟩
 ·exact keep b o (neL b o e) hb (neC b o e hx) (I.bj.keep b o e n hb hx) (I.bj.free b o e n hx)
 ·obtain⟨sl,e1⟩:=I.bj.slot b o e n hb hx
  obtain⟨sl',e2⟩:=slot b _ (neL b o e) hb (neC b o e hx) e1 (I.bj.free b o e n hx)
  exact⟨sl',e2⟩
 ·obtain⟨o',e1⟩:=I.bj.there b o e hx
  exact free b o' (neC b o e hx) e1 (I.bj.free b o e n hx)
 ·obtain⟨o',e1⟩:=I.bj.there b o e hx
  exact there b o' (neC b o e hx) e1
 ·obtain⟨m,hn,hl⟩:=I.loc
  refine⟨m,ns m hn,λi x v e1 e2 e3=>?_⟩
  obtain⟨u,r,l⟩:=hl i x v e1 e2 e3
  refine⟨u,r,?_⟩
  rcases l with l | ⟨k,c,e,z⟩
  ·exact .inl l
  ·exact .inr ⟨k,c,e,cellK x c e _ z⟩
 ·obtain⟨v,z⟩:=I.cell x c e
  exact⟨v,cellK x c e v z⟩
 ·obtain⟨m,⟨o,_,_,ho,_⟩,_⟩:=I.loc
  exact free _ o (λz=>(hch _ z).2.1 rfl) ho I.free
 ·obtain⟨v,o,ho,hd⟩:=I.cell x c e
  exact free c o (λz=>(hch c z).2.2.1 x c e rfl) ho (I.freeC x c e)
 ·obtain⟨e,n,ne,nf,d⟩:=I.pin p hp
  have nch:p.1∉ch:=λz=>(hch p.1 z).2.2.2 p hp rfl
  exact⟨keep p.1 p.2 ne nf nch e n,free p.1 p.2 nch e n,ne,nf,d⟩
def Inv.un{t':Nat}(I:Inv X ai σ H s)(u:Un X.fs [] H H' s.heap h')(hok:HOk X.prog X.w H' h'):Inv X ai σ H' { s with heap:=h',toks:=t' }:=by
 obtain⟨m,⟨o,es,ep,ho,r⟩,_⟩:=id I.loc
 obtain⟨sl,hL⟩:=u.any ho I.free (by simp)
 exact I.step (g':=s.gens) (d':=s.drawn) (ch:=[]) (λ_ z=>nomatch z) (λb o _ hb _ e n=>u.keep b o e n hb (by simp)) (λb o _ hb _ e n=>u.slot b o e n hb (by simp)) (λb o _ e n=>u.free b o e n (by simp)) (λb o _ e=>u.there b o e (by simp)) u.tups u.frzs u.tbls (λm' hm=>by
  obtain⟨o',es',ep',ho',r'⟩:=hm
  rw[ho]at ho';cases ho'
  exact⟨_,es',ep',hL,r'⟩) hok I.bare
def Inv.call{g':Array GenState}{t':Nat}{d':Drawn}{ch:List Addr}(I:Inv X ai σ H s)(u:Un (frs X.stack) ch H H' s.heap h')(hok:HOk X.prog X.w H' h')(hg:AllBare g')
    (hch:∀b∈ch,(b∈X.ex\/X.s₀.heap.objs.size<=b)/\b≠X.env.locals/\(∀x c,X.env.cells.lookup x=some c->c≠b)/\∀p∈X.pn++ai,p.1≠b):
    Inv X ai σ H' { s with heap:=h',gens:=g',drawn:=d',toks:=t' }:=by
 obtain⟨m,⟨o,es,ep,ho,r⟩,_⟩:=id I.loc
 obtain⟨sl,hL⟩:=u.any ho I.free λz=>(hch _ z).2.1 rfl
 exact I.step (ch:=ch) hch (λb o hL hb hc e n=>u.keep b o e n (λz=>(mem_cons.mp (I.stkSub b z)).elim hL hb) hc) (λb o _ _ hc e n=>u.any e n hc) (λb o hc e n=>u.free b o e n hc) (λb o hc e=>u.there b o e hc) u.tups u.frzs u.tbls (λm' hm=>by
  obtain⟨o',es',ep',ho',r'⟩:=hm
  rw[ho]at ho';cases ho'
  exact⟨_,es',ep',hL,r'⟩) hok hg
def Inv.turned{t':Nat}{it:Addr}(I:Inv X ai σ H s)(k:∀b o,b≠it->s.heap.get? b=some o->h'.get? b=some o)(hn:H it=none)(hL:it≠X.env.locals)
    (h1:it∈X.ex\/X.s₀.heap.objs.size<=it) (h2:∀x c,X.env.cells.lookup x=some c->c≠it) (h3:∀p∈X.pn++ai,p.1≠it):Inv X ai σ H { s with heap:=h',toks:=t' }:=by
 have nit:∀b u,H b=some u->b≠it:=λb u e z=>by rw[z,hn]at e;cases e
 refine I.step (g':=s.gens) (d':=s.drawn) (ch:=[it]) (λb hb=>?_) (λb o _ _ hc e _=>k b o (λz=>hc (by simp[z])) e) (λb o _ _ hc e _=>⟨o.slots,k b o (λz=>hc (by simp[z])) e⟩) (λ_ _ _ _ n=>n)
  (λb o hc e=>⟨o,k b o (λz=>hc (by simp[z])) e⟩) (λ_ _ e=>e) (λ_ _ _ e=>e) (λ_ _ _ e=>e) (λm hm=>?_) (λb u e=>?_) I.bare
 ·have e:b=it:=by simpa using hb
  subst e
  exact⟨h1,hL,h2,h3⟩
 ·obtain⟨o,es,ep,ho,r⟩:=hm
  exact⟨o,es,ep,k _ o (Ne.symm hL) ho,r⟩
 ·refine(I.hok b u e).stay (λc v hc q=>k c v ?_ q) (λ_ q=>q) (λ_ _ q=>q) λ_ _ _ q=>q
  rcases hc with z | z
  ·rw[z];exact nit b u e
  ·exact nit c _ z
def Inv.tok(I:Inv X ai σ H s)(t:Nat):Inv X ai σ H { s with toks:=t }:=I.un (h':=s.heap) (t':=t) Un.refl I.hok
def Inv.kept{t':Nat}(I:Inv X ai σ H s)(k:∀b u,s.heap.get? b=some u->h'.get? b=some u):Inv X ai σ H { s with heap:=h',toks:=t' }:=I.un (Un.kept k) (I.hok.kept k)
def Inv.laid{a:Addr}{o:HO}{t':Nat}(I:Inv X ai σ H s)(k:∀b u,s.heap.get? b=some u->h'.get? b=some u)(hp:s.heap.objs.size<=a)(new:zbf X.prog X.w (upd H a o) h' a o):
    Inv X ai σ (upd H a o) { s with heap:=h',toks:=t' }:=I.un (Un.laid k hp (I.hok.fresh hp)) (I.hok.laid k hp new)
def Inv.write{x e:Addr}{o:HO}{t':Nat}(I:Inv X ai σ H s)(mu:Mut (H x))(he:e=x\/H e=some (.own x))(k:∀b u,b≠e->s.heap.get? b=some u->h'.get? b=some u)(heo:∃u,h'.get? e=some u)
    (new:zbf X.prog X.w (upd H x o) h' x o):Inv X ai σ (upd H x o) { s with heap:=h',toks:=t' }:=I.un (Un.write mu he k heo) (I.hok.write mu he k heo new)
def Inv.pins_of{pins':ae}(I:Inv X ai σ H s)(h:∀p∈pins',s.heap.get? p.1=some p.2/\H p.1=none/\p.1≠X.env.locals/\p.1∉X.fs/\∀v,p.2.data≠.cell v):Inv X pins' σ H s:=
 ⟨I.ok,I.os,I.bare,I.bj,I.loc,I.cell,I.free,I.freeC,λp hp=>(mem_append.mp hp).elim (λz=>I.pin p (qO _ z)) (h p),I.hok,I.len⟩
def dM{N:List Str}(hN:N.Nodup){i j:Nat}{x:Str}(a:N[i]?=some x)(b:N[j]?=some x):i=j:=by
 obtain⟨h1,e1⟩:=List.getElem?_eq_some_iff.mp a
 obtain⟨h2,e2⟩:=List.getElem?_eq_some_iff.mp b
 exact(getElem_inj hN).mp (e1.trans e2.symm)
def zjC{M:Model}{A:Around}{E:ac}{i:Nat}{x:Str}{v:V}{u:Value}{Q:aq}(I:Inv X ai σ H s)(hN:X.N.Nodup)(hi:X.N[i]?=some x)(hx:Loc X.env.scope x)(r:RelV v u)
    (h:∀s',Inv X ai (σ.set i (some v)) H s'->(∃a,Heap.SameBut a s.heap s'.heap/\(a=X.env.locals\/X.env.cells.lookup x=some a))->Q () s') (hf:X.fn x=true\/X.env.scope.names.lookup x=some .local:=by first | exact .inl rfl | exact .inr rfl | assumption):wpAny M A (storeName X.env x u) Q E s:=by
 obtain⟨m,hn,hl⟩:=id I.loc
 have hcls:(X.env.scope.kind==.class||(X.env.scope.kind==.module&&X.env.locals != X.env.globals))=false:=by rw[I.ok.kind];rfl
 have hiσ:i < σ.length:=by rw[I.len];exact(List.getElem?_eq_some_iff.mp hi).1
 have cne:=I.cne
 have tracked:∀{a:Addr}{h':Heap},(∃o,s.heap.get? a=some o/\H a=none)->Heap.SameBut a s.heap h'->HOk X.prog X.w H h':=λ{a h'} ha hs b ob e=>by
  obtain⟨_,_,hfree⟩:=ha
  refine(I.hok b ob e).stay (λc w' hc q=>(hs.2 c ?_).trans q) (λ_ q=>q) (λ_ _ q=>q) λ_ _ _ q=>q
  rintro rfl
  rcases hc with rfl | hc
  ·rw[hfree]at e;cases e
  ·rw[hfree]at hc;cases hc
 rcases hx with hk | hk
 ·refine wpAny_storeName_local hk hn (λh' hn' hs=>?_) hcls
  obtain⟨oL,_,_,hoL,_⟩:=id hn
  refine h _ ⟨I.ok,I.os,I.bare,⟨λb o e n hb hx=>?_,λb o e n hb hx=>?_,I.bj.free,λb o e hx=>?_,I.bj.tups,I.bj.frzs,I.bj.tbls⟩,⟨_,hn',λj y v' e1 e2 e3=>?_⟩,λy c e=>?_,I.free,I.freeC,λp hp=>?_,tracked ⟨oL,hoL,I.free⟩ hs,by simpa using I.len⟩ ⟨_,hs,.inl rfl⟩
  ·exact(hs.2 b (tM (tQ (tI e) I.ok.above))).trans (I.bj.keep b o e n hb hx)
  ·obtain⟨sl,e1⟩:=I.bj.slot b o e n hb hx
   exact⟨sl,(hs.2 b (tM (tQ (tI e) I.ok.above))).trans e1⟩
  ·obtain⟨o',e1⟩:=I.bj.there b o e hx
   exact⟨o',(hs.2 b (tM (tQ (tI e) I.ok.above))).trans e1⟩
  ·by_cases hj:j=i
   ·subst hj
    rw[hi]at e1;cases e1
    rw[List.getElem?_set_self hiσ]at e2
    cases e2
    exact⟨u,r,.inl ⟨hk,by simp⟩⟩
   ·rw[List.getElem?_set_ne (Ne.symm hj)]at e2
    obtain⟨u',r',q⟩:=hl j y v' e1 e2 e3
    refine⟨u',r',?_⟩
    rcases q with⟨k,e⟩ | ⟨k,c,e,z⟩
    ·refine .inl ⟨k,?_⟩
     have:y≠x:=λe=>hj (dM hN e1 (e▸hi))
     simp[this,e]
    ·exact .inr ⟨k,c,e,z.sameBut hs (cne y c e)⟩
  ·obtain⟨w',z⟩:=I.cell y c e
   exact⟨w',z.sameBut hs (cne y c e)⟩
  ·obtain⟨e,n,ne,nf,d⟩:=I.pin p hp
   exact⟨(hs.2 p.1 ne).trans e,n,ne,nf,d⟩
 ·have hfn:X.fn x=true:=by
   rcases hf with z | z
   ·exact z
   ·rw[z]at hk;cases hk
  obtain⟨c,hc⟩:=I.ok.has x (.inl hk)
  obtain⟨w',z⟩:=I.cell x c hc
  refine wpAny_storeName_cell I.ok.kind hk hc z (λh' hc' hs=>?_)
  obtain⟨oc,hoc,hocd⟩:=id z
  refine h { s with heap:=h' } ⟨I.ok,I.os,I.bare,⟨λb o e n hb hx=>?_,λb o e n hb hx=>?_,I.bj.free,λb o e hx=>?_,I.bj.tups,I.bj.frzs,I.bj.tbls⟩,⟨m,hn.sameBut hs (Ne.symm (cne x c hc)),λj y v' e1 e2 e3=>?_⟩,λy c' e=>?_,I.free,I.freeC,λp hp=>?_,tracked ⟨oc,hoc,I.freeC x c hc⟩ hs,by simpa using I.len⟩ ⟨c,hs,.inr hc⟩
  ·exact(hs.2 b (tM (tQ (tI e) (I.ok.cab x c hfn hc)))).trans (I.bj.keep b o e n hb hx)
  ·obtain⟨sl,e1⟩:=I.bj.slot b o e n hb hx
   exact⟨sl,(hs.2 b (tM (tQ (tI e) (I.ok.cab x c hfn hc)))).trans e1⟩
  ·obtain⟨o',e1⟩:=I.bj.there b o e hx
   exact⟨o',(hs.2 b (tM (tQ (tI e) (I.ok.cab x c hfn hc)))).trans e1⟩
  ·by_cases hj:j=i
   ·subst hj
    rw[hi]at e1;cases e1
    rw[List.getElem?_set_self hiσ]at e2
    cases e2
    exact⟨u,r,.inr ⟨.inl hk,c,hc,hc'⟩⟩
   ·rw[List.getElem?_set_ne (Ne.symm hj)]at e2
    obtain⟨u',r',q⟩:=hl j y v' e1 e2 e3
    refine⟨u',r',?_⟩
    rcases q with q | ⟨k,c',e,z'⟩
    ·exact .inl q
    ·refine .inr ⟨k,c',e,z'.sameBut hs ?_⟩
     rintro rfl
     exact hj (dM hN e1 (I.ok.inj _ _ _ e hc▸hi))
  ·by_cases hcc:c'=c
   ·subst hcc;exact⟨_,hc'⟩
   ·obtain⟨w2,z2⟩:=I.cell y c' e
    exact⟨w2,z2.sameBut hs hcc⟩
  ·obtain⟨e,n,ne,nf,d⟩:=I.pin p hp
   refine⟨(hs.2 p.1 ?_).trans e,n,ne,nf,d⟩
   intro q
   rw[q,hoc]at e
   have q':oc=p.2:=tL e
   exact d w' (by rw[<-q'];exact hocd)
def ziV{M:Model}{A:Around}{E:ac}{i:Nat}{x:Str}{v:V}{u:Value}{Q:aq}(I:Inv X ai σ H s)(hN:X.N.Nodup)(hi:X.N[i]?=some x)(hx:Loc X.env.scope x)(r:RelV v u)
    (h:∀s',Inv X ai (σ.set i (some v)) H s'->Q () s') (hf:X.fn x=true\/X.env.scope.names.lookup x=some .local:=by first | exact .inl rfl | exact .inr rfl | assumption):wpAny M A (storeName X.env x u) Q E s:=
 zjC I hN hi hx r (λs' I' _=>h s' I') hf
def Inv.call'{s':Shared}{ch:List Addr}(I:Inv X ai σ H s)(ho:s'.os=s.os)(u:Un (frs X.stack) ch H H' s.heap s'.heap)(hok:HOk X.prog X.w H' s'.heap)(hg:AllBare s'.gens)
    (hch:∀b∈ch,(b∈X.ex\/X.s₀.heap.objs.size<=b)/\b≠X.env.locals/\(∀x c,X.env.cells.lookup x=some c->c≠b)/\∀p∈X.pn++ai,p.1≠b):Inv X ai σ H' s':=by
 obtain⟨h',g',d',t',o'⟩:=s'
 have e:o'=s.os:=ho
 subst e
 exact I.call (g':=g') (t':=t') (d':=d') u hok hg hch
end
abbrev XK:=Value->Option Addr->Hp->Prop
abbrev St:=List (Option V)
abbrev VK:=V->Hp->Prop
abbrev TE:=St->Hp->VK->Prop
abbrev TT:=St->Hp->(Bool->Hp->Prop)->Prop
abbrev TA:=St->Hp->(List V->Hp->Prop)->Prop
structure Ends where
 nx:St->Hp->Prop
 rt:VK
 bk:St->Hp->Prop:=λ_ _=>False
 ct:St->Hp->Prop:=λ_ _=>False
abbrev TS:=Ends->St->Hp->Prop
inductive EP(X:Cx)(ai:ae)(σ:St)(Q:VK)(u:Value)(s':Shared):Prop
 | mk (v:V) (H':Hp) (I:Inv X ai σ H' s') (r:RelV v u) (q:Q v H')
def TP(X:Cx)(ai:ae)(σ:St)(Q:Bool->Hp->Prop)(b:Bool)(s':Shared):Prop:=∃H',Inv X ai σ H' s'/\Q b H'
inductive AP(X:Cx)(ai:ae)(σ:St)(Q:List V->Hp->Prop)(us:aj)(s':Shared):Prop
 | mk (vs:List V) (H':Hp) (I:Inv X ai σ H' s') (r:Vals vs us) (q:Q vs H')
def SP(X:Cx)(ai:ae)(D:Ends)(f:Flow)(s':Shared):Prop:=
 match f with
 | .next=>∃ σ' H',Inv X ai σ' H' s'/\D.nx σ' H'
 | .brk=>∃ σ' H',Inv X ai σ' H' s'/\D.bk σ' H'
 | .cont=>∃ σ' H',Inv X ai σ' H' s'/\D.ct σ' H'
 | .ret u=>∃v σ' H',Inv X ai σ' H' s'/\RelV v u/\D.rt v H'
@[irreducible] def PE(X:Cx)(e:Expr)(t:TE):Prop:=
  ∀(ai:ae)(s:Shared)(σ:St)(H:Hp)(Q:VK),Inv X ai σ H s->t σ H Q->wpAny (model X.prog X.w) X.A (eval e X.env) (EP X ai σ Q) X.xe s
@[irreducible] def PT(X:Cx)(e:Expr)(t:TT):Prop:=
  ∀(ai:ae)(s:Shared)(σ:St)(H:Hp)(Q:Bool->Hp->Prop),Inv X ai σ H s->t σ H Q->wpAny (model X.prog X.w) X.A (isTrue e X.env (eval e X.env)) (TP X ai σ Q) X.xe s
def PW(X:Cx)(e:Expr)(t:TT):Prop:=
 ∀(whole:Sem Value)(ai:ae)(s:Shared)(σ:St)(H:Hp)(Q:Bool->Hp->Prop),Inv X ai σ H s->t σ H Q->wpAny (model X.prog X.w) X.A (isTrue e X.env whole) (TP X ai σ Q) X.xe s
theorem PW.pt{X:Cx}{e:Expr}{t:TT}(h:PW X e t):PT X e t:=by
 with_unfolding_all
  exact h _
@[irreducible] def PA(X:Cx)(es:List Expr)(t:TA):Prop:=
  ∀(pos:Pos)(ai:ae)(s:Shared)(σ:St)(H:Hp)(Q:List V->Hp->Prop),Inv X ai σ H s->t σ H Q->wpAny (model X.prog X.w) X.A (spliced (backTo pos (starEach es X.env))) (AP X ai σ Q) X.xe s
@[irreducible] def PS(X:Cx)(st:Stmt)(t:TS):Prop:=
  ∀(ai:ae)(s:Shared)(σ:St)(H:Hp)(D:Ends),Inv X ai σ H s->t D σ H->wpAny (model X.prog X.w) X.A (exec st X.env) (SP X ai D) X.xe s
@[irreducible] def PSs(X:Cx)(st:List Stmt)(t:TS):Prop:=
  ∀(ai:ae)(s:Shared)(σ:St)(H:Hp)(D:Ends),Inv X ai σ H s->t D σ H->wpAny (model X.prog X.w) X.A (execs st X.env) (SP X ai D) X.xe s
def thn{α:Type}{t:Sem α}{Q Q' : α->Shared->Prop}{M:Model}{A:Around}{E:ac}{s:Shared}(h:wpAny M A t Q E s)(hQ:∀a s,Q a s->Q' a s):wpAny M A t Q' E s:=sP h hQ λ_ _ x=>x
section
variable{X:Cx}
inductive EVar(i:Nat)(σ:St)(H:Hp)(Q:VK):Prop
 | mk (v:V) (h : σ[i]?=some (some v)) (q:Q v H):EVar i σ H Q
def tVar(i:Nat):TE:=EVar i
def tC(v:V):TE:=λ_ H Q=>Q v H
def ztI{i:Nat}{x:Str}{pos:Pos}(hN:X.N[i]?=some x)(hv:Vis X.env.scope x)(hd:(x==("__debug__" : Str))=false:=by decide)(hcd:(x==("__classdict__" : Str))=false:=by decide):PE X (.Name x pos) (tVar i):=by
 with_unfolding_all
  intro ai s σ H Q I h
  obtain⟨v,e,h⟩:=h
  obtain⟨m,hn,hl⟩:=I.loc
  obtain⟨u,r,l⟩:=hl i x v hN e hv
  have fin:EP X ai σ Q u s:=⟨v,H,I,r,h⟩
  rcases l with⟨hk,hm⟩ | ⟨hk,c,hc,hcell⟩
  ·exact wpAny_Name (wpAny_loadName_local I.ok.kind hk hn hm fin) hd
  ·rcases hk with hk | hk
   ·exact wpAny_Name (wpAny_loadName_cell I.ok.kind hk hc hcell fin) hd
   ·exact wpAny_Name (wpAny_loadName_free I.ok.kind hk hc hcell fin hcd) hd
theorem zad {i j pos}:PE X (.Constant (.int i) j pos) (tC (.int i)):=by
 with_unfolding_all
  exact λ_ _ _ H _ I h=>wpAny_Constant_int ⟨.int i,H,I.tok _,⟨_,rfl⟩,h⟩
theorem zdG {b j pos}:PE X (.Constant (.bool b) j pos) (tC (.bl b)):=by
 with_unfolding_all
  exact λ_ _ _ H _ I h=>Constant_bool ⟨.bl b,H,I,rfl,h⟩
theorem zdC {j pos}:PE X (.Constant .none j pos) (tC .non):=by
 with_unfolding_all
  exact λ_ _ _ H _ I h=>Constant_none ⟨.non,H,I,rfl,h⟩
theorem zbD {x j pos}:PE X (.Constant (.str x) j pos) (tC (.str x)):=by
 with_unfolding_all
  exact λ_ _ _ H _ I h=>Calls.Constant_str ⟨.str x,H,I.tok _,⟨_,rfl⟩,h⟩
def Gl(X:Cx)(x:Str):Prop:=X.env.kindOf x=some .globalImplicit
def zhg{E:ac}{ai:ae}{s:Shared}{σ:St}{H:Hp}{x:Str}{u:Value}{pos:Pos}{Q:ac}(I:Inv X ai σ H s)(hg:Gl X x)(hm:X.mg x=some u)(h:Q u s)
    (hd:(x==("__debug__" : Str))=false:=by decide):wpAny (model X.prog X.w) X.A (eval (.Name x pos) X.env) Q E s:=
 Calls.Name_function_global I.ok.kind hg (Calls.loadGlobal_global (by rw[I.ok.glob];exact I.mod.glob.keeps I.bk) hm h) hd
def zfk{E:ac}{ai:ae}{s:Shared}{σ:St}{H:Hp}{x:Str}{u:Value}{pos:Pos}{Q:ac}(I:Inv X ai σ H s)(hg:Gl X x)(hm:X.mg x=none)(hv:bootBuiltins x=some u)(h:Q u s)
    (hn:x ≠ "__name__" := by decide) (hd:(x==("__debug__" : Str))=false:=by decide):wpAny (model X.prog X.w) X.A (eval (.Name x pos) X.env) Q E s:=by
 obtain⟨mb,h1,h2⟩:=I.mod.blt
 exact Calls.Name_function_global I.ok.kind hg (Calls.loadGlobal_builtin (by rw[I.ok.glob];exact I.mod.glob.keeps I.bk) hm (by rw[I.ok.blt];exact h1.keeps I.bk) ((h2 x hn).trans hv) h) hd
theorem zbv{x:Str}{v:V}{u:Value}{pos:Pos}(hg:Gl X x)(hm:X.mg x=some u)(r:RelV v u)(hd:(x==("__debug__" : Str))=false:=by decide):PE X (.Name x pos) (tC v):=by
 with_unfolding_all
  exact λ_ _ _ H _ I h=>zhg I hg hm ⟨v,H,I,r,h⟩ hd
theorem zcc{x:Str}{v:V}{u:Value}{pos:Pos}(hg:Gl X x)(hm:X.mg x=none)(hv:bootBuiltins x=some u)(r:RelV v u)(hn:x ≠ "__name__" := by decide)(hd:(x==("__debug__" : Str))=false:=by decide):PE X (.Name x pos) (tC v):=by
 with_unfolding_all
  exact λ_ _ _ H _ I h=>zfk I hg hm hv ⟨v,H,I,r,h⟩ hn hd
variable{a b:Expr}{ta tb:TE}{pos:Pos}
inductive EBl(Q:Bool->Hp->Prop)(x:V)(H:Hp):Prop
 | mk (c:Bool) (h:x=.bl c) (q:Q c H):EBl Q x H
def tB(t:TE):TT:=λσ H Q=>t σ H (EBl Q)
def zaR{e:Expr}{t:TE}(h:PE X e t)(he:∀whole,isTrue e X.env whole=(do let v <-whole;standAt e.pos;holding [v] (truthy v)):=by intro _;rfl):PT X e (tB t):=by
 with_unfolding_all
  intro ai s σ H Q I hw
  refine isTrue_plain (thn (h ai s σ H _ I hw) λv s1 ⟨x,H1,I1,r1,q1⟩=>?_) (he _)
  obtain⟨d,rfl,q⟩:=q1
  cases r1
  exact ss ⟨H1,I1,q⟩
variable{tA tB':TT}{rest:List Expr}
def tAnd(t u:TT):TT:=λσ H Q=>t σ H λc H1=>if c=true then u σ H1 Q else Q false H1
def tOr(t u:TT):TT:=λσ H Q=>t σ H λc H1=>if c=true then Q true H1 else u σ H1 Q
def tNot(t:TT):TT:=λσ H Q=>t σ H λc H1=>Q (!c) H1
theorem zeq(ha:PT X a tA):PW X (.BoolOp .And [a] pos) tA:=by
 with_unfolding_all
  intro wh ai s σ H Q I h
  refine isTrue_and (thn (ha ai s σ H Q I h) λc s1 e=>?_)
  cases c with
  | true=>exact isTrue_and_nil e
  | false=>exact e
theorem zfl(ha:PT X a tA):PW X (.BoolOp .Or [a] pos) tA:=by
 with_unfolding_all
  intro wh ai s σ H Q I h
  refine isTrue_or (thn (ha ai s σ H Q I h) λc s1 e=>?_)
  cases c with
  | false=>exact isTrue_or_nil e
  | true=>exact e
theorem zhh(ha:PT X a tA)(hb:PW X (.BoolOp .And (b::rest) pos) tB'):PW X (.BoolOp .And (a::b::rest) pos) (tAnd tA tB'):=by
 with_unfolding_all
  intro wh ai s σ H Q I h
  refine isTrue_and (thn (ha ai s σ H _ I h) λc s1 ⟨H1,I1,q1⟩=>?_)
  cases c with
  | true=>exact hb wh ai s1 σ H1 Q I1 q1
  | false=>exact⟨H1,I1,q1⟩
theorem zhi(ha:PT X a tA)(hb:PW X (.BoolOp .Or (b::rest) pos) tB'):PW X (.BoolOp .Or (a::b::rest) pos) (tOr tA tB'):=by
 with_unfolding_all
  intro wh ai s σ H Q I h
  refine isTrue_or (thn (ha ai s σ H _ I h) λc s1 ⟨H1,I1,q1⟩=>?_)
  cases c with
  | true=>exact⟨H1,I1,q1⟩
  | false=>exact hb wh ai s1 σ H1 Q I1 q1
def zbi(ha:PT X a tA):PT X (.UnaryOp .Not a pos) (tNot tA):=by
 with_unfolding_all
  intro ai s σ H Q I h
  exact isTrue_not (ha ai s σ H (λc H1=>Q (!c) H1) I h)
def zvn(ta tb:TE):TE:=λσ H Q=>ta σ H λx H1=>∃c,x=.bl c/\if c=true then tb σ H1 Q else Q (.bl false) H1
def zvo(ta:TE):TE:=λσ H Q=>ta σ H λx H1=>∃c,x=.bl c/\Q (.bl (!c)) H1
theorem zhj {op} {t:TE} (h:PE X a t):PE X (.BoolOp op [a] pos) t:=by
 with_unfolding_all
  exact λai s σ H Q I hw=>BoolOp_one (h ai s σ H Q I hw)
theorem zgN(ha:PE X a ta)(hb:PE X (.BoolOp .And (b::rest) pos) tb):PE X (.BoolOp .And (a::b::rest) pos) (zvn ta tb):=by
 with_unfolding_all
  intro ai s σ H Q I h
  refine BoolOp_and (thn (ha ai s σ H _ I h) λv s1 ⟨x,H1,I1,r1,q1⟩=>?_)
  obtain⟨c,rfl,q1⟩:=q1
  cases r1
  refine ss ?_
  cases c with
  | true=>exact hb ai s1 σ H1 Q I1 q1
  | false=>exact⟨.bl false,H1,I1,rfl,q1⟩
def ztJ(ha:PE X a ta):PE X (.UnaryOp .Not a pos) (zvo ta):=by
 with_unfolding_all
  intro ai s σ H Q I h
  refine UnaryOp_ (thn (ha ai s σ H _ I h) λv s1 ⟨x,H1,I1,r1,q1⟩=>?_)
  obtain⟨c,rfl,q1⟩:=q1
  cases r1
  exact not_of (ss ⟨.bl (!c),H1,I1,rfl,q1⟩)
def tIf(t:TT)(ta tb:TE):TE:=λσ H Q=>t σ H λc H1=>if c=true then ta σ H1 Q else tb σ H1 Q
theorem zcK{c:Expr}(hc:PT X c tA)(ha:PE X a ta)(hb:PE X b tb):PE X (.IfExp c a b pos) (tIf tA ta tb):=by
 with_unfolding_all
  intro ai s σ H Q I h
  refine wpAny_IfExp (thn (hc ai s σ H _ I h) λd s1 ⟨H1,I1,q1⟩=>?_)
  cases d with
  | true=>exact ha ai s1 σ H1 Q I1 q1
  | false=>exact hb ai s1 σ H1 Q I1 q1
end
def SqL(K:am)(H:Hp)(a:Addr)(xs:List V):Prop:=
 Rd H a (.lst xs) \/
  ∃(o:Obj)(its:Array Value)(n:Nat),K.lookup a=some o/\o.cls=.type "list" /\ o.dict=none/\o.data=.seq its n/\its.size<=sizeLine/\Vals xs its.toList
def SqT(K:am)(H:Hp)(a:Addr)(xs:List V):Prop:=
 Rd H a (.tup xs) \/
  ∃(o:Obj)(its:Array Value)(n:Nat),K.lookup a=some o/\o.cls=.type "tuple" /\ o.data=.seq its n/\its.size<=sizeLine/\Vals xs its.toList
def absV:Value->Option V
 | .none=>some .non
 | .bool b=>some (.bl b)
 | .int i _=>some (.int i)
 | .str x _=>some (.str x)
 | .bytes b _=>some (.byt b)
 | .float b _=>some (.flt b)
 | .ref a=>some (.ref a)
 | .type n=>some (.ty n)
 | _=>none
theorem RelV.abs{x:V}{u:Value}(r:RelV x u):absV u=some x:=by
 cases x with
 | non=>cases r;rfl
 | bl _=>cases r;rfl
 | int _=>obtain⟨t,rfl⟩:=r;rfl
 | str _=>obtain⟨t,rfl⟩:=r;rfl
 | byt _=>obtain⟨t,rfl⟩:=r;rfl
 | flt _=>obtain⟨t,rfl⟩:=r;rfl
 | ref _=>cases r;rfl
 | ty _=>cases r;rfl
def RelV.inj{x y:V}{u:Value}(r:RelV x u)(q:RelV y u):x=y:=tL (r.abs.symm.trans q.abs)
theorem Vals.inj:∀{xs ys:List V}{us:aj},Vals xs us->Vals ys us->xs=ys
 | _,_,_,.nil,.nil=>rfl
 | _,_,_,.cons r t,.cons r' t'=>by rw[r.inj r',Vals.inj t t']
section
variable{X:Cx}{ai:ae}{σ:St}{H:Hp}{s:Shared}{a:Addr}{xs ys:List V}
def SqL.of{K:am}(h:H a=some (.lst xs)):SqL K H a xs:=.inl (.inl h)
def SqT.of{K:am}(h:H a=some (.tup xs)):SqT K H a xs:=.inl (.inl h)
def Inv.list(I:Inv X ai σ H s)(h:SqL X.K H a xs):∃its:List Value,Vals xs its/\PlainL s.heap a its.toArray/\xs.length<=sizeLine:=by
 rcases h with h | ⟨o,its,n,hk,hc,hd,hs,hz,r⟩
 ·obtain⟨z,its,n,r,e⟩:=h.ok I.hok
  exact⟨its,r,⟨_,n,e,rfl,rfl,rfl⟩,z⟩
 ·refine⟨its.toList,r,⟨o,n,I.kIn a o hk,hc,hd,by simpa using hs⟩,?_⟩
  have e:=r.length
  simp only[Array.length_toList]at e
  omega
def Inv.tuple(I:Inv X ai σ H s)(h:SqT X.K H a xs):∃its:List Value,Vals xs its/\IsTup s.heap a its.toArray/\xs.length<=sizeLine:=by
 rcases h with h | ⟨o,its,n,hk,hc,hs,hz,r⟩
 ·obtain⟨z,its,r,p⟩:=h.ok I.hok
  exact⟨its,r,p,z⟩
 ·refine⟨its.toList,r,⟨o,I.kIn a o hk,hc,n,by simpa using hs⟩,?_⟩
  have e:=r.length
  simp only[Array.length_toList]at e
  omega
def Inv.list_inj(I:Inv X ai σ H s)(h:SqL X.K H a xs)(h':SqL X.K H a ys):xs=ys:=by
 obtain⟨its,r,⟨o,n,e,_,_,d⟩,_⟩:=I.list h
 obtain⟨its',r',⟨o',n',e',_,_,d'⟩,_⟩:=I.list h'
 rw[e]at e';cases e'
 rw[d]at d'
 injection d' with d1 _
 have:its=its':=by simpa using tW Array.toList d1
 subst this
 exact r.inj r'
def Inv.tuple_inj(I:Inv X ai σ H s)(h:SqT X.K H a xs)(h':SqT X.K H a ys):xs=ys:=by
 obtain⟨its,r,⟨o,e,_,n,d⟩,_⟩:=I.tuple h
 obtain⟨its',r',⟨o',e',_,n',d'⟩,_⟩:=I.tuple h'
 rw[e]at e';cases e'
 rw[d]at d'
 injection d' with d1 _
 have:its=its':=by simpa using tW Array.toList d1
 subst this
 exact r.inj r'
end
abbrev Cx.wish(X:Cx)(E:ac):Cx := { X with xe:=E }
abbrev Cx.nox(X:Cx):Cx:=X.wish λ_ _=>False
def Cx.Ok.wish{X:Cx}(ok:X.Ok)(E:ac):(X.wish E).Ok:=
 ⟨ok.mod,ok.kind,ok.glob,ok.blt,ok.above,ok.inj,ok.has,ok.cab,ok.hd,ok.frames,ok.stk,ok.exf,ok.bs,ok.bsz,ok.noex,ok.exfs,ok.funs,ok.frf⟩
def Cx.Ok.unwish{X:Cx}{E:ac}(ok:(X.wish E).Ok):X.Ok:=
 ⟨ok.mod,ok.kind,ok.glob,ok.blt,ok.above,ok.inj,ok.has,ok.cab,ok.hd,ok.frames,ok.stk,ok.exf,ok.bs,ok.bsz,ok.noex,ok.exfs,ok.funs,ok.frf⟩
section
variable{X:Cx}{ai:ae}{σ:St}{H:Hp}{s:Shared}{E:ac}
def Inv.wish(I:Inv X ai σ H s)(E:ac):Inv (X.wish E) ai σ H s:=⟨I.ok.wish E,I.os,I.bare,I.bj,I.loc,I.cell,I.free,I.freeC,I.pin,I.hok,I.len⟩
def Inv.unwish(I:Inv (X.wish E) ai σ H s):Inv X ai σ H s:=⟨I.ok.unwish,I.os,I.bare,I.bj,I.loc,I.cell,I.free,I.freeC,I.pin,I.hok,I.len⟩
theorem SP.unwish{D:Ends}{f:Flow}{s':Shared}(h:SP (X.wish E) ai D f s'):SP X ai D f s':=by
 cases f with
 | next=>obtain⟨σ',H',I,q⟩:=h;exact⟨σ',H',I.unwish,q⟩
 | brk=>obtain⟨σ',H',I,q⟩:=h;exact⟨σ',H',I.unwish,q⟩
 | cont=>obtain⟨σ',H',I,q⟩:=h;exact⟨σ',H',I.unwish,q⟩
 | ret u=>obtain⟨v,σ',H',I,r,q⟩:=h;exact⟨v,σ',H',I.unwish,r,q⟩
theorem PSs.nox{st:List Stmt}{t:TS}(h:PSs X.nox st t):PSs X st t:=by
 with_unfolding_all
  exact λai s σ H D I hw=>
   sP (h ai s σ H D (I.wish _) hw) (λ_ _ q=>q.unwish) λ_ _ z=>False.elim z
end
section
variable{X:Cx}{st:Stmt}{rest:List Stmt}{t u:TS}{e:Expr}{te:TE}{pos:Pos}
def zvp:TS:=λD σ H=>D.nx σ H
def tSeq(t u:TS):TS:=λD σ H=>t { D with nx:=u D } σ H
theorem zat:PSs X [] zvp:=by
 with_unfolding_all
  exact λ_ _ σ H _ I h=>qW ⟨σ,H,I,h⟩
theorem zab(h1:PS X st t)(h2:PSs X rest u):PSs X (st::rest) (tSeq t u):=by
 with_unfolding_all
  intro ai s σ H D I h
  refine pO (thn (h1 ai s σ H { D with nx:=u D } I h) λf s1 q=>?_)
  cases f with
  | next=>
    obtain⟨σ',H',I',q⟩:=q
    exact h2 ai s1 σ' H' D I' q
  | ret v=>exact q
  | brk=>exact q
  | cont=>exact q
theorem zaf(h1:PS X st t):PSs X [st] t:=by
 with_unfolding_all
  intro ai s σ H D I h
  refine pO (thn (h1 ai s σ H D I h) λf s1 q=>?_)
  cases f with
  | next=>exact qW q
  | ret v=>exact q
  | brk=>exact q
  | cont=>exact q
def Inv.quiet{ai:ae}{σ:St}{H:Hp}{s:Shared}(I:Inv X ai σ H s):interactive X.env=false:=by simp[interactive,I.ok.kind]
def zvq(te:TE):TS:=λD σ H=>te σ H λ_ H1=>D.nx σ H1
def zbw(he:PE X e te)(hs:swapsWith e none pos.line X.env=pure false:=by rfl):PS X (.Expr e pos) (zvq te):=by
 with_unfolding_all
  intro ai s σ H D I h
  exact wpAny_Expr_any (thn (he ai s σ H _ I h) λv s1 ⟨x,H1,I1,r1,q1⟩=>⟨σ,H1,I1,q1⟩) I.quiet hs
def tRet(te:TE):TS:=λD σ H=>te σ H D.rt
def zaj(he:PE X e te):PS X (.Return (some e) pos) (tRet te):=by
 with_unfolding_all
  intro ai s σ H D I h
  exact wpAny_Return_some (thn (he ai s σ H _ I h) λv s1 ⟨x,H1,I1,r1,q1⟩=>⟨x,σ,H1,I1,r1,q1⟩)
def tIfS(c:TT)(t u:TS):TS:=λD σ H=>c σ H λb H1=>if b=true then t D σ H1 else u D σ H1
theorem zaQ{c:Expr}{a b:List Stmt}{tc:TT}(hc:PT X c tc)(ha:PSs X a t)(hb:PSs X b u):PS X (.If c a b pos) (tIfS tc t u):=by
 with_unfolding_all
  intro ai s σ H D I h
  refine wpAny_If (thn (hc ai s σ H _ I h) λd s1 ⟨H1,I1,q1⟩=>?_)
  cases d with
  | true=>exact ha ai s1 σ H1 D I1 q1
  | false=>exact hb ai s1 σ H1 D I1 q1
def ztK:TS:=λ_ _ _=>False
theorem aB:PS X st ztK:=by
 with_unfolding_all
  exact λ_ _ _ _ _ _ h=>h.elim
end
abbrev TG:=V->St->Hp->(St->Hp->Prop)->Prop
abbrev TGs:=List V->St->Hp->(St->Hp->Prop)->Prop
def PG(X:Cx)(target:Expr)(t:TG):Prop:=
 ∀(ai:ae)(s:Shared)(σ:St)(H:Hp)(v:V)(u:Value)(Q:St->Hp->Prop),Inv X ai σ H s->RelV v u->t v σ H Q->
  wpAny (model X.prog X.w) X.A (assign target X.env u) (λ_ s'=>∃ σ' H',Inv X ai σ' H' s'/\Q σ' H') X.xe s
def PGs(X:Cx)(ts:List Expr)(t:TGs):Prop:=
 ∀(ai:ae)(s:Shared)(σ:St)(H:Hp)(vs:List V)(us:aj)(Q:St->Hp->Prop),Inv X ai σ H s->Vals vs us->t vs σ H Q->
  wpAny (model X.prog X.w) X.A (assignInOrder ((assignEach ts X.env).map (·.2)) us) (λ_ s'=>∃ σ' H',Inv X ai σ' H' s'/\Q σ' H') X.xe s
abbrev TSet:=V->V->V->Hp->(Hp->Prop)->Prop
def PSet(X:Cx)(t:TSet):Prop:=
 ∀(ai:ae)(s:Shared)(σ:St)(H:Hp)(o i v:V)(ov iv u:Value)(Q:Hp->Prop),Inv X ai σ H s->RelV o ov->RelV i iv->RelV v u->t o i v H Q->
  wpAny (model X.prog X.w) X.A (setItem ov iv u) (λ_ s'=>∃H',Inv X ai σ H' s'/\Q H') X.xe s
abbrev TIp:=V->V->Hp->VK->Prop
def PIp(X:Cx)(op:Operator)(t:TIp):Prop:=
 ∀(ai:ae)(s:Shared)(σ:St)(H:Hp)(x y:V)(v u:Value)(Q:VK),Inv X ai σ H s->RelV x v->RelV y u->t x y H Q->
  wpAny (model X.prog X.w) X.A (inplaceOp op v u) (EP X ai σ Q) X.xe s
section
variable{X:Cx}{pos:Pos}
def zjD(i:Nat):TG:=λv σ H Q=>Q (σ.set i (some v)) H
def ay{i:Nat}{x:Str}(hN:X.N.Nodup)(hi:X.N[i]?=some x)(hx:Loc X.env.scope x)(hf:X.fn x=true\/X.env.scope.names.lookup x=some .local:=by first | exact .inl rfl | exact .inr rfl | assumption):PG X (.Name x pos) (zjD i):=by
 intro ai s σ H v u Q I r h
 exact wpAny_assign_Name (ziV I hN hi hx r (λs' I'=>⟨_,H,I',h⟩) hf)
def gNil:TGs:=λvs σ H Q=>vs=[]/\Q σ H
def zsu(t:TG)(u:TGs):TGs:=λvs σ H Q=>∃v r,vs=v::r/\t v σ H λσ' H'=>u r σ' H' Q
def zhk:PGs X [] gNil:=by
 intro ai s σ H vs us Q I r h
 obtain⟨e,h⟩:=h
 subst e
 cases r
 exact assignInOrder_nil ⟨σ,H,I,h⟩
theorem zbp{e:Expr}{es:List Expr}{t:TG}{u:TGs}(h1:PG X e t)(h2:PGs X es u)
  (hs:(assignEach (e::es) X.env).map (·.2)=assign e X.env::(assignEach es X.env).map (·.2):=by rfl):PGs X (e::es) (zsu t u):=by
 intro ai s σ H vs us Q I r h
 obtain⟨v,vr,e1,h⟩:=h
 subst e1
 cases r with
 | cons r rr=>
   rw[hs]
   refine assignInOrder_cons (thn (h1 ai s σ H _ _ _ I r h) λ_ s1 ⟨σ1,H1,I1,q1⟩=>?_)
   exact h2 ai s1 σ1 H1 _ _ Q I1 rr q1
inductive ETup(K:am)(n:Nat)(t:TGs)(v:V)(σ:St)(H:Hp)(Q:St->Hp->Prop):Prop
 | mk (a:Addr) (xs:List V) (hx:v=.ref a) (s:SqT K H a xs) (l:xs.length=n) (q:t xs σ H Q):ETup K n t v σ H Q
def gTup(K:am)(n:Nat)(t:TGs):TG:=ETup K n t
def zjE{es:List Expr}{k:Nat}{t:TGs}{n:Nat}(hc:X.calm=true)(h:PGs X es t)
    (hn:(assignEach es X.env).length=n:=by rfl) (hst:(assignEach es X.env).findIdx? (·.1)=none:=by rfl):PG X (.Tuple es k pos) (gTup X.K n t):=by
 intro ai s σ H v u Q I r hw
 obtain⟨a,xs,e1,hq,hl,hw⟩:=hw
 subst e1
 cases r
 obtain⟨its,rv,ht,hz⟩:=I.tuple hq
 refine assign_Tuple_tuple (I.ok.hd hc) ht (by simp[hn,<-hl,rv.length]) hst λh' hx=>?_
 have I1:Inv X ai σ H { s with heap:=h' }:=I.kept (t':=s.toks) λb o e=>hx b o (tM (tI e)) e
 exact h ai _ σ H xs _ Q I1 (by simpa using rv) hw
def gSub(to ti:TE)(t:TSet):TG:=λv σ H Q=>to σ H λo H1=>ti σ H1 λi H2=>t o i v H2 λH3=>Q σ H3
def zrx{o i:Expr}{to ti:TE}{t:TSet}(ho:PE X o to)(hi:PE X i ti)(hs:PSet X t)
    (ha:∀v,assign (.Subscript o i pos) X.env v=(do
      let ov <-holding [v] (eval o X.env)
      let iv <-holding [v,ov] (eval i X.env)
      standAt pos
      holding [v,ov,iv] (setItem ov iv v)
      release [v,ov,iv] []):=by intro _;rfl):PG X (.Subscript o i pos) (gSub to ti t):=by
 with_unfolding_all
  intro ai s σ H v u Q I r h
  rw[ha]
  refine tD (t7 (thn (ho ai s σ H _ I h) λov s1 ⟨x,H1,I1,r1,q1⟩=>?_))
  refine tD (t7 (thn (hi ai s1 σ H1 _ I1 q1) λiv s2 ⟨y,H2,I2,r2,q2⟩=>?_))
  refine tD (wpAny_standAt (tD (t7 (thn (hs ai s2 σ H2 x y v ov iv u _ I2 r1 r2 r q2) λ_ s3 ⟨H3,I3,q3⟩=>?_))))
  exact wpAny_release ⟨σ,H3,I3,q3⟩
def tAsg(te:TE)(g:TG):TS:=λD σ H=>te σ H λx H1=>g x σ H1 D.nx
def znO{tg e:Expr}{te:TE}{g:TG}(he:PE X e te)(hg:PG X tg g)(hs:swapsWithSole [tg] e pos.line X.env=pure false:=by rfl)(hw:swappedStores [tg] e X.env=pure none:=by rfl)
    (h1:(assignEach [tg] X.env).map (·.2)=[assign tg X.env]:=by rfl):PS X (.Assign [tg] e pos) (tAsg te g):=by
 with_unfolding_all
  intro ai s σ H D I h
  refine wpAny_Assign_stores (thn (he ai s σ H _ I h) λv s1 ⟨x,H1,I1,r1,q1⟩=>?_) hs hw
  rw[h1]
  exact thn (hg ai s1 σ H1 x v _ I1 r1 q1) λ_ s2 q=>q
def zam{i:Nat}{x:Str}{e:Expr}{te:TE}{pos':Pos}(hN:X.N.Nodup)(hi:X.N[i]?=some x)(hx:Loc X.env.scope x)(he:PE X e te)(hs:swapsWith e (some (.Name x pos')) pos.line X.env=pure false:=by rfl)(hf:X.fn x=true\/X.env.scope.names.lookup x=some .local:=by first | exact .inl rfl | exact .inr rfl | assumption):
    PS X (.Assign [.Name x pos'] e pos) (tAsg te (zjD i)):=by
 with_unfolding_all
  intro ai s σ H D I h
  refine wpAny_Assign_Name (thn (he ai s σ H _ I h) λv s1 ⟨y,H1,I1,r1,q1⟩=>?_) hs
  exact ziV I1 hN hi hx r1 (λs2 I2=>⟨_,H1,I2,q1⟩) hf
def tAug(i:Nat)(te:TE)(ti:TIp):TS:=λD σ H=>∃x,σ[i]?=some (some x)/\te σ H λy H1=>ti x y H1 λz H2=>D.nx (σ.set i (some z)) H2
def ztL{i:Nat}{x:Str}{e:Expr}{te:TE}{op:Operator}{ti:TIp}{pos':Pos}(hN:X.N.Nodup)(hi:X.N[i]?=some x)(hx:Loc X.env.scope x)(he:PE X e te)(ho:PIp X op ti)(hf:X.fn x=true\/X.env.scope.names.lookup x=some .local:=by first | exact .inl rfl | exact .inr rfl | assumption):
    PS X (.AugAssign (.Name x pos') op e pos) (tAug i te ti):=by
 with_unfolding_all
  intro ai s σ H D I h
  obtain⟨v,e1,h⟩:=h
  obtain⟨m,hn,hl⟩:=I.loc
  have vis:Vis X.env.scope x:=by rcases hx with k | k;exact .inl k;exact .inr (.inl k)
  obtain⟨u,r,l⟩:=hl i x v hi e1 vis
  refine wpAny_AugAssign_Name ?_
  have go:wpAny (model X.prog X.w) X.A (eval e X.env) (λw s₂=>wpAny (model X.prog X.w) X.A (inplaceOp op u w) (λr s₃=>wpAny (model X.prog X.w) X.A (storeName X.env x r) (λ_=>SP X ai D .next) X.xe s₃) X.xe s₂) X.xe s:=by
   refine thn (he ai s σ H _ I h) λw s1 ⟨y,H1,I1,r1,q1⟩=>?_
   refine thn (ho ai s1 σ H1 v y u w _ I1 r r1 q1) λz s2 ⟨zv,H2,I2,r2,q2⟩=>?_
   exact ziV I2 hN hi hx r2 (λs3 I3=>⟨_,H2,I3,q2⟩) hf
  rcases l with⟨hk,hm⟩ | ⟨hk,c,hc,hcell⟩
  ·exact wpAny_loadName_local I.ok.kind hk hn hm go
  ·rcases hk with hk | hk
   ·exact wpAny_loadName_cell I.ok.kind hk hc hcell go
   ·rcases hx with k | k
    ·have:X.env.scope.names.lookup x=some .free:=hk
     rw[k]at this;cases this
    ·have:X.env.scope.names.lookup x=some .free:=hk
     rw[k]at this;cases this
def ipI(f:Int->Int->Int):TIp:=λx y H Q=>∃i j,x=.int i/\y=.int j/\Q (.int (f i j)) H
def ztM:PIp X .Add (ipI λi j=>i+j):=by
 intro ai s σ H x y v u Q I r1 r2 h
 obtain⟨i,j,e1,e2,q⟩:=h
 subst e1;subst e2
 obtain⟨t,rfl⟩:=r1
 obtain⟨t',rfl⟩:=r2
 exact iadd_int ⟨.int _,H,I.tok _,⟨_,rfl⟩,q⟩
end
section
variable{X:Cx}{pos:Pos}
def zry(c:TT)(tb:TS):TS:=λD σ H=>∃W:Nat->St->Hp->Prop,(∃m,W m σ H)/\∀m σ H,W m σ H->
 c σ H λb H1=>if b=true then ∃N:St->Hp->Prop,(∀ σ' H',N σ' H'->∃m',m'<m/\W m' σ' H')/\tb { D with nx:=N,ct:=N,bk:=D.nx } σ H1 else D.nx σ H1
theorem ziW{c:Expr}{body:List Stmt}{tc:TT}{tb:TS}(hp:PassesOwn (model X.prog X.w) X.A X.env X.xe)(hc:PT X c tc)(hb:PSs X body tb):PS X (.While c body [] pos) (zry tc tb):=by
 with_unfolding_all
  intro ai s σ H D I h
  obtain⟨W,⟨m0,w0⟩,turn⟩:=h
  refine wpAny_While (codeAny_whileLoop (λn s'=>∃ σ' H',Inv X ai σ' H' s'/\W n σ' H') ?_ m0 ⟨σ,H,I,w0⟩)
  rintro n s1 ⟨σ1,H1,I1,w1⟩
  refine rC hp (thn (hc ai s1 σ1 H1 _ I1 (turn n σ1 H1 w1)) λb s2 ⟨H2,I2,q2⟩=>?_)
  cases b with
  | true=>
    obtain⟨N,hN,q2⟩:=q2
    rw[if_pos rfl]
    refine rC hp (thn (hb ai s2 σ1 H2 _ I2 q2) λf s3 q3=>?_)
    cases f with
    | next=>
      obtain⟨σ3,H3,I3,n3⟩:=q3
      obtain⟨m',hm,w3⟩:=hN σ3 H3 n3
      exact⟨m',hm,σ3,H3,I3,w3⟩
    | cont=>
      obtain⟨σ3,H3,I3,n3⟩:=q3
      obtain⟨m',hm,w3⟩:=hN σ3 H3 n3
      exact⟨m',hm,σ3,H3,I3,w3⟩
    | brk=>exact q3
    | ret v=>exact q3
  | false=>
    rw[if_neg tG]
    exact qW ⟨σ1,H2,I2,q2⟩
end
structure It where
 go:Nat->Hp->Prop
 yld:Nat->Hp->V->Hp->Prop
 stop:Nat->Hp->Prop
def FpOk(X:Cx)(ai:ae)(H:Hp)(b:Addr):Prop:=
 H b=none/\b≠X.env.locals/\b∉X.fs/\(b∈X.ex\/X.s₀.heap.objs.size<=b)/\(∀x c,X.env.cells.lookup x=some c->c≠b)/\∀p∈X.pn++ai,p.1≠b
def Inv.fpOk{X:Cx}{ai:ae}{σ:St}{H H':Hp}{s:Shared}{b:Addr}(I:Inv X ai σ H s)(hb:s.heap.objs.size<=b)(hn:H' b=none):FpOk X ai H' b:=by
 refine⟨hn,qG (tQ I.lt hb),I.nofs hb,.inr (tU I.sz hb),λx c e z=>?_,λp hp z=>?_⟩
 ·obtain⟨v,q⟩:=I.cell x c e
  exact absurd (tQ q.lt (by rw[z];exact hb)) (rZ _)
 ·exact absurd (tQ (tI (I.pin p hp).1) (by rw[z];exact hb)) (rZ _)
structure Turn(P:Program)(w:World)(K:am)(tg:Expr)(J:It)(fp:List Addr)(it:Addr)(tn:Nat->Heap->Prop):Prop where
 mem:it∈fp
 obj:∀i h,tn i h->∀b∈fp,∃o,h.get? b=some o/\∀v,o.data≠.cell v
 keep:∀i h h',tn i h->(∀b∈fp,∀o,h.get? b=some o->h'.get? b=some o)->tn i h'
 item:∀(X:Cx),X.prog=P->X.w=w->X.K=K->X.calm=true->∀(i:Nat)(ai:ae)(s:Shared)(σ:St)(H:Hp)(E:ac),Inv X ai σ H s->(∀b∈fp,FpOk X ai H b)->tn i s.heap->J.go i H->
  wpAny (model P w) X.A (pyNext (.ref it)) (λr s1=>∃u,r=some u/\
   wpAny (model P w) X.A (letOwnedTupleGo tg (.ref it) u) (λ_ s2=>∃x H',Inv X ai σ H' s2/\RelV x u/\J.yld i H x H'/\tn (i+1) s2.heap/\∀b∈fp,H' b=none) E s1) E s
 done:∀(X:Cx),X.prog=P->X.w=w->X.K=K->X.calm=true->∀(i:Nat)(ai:ae)(s:Shared)(σ:St)(H:Hp)(E:ac),Inv X ai σ H s->(∀b∈fp,FpOk X ai H b)->tn i s.heap->J.stop i H->
  wpAny (model P w) X.A (pyNext (.ref it)) (λr s1=>r=none/\Inv X ai σ H s1) E s
 self:∀(A:Around)(i:Nat)(s:Shared)(Q:ac)(E:ac),tn i s.heap->Q (.ref it) s->wpAny (model P w) A (pyIter (.ref it)) Q E s
abbrev TI:=St->Hp->(It->Hp->Prop)->Prop
inductive PIE(X:Cx)(ai:ae)(σ:St)(tg:Expr)(R:It->Hp->Prop)(itv:Value)(s2:Shared):Prop
 | mk (it:Addr) (fp:List Addr) (tn:Nat->Heap->Prop) (J:It) (H':Hp) (e:itv=.ref it) (I:Inv X ai σ H' s2) (t:Turn X.prog X.w X.K tg J fp it tn) (t0:tn 0 s2.heap) (f:∀b∈fp,FpOk X ai H' b) (q:R J H')
def PI(X:Cx)(tg iter:Expr)(wi:TI):Prop:=
 ∀(ai:ae)(s:Shared)(σ:St)(H:Hp)(R:It->Hp->Prop),Inv X ai σ H s->wi σ H R->
  wpAny (model X.prog X.w) X.A (eval iter X.env) (λv s1=>wpAny (model X.prog X.w) X.A (pyIter v) (PIE X ai σ tg R) X.xe s1) X.xe s
theorem zmX{M:Model}{A:Around}{E:ac}{s:Shared}{tg:Expr}{it:Addr}{u:Value}{o:Obj}{n:String}{vs:Array Value}{Q:aq}(ho:s.heap.get? it=some o)(hc:o.cls=.type n)(hd:o.data=.fields vs)
  (hn:["enumerate","zip","dict_itemiterator","dict_reverseitemiterator","odict_iterator","itertools.zip_longest","itertools.pairwise"].contains n=false) (hQ:Q () s):wpAny M A (letOwnedTupleGo tg (.ref it) u) Q E s:=by
 unfold letOwnedTupleGo
 cases tg<;>first
  | exact tH hQ
  | (cases u<;>first
      | exact tH hQ
      | (refine tD (wpAny_load ho ?_)
         rw[hc,hd]
         show wpAny M A (if(["enumerate","zip","dict_itemiterator","dict_reverseitemiterator","odict_iterator","itertools.zip_longest","itertools.pairwise"].contains n&&vs[0]?==some (rawInt _))=true then _ else _) Q E s
         rw[if_neg (by intro h;rw[hn,qF]at h;cases h)]
         exact tH hQ))
def Itl(K:am)(a:Addr):It:=
 ⟨λi H=>∃xs x,SqL K H a xs/\xs[i]?=some x,λi H x H'=>H'=H/\∀xs,SqL K H a xs->xs[i]?=some x,λi H=>∃xs,SqL K H a xs/\xs.length<=i⟩
def Itt(K:am)(a:Addr):It:=
 ⟨λi H=>∃xs x,SqT K H a xs/\xs[i]?=some x,λi H x H'=>H'=H/\∀xs,SqT K H a xs->xs[i]?=some x,λi H=>∃xs,SqT K H a xs/\xs.length<=i⟩
def Itr(lo:Int)(n:Nat):It:=⟨λi _=>i<n,λi H x H'=>H'=H/\x=.int (lo+i),λi _=>n<=i⟩
def znP{P:Program}{w:World}{K:am}{tg:Expr}(a it:Addr):Turn P w K tg (Itl K a) [it] it (λi h=>h.IsListIter it a i) where
 mem:=by simp
 obj:=λi h st b hb=>by
  have e:b=it:=by simpa using hb
  subst e
  obtain⟨o,e,c,d⟩:=st
  exact⟨o,e,λv z=>by rw[d]at z;cases z⟩
 keep:=λi h h' st k=>st.at λo e=>k it (by simp) o e
 item:=by
  intro X hP hw hK hc i ai s σ H E I hf st hg
  subst hP hw hK
  obtain⟨xs,x,hq,hx⟩:=hg
  obtain⟨its,rv,p,hz⟩:=I.list hq
  obtain⟨u,hu,ru⟩:=rv.get hx
  obtain⟨f0,f1,f2,f3,f4,f5⟩:=hf it (by simp)
  refine wpAny_pyNext_list_item st p.isList (x:=u) (by simpa using hu) λh' st' sb=>?_
  have I1:Inv X ai σ H { s with heap:=h' }:=I.turned (t':=s.toks) (λb o hb e=>(sb.2 b hb).trans e) f0 f1 f3 f4 f5
  obtain⟨o,e,c,d⟩:=id st'
  exact⟨u,rfl,zmX (s := { s with heap:=h' }) e c d (by decide) ⟨x,H,I1,ru,⟨rfl,λys hy=>by rw[I.list_inj hy hq];exact hx⟩,st',λb hb=>(hf b hb).1⟩⟩
 done:=by
  intro X hP hw hK hc i ai s σ H E I hf st hg
  subst hP hw hK
  obtain⟨xs,hq,hx⟩:=hg
  obtain⟨its,rv,p,hz⟩:=I.list hq
  obtain⟨f0,f1,f2,f3,f4,f5⟩:=hf it (by simp)
  have hl:=rv.length
  exact wpAny_pyNext_list_end (I.ok.hd hc) st p.isList (by simp;omega) λh' eb=>⟨rfl,I.turned (t':=s.toks) (λb o hb e=>eb b o hb e) f0 f1 f3 f4 f5⟩
 self:=λ_ _ _ _ _ st h=>wpAny_pyIter_listiter st h
def zmY{P:Program}{w:World}{K:am}{tg:Expr}(a it:Addr):Turn P w K tg (Itt K a) [it] it (λi h=>h.IsTupleIter it a i) where
 mem:=by simp
 obj:=λi h st b hb=>by
  have e:b=it:=by simpa using hb
  subst e
  obtain⟨o,e,c,d⟩:=st
  exact⟨o,e,λv z=>by rw[d]at z;cases z⟩
 keep:=λi h h' st k=>st.at λo e=>k it (by simp) o e
 item:=by
  intro X hP hw hK hc i ai s σ H E I hf st hg
  subst hP hw hK
  obtain⟨xs,x,hq,hx⟩:=hg
  obtain⟨its,rv,p,hz⟩:=I.tuple hq
  obtain⟨u,hu,ru⟩:=rv.get hx
  obtain⟨f0,f1,f2,f3,f4,f5⟩:=hf it (by simp)
  refine wpAny_pyNext_tuple_item st (show s.heap.IsTuple a its.toArray from p) (x:=u) (by simpa using hu) λh' st' sb=>?_
  have I1:Inv X ai σ H { s with heap:=h' }:=I.turned (t':=s.toks) (λb o hb e=>(sb.2 b hb).trans e) f0 f1 f3 f4 f5
  obtain⟨o,e,c,d⟩:=id st'
  exact⟨u,rfl,zmX (s := { s with heap:=h' }) e c d (by decide) ⟨x,H,I1,ru,⟨rfl,λys hy=>by rw[I.tuple_inj hy hq];exact hx⟩,st',λb hb=>(hf b hb).1⟩⟩
 done:=by
  intro X hP hw hK hc i ai s σ H E I hf st hg
  subst hP hw hK
  obtain⟨xs,hq,hx⟩:=hg
  obtain⟨its,rv,p,hz⟩:=I.tuple hq
  obtain⟨f0,f1,f2,f3,f4,f5⟩:=hf it (by simp)
  have hl:=rv.length
  exact wpAny_pyNext_tuple_end (I.ok.hd hc) st (show s.heap.IsTuple a its.toArray from p) (by simp;omega) λh' eb=>⟨rfl,I.turned (t':=s.toks) (λb o hb e=>eb b o hb e) f0 f1 f3 f4 f5⟩
 self:=λ_ _ _ _ _ st h=>wpAny_pyIter_tupleiter st h
def zmZ{P:Program}{w:World}{K:PySem.W.Frag}{tg:Expr}(it:Addr)(lo:Int)(n:Nat):Turn P w K tg (Itr lo n) [it] it (λi h=>IsRangeIter h it (lo+(i:Nat)*1) ((n:Int)-(i:Nat)) 1) where
 mem:=by simp
 obj:=λi h st b hb=>by
  have e:b=it:=by simpa using hb
  subst e
  exact⟨_,st,λv z=>by
   have z':Data.fields _=Data.cell v:=z
   cases z'⟩
 keep:=λi h h' st k=>k it (by simp) _ st
 item:=by
  intro X hP hw hK hc i ai s σ H E I hf st hg
  subst hP hw hK
  obtain⟨f0,f1,f2,f3,f4,f5⟩:=hf it (by simp)
  have W:=Walks.range (prog:=X.prog) (w:=X.w) (I.ok.hd hc) it lo 1 n
  refine W.item i s _ _ hg st λv h' tk hv st' kk=>?_
  obtain⟨t,rfl⟩:=hv
  have I1:Inv X ai σ H { s with heap:=h',toks:=tk }:=I.turned (λb o hb e=>kk b o (by simpa using hb) e) f0 f1 f3 f4 f5
  refine⟨_,rfl,zmX (s := { s with heap:=h',toks:=tk }) (n := "range_iterator") st' rfl rfl (by decide) ⟨.int (lo+i),H,I1,⟨t,?_⟩,⟨rfl,rfl⟩,st',λb hb=>(hf b hb).1⟩⟩
  rw[Int.mul_one]
 done:=by
  intro X hP hw hK hc i ai s σ H E I hf st hg
  subst hP hw hK
  obtain⟨f0,f1,f2,f3,f4,f5⟩:=hf it (by simp)
  exact wpAny_pyNext_range_end (I.ok.hd hc) st (by have:n<=i:=hg;omega) λh' eb=>⟨rfl,I.turned (t':=s.toks) (λb o hb e=>eb b o hb e) f0 f1 f3 f4 f5⟩
 self:=λ_ _ _ _ _ st h=>wpAny_pyIter_rangeiter st h
section
variable{X:Cx}{tg:Expr}
def zvr(K:am)(tl:TE):TI:=λσ H R=>tl σ H λx H1=>∃a,x=.ref a/\(∃xs,SqL K H1 a xs)/\R (Itl K a) H1
def iTup(K:am)(tl:TE):TI:=λσ H R=>tl σ H λx H1=>∃a,x=.ref a/\(∃xs,SqT K H1 a xs)/\R (Itt K a) H1
def zaB{l:Expr}{tl:TE}(hl:PE X l tl):PI X tg l (zvr X.K tl):=by
 with_unfolding_all
  intro ai s σ H R I h
  refine thn (hl ai s σ H _ I h) λv s1 ⟨x,H1,I1,r1,q1⟩=>?_
  obtain⟨a,e,⟨xs,hq⟩,q⟩:=q1
  subst e
  cases r1
  obtain⟨its,rv,p,hz⟩:=I1.list hq
  refine r8 p.isList ?_
  refine⟨s1.heap.objs.size,[s1.heap.objs.size],_,_,H1,rfl,I1.kept (t':=s1.toks) λb o e=>tz _ e,znP a _,⟨_,tJ _ rfl,rfl,rfl⟩,λb hb=>?_,q⟩
  have e:b=s1.heap.objs.size:=by simpa using hb
  subst e
  exact I1.fpOk (tF _) (I1.hok.fresh (tF _))
def ztN{l:Expr}{tl:TE}(hl:PE X l tl):PI X tg l (iTup X.K tl):=by
 with_unfolding_all
  intro ai s σ H R I h
  refine thn (hl ai s σ H _ I h) λv s1 ⟨x,H1,I1,r1,q1⟩=>?_
  obtain⟨a,e,⟨xs,hq⟩,q⟩:=q1
  subst e
  cases r1
  obtain⟨its,rv,p,hz⟩:=I1.tuple hq
  refine wpAny_pyIter_tuple (show s1.heap.IsTuple a its.toArray from p) ?_
  refine⟨s1.heap.objs.size,[s1.heap.objs.size],_,_,H1,rfl,I1.kept (t':=s1.toks) λb o e=>tz _ e,zmY a _,⟨_,tJ _ rfl,rfl,rfl⟩,λb hb=>?_,q⟩
  have e:b=s1.heap.objs.size:=by simpa using hb
  subst e
  exact I1.fpOk (tF _) (I1.hok.fresh (tF _))
def zqo{ai:ae}{σ:St}{H:Hp}{s:Shared}{R:It->Hp->Prop}{E:ac}{lo hi:Int}{t u v:Tok}{tk:Nat}(I:Inv X ai σ H s)(h1 : -(2 ^ 62)<=lo)(h2:lo<2 ^ 62)(h3 : -(2 ^ 62)<=hi)(h4:hi<2 ^ 62)
    (q:R (Itr lo (hi-lo).toNat) H):wpAny (model X.prog X.w) X.A (pyIter (.ref s.heap.objs.size)) (PIE X ai σ tg R) E { s with heap:=s.heap.push { cls:=.type "range",data:=.fields #[.int lo t,.int hi u,.int 1 v] },toks:=tk }:=by
 refine wpAny_pyIter_range (IsRange.new ..) (small_one h1 h2 h3 h4) ?_
 have I1:Inv X ai σ H { s with heap:=s.heap.push { cls:=.type "range",data:=.fields #[.int lo t,.int hi u,.int 1 v] },toks:=tk }:=I.kept λb o e=>tz _ e
 refine⟨(s.heap.push { cls:=.type "range",data:=.fields #[.int lo t,.int hi u,.int 1 v] }).objs.size,[(s.heap.push { cls:=.type "range",data:=.fields #[.int lo t,.int hi u,.int 1 v] }).objs.size],_,_,H,rfl,
  I1.kept (t':=tk) λb o e=>tz _ e,zmZ _ lo (hi-lo).toNat,?_,λb hb=>?_,q⟩
 ·have e1:lo+((0:Nat):Int)*1=lo:=by simp
  have e2:(((hi-lo).toNat:Nat):Int)-((0:Nat):Int)=Builtin.Range.rangeSize lo hi 1:=by rw[rangeSize_one];split<;>omega
  show IsRangeIter _ _ (lo+((0:Nat):Int)*1) ((((hi-lo).toNat:Nat):Int)-((0:Nat):Int)) 1
  rw[e1,e2]
  exact tJ _ rfl
 ·have e:b=(s.heap.push { cls:=.type "range",data:=.fields #[.int lo t,.int hi u,.int 1 v] }).objs.size:=by simpa using hb
  subst e
  exact I1.fpOk (tF _) (I1.hok.fresh (tF _))
def zvs(ta:TA):TI:=λσ H R=>ta σ H λvs H1=>∃j:Int,vs=[.int j] /\ -(2 ^ 62)<=j/\j<2 ^ 62/\R (Itr 0 j.toNat) H1
theorem zjF{a:Expr}{ta:TA}{p pos:Pos}(hg:Gl X "range")(hm:X.mg "range" = none)(ha:PA X [a] ta)(hs:starEach [a] X.env=[(false,eval a X.env)]:=by rfl):PI X tg (.Call (.Name "range" p) [a] [] pos) (zvs ta):=by
 with_unfolding_all
  intro ai s σ H R I h
  refine Call_ (zfk I hg hm boot_range (sX (thn (ha pos ai s σ H _ I h) λus s1 ⟨vs,H1,I1,r1,q1⟩=>?_) hs rfl))
  obtain⟨j,e,q1,q2,q⟩:=q1
  subst e
  cases r1 with
  | cons r rr=>
    cases rr
    obtain⟨t,rfl⟩:=r
    exact call_range_1 (zqo I1 (by omega) (by omega) q1 q2 (by simpa using q))
def tFor(wi:TI)(g:TG)(tb:TS):TS:=λD σ H=>wi σ H λJ H1=>∃W:Nat->Nat->St->Hp->Prop,(∃m,W 0 m σ H1)/\∀i m σ H,W i m σ H->
 (J.stop i H/\D.nx σ H)\/(J.go i H/\∃N:St->Hp->Prop,(∀ σ' H',N σ' H'->∃m',m'<m/\W (i+1) m' σ' H')/\∀x H',J.yld i H x H'->g x σ H' λσ2 H2=>tb { D with nx:=N,ct:=N,bk:=D.nx } σ2 H2)
def zjG(fp:List Addr)(h:Heap):List (Addr × Obj):=fp.filterMap λb=>(h.get? b).map λo=>(b,o)
def bA{fp:List Addr}{h:Heap}{b:Addr}{o:Obj}(hb:b∈fp)(e:h.get? b=some o):(b,o)∈zjG fp h:=mem_filterMap.mpr ⟨b,hb,by rw[e];rfl⟩
theorem znQ{fp:List Addr}{h:Heap}{p:Addr × Obj}(hp:p∈zjG fp h):p.1∈fp/\h.get? p.1=some p.2:=by
 obtain⟨b,hb,e⟩:=mem_filterMap.mp hp
 cases q:h.get? b with
 | none=>rw[q]at e;cases e
 | some o=>
   rw[q]at e
   have e':(b,o)=p:=tL e
   subst e'
   exact⟨hb,q⟩
def Inv.pinned{ai:ae}{σ:St}{H:Hp}{s:Shared}{fp:List Addr}(I:Inv X ai σ H s)(hf:∀b∈fp,FpOk X ai H b)(ho:∀b∈fp,∃o,s.heap.get? b=some o/\∀v,o.data≠.cell v):Inv X (ai++zjG fp s.heap) σ H s:=
 I.pins_of λp hp=>(mem_append.mp hp).elim (λz=>I.pin p (tX _ z)) λz=>by
  obtain⟨hb,e⟩:=znQ z
  obtain⟨f0,f1,f2,_⟩:=hf p.1 hb
  obtain⟨o,e',d⟩:=ho p.1 hb
  rw[e]at e';cases e'
  exact⟨e,f0,f1,f2,d⟩
def Inv.unpinned{ai pl:ae}{σ:St}{H:Hp}{s:Shared}(I:Inv X (ai++pl) σ H s):Inv X ai σ H s:=I.pins_of λp hp=>I.pin p (tX _ (qO _ hp))
def zcL{iter:Expr}{body:List Stmt}{wi:TI}{g:TG}{tb:TS}{pos:Pos}(hp:PassesOwn (model X.prog X.w) X.A X.env X.xe)(hc:X.calm=true)(hi:PI X tg iter wi)(hg:PG X tg g)(hb:PSs X body tb)
    (hs:∀x,foldedSetIterable iter X.env x=pure x:=by intro _;rfl):PS X (.For tg iter body [] pos) (tFor wi g tb):=by
 with_unfolding_all
  intro ai s σ H D I h
  refine wpAny_For (thn (hi ai s σ H _ I h) λv s1 h1=>thn h1 λitv s2 h2=>?_) hs
  obtain⟨it,fp,tn,J,H2,e,I2,T,st2,f2,W,⟨m0,w0⟩,turn⟩:=h2
  subst e
  have stat:∀{H':Hp},(∀b∈fp,H' b=none)->∀b∈fp,FpOk X ai H' b:=λhn b hb=>⟨hn b hb,(f2 b hb).2⟩
  refine codeAny_forLoop_any (λn s'=>∃i σ' H',Inv X ai σ' H' s'/\tn i s'.heap/\(∀b∈fp,H' b=none)/\W i n σ' H') ?_ m0 ⟨0,σ,H2,I2,st2,λb hb=>(f2 b hb).1,w0⟩
  rintro n s3 ⟨i,σ3,H3,I3,st3,fr3,w3⟩
  rcases turn i n σ3 H3 w3 with⟨stop,qn⟩ | ⟨go,N,hN,step⟩
  ·refine rC hp (thn (T.done X rfl rfl rfl hc i ai s3 σ3 H3 X.xe I3 (stat fr3) st3 stop) λr s4 ⟨hr,I4⟩=>?_)
   subst hr
   exact qW ⟨σ3,H3,I4,qn⟩
  ·refine rC hp (thn (T.item X rfl rfl rfl hc i ai s3 σ3 H3 X.xe I3 (stat fr3) st3 go) λr s4 ⟨u,hr,h4⟩=>?_)
   subst hr
   refine rC hp (thn h4 λ_ s5 ⟨x,H5,I5,r5,y5,st5,fr5⟩=>?_)
   have I5':=I5.pinned (stat fr5) (T.obj _ _ st5)
   refine rC hp (thn (hg _ s5 σ3 H5 x u _ I5' r5 (step x H5 y5)) λ_ s6 ⟨σ6,H6,I6,q6⟩=>?_)
   refine rC hp (thn (hb _ s6 σ6 H6 _ I6 q6) λf s7 q7=>?_)
   have again:∀{σ7:St}{H7:Hp},Inv X (ai++zjG fp s5.heap) σ7 H7 s7->N σ7 H7->∃m,m<n/\∃i σ' H',Inv X ai σ' H' s7/\tn i s7.heap/\(∀b∈fp,H' b=none)/\W i m σ' H':=λ{σ7 H7} I7 n7=>by
    obtain⟨m',hm,w7⟩:=hN σ7 H7 n7
    refine⟨m',hm,i+1,σ7,H7,I7.unpinned,T.keep _ _ _ st5 λb hb o e=>(I7.pin (b,o) (tX _ (tX _ (bA hb e)))).1,λb hb=>?_,w7⟩
    obtain⟨o,e,d⟩:=T.obj _ _ st5 b hb
    exact(I7.pin (b,o) (tX _ (tX _ (bA hb e)))).2.1
   cases f with
   | next=>obtain⟨σ7,H7,I7,n7⟩:=q7;exact again I7 n7
   | cont=>obtain⟨σ7,H7,I7,n7⟩:=q7;exact again I7 n7
   | brk=>obtain⟨σ7,H7,I7,q7⟩:=q7;exact⟨σ7,H7,I7.unpinned,q7⟩
   | ret v=>obtain⟨x7,σ7,H7,I7,r7,q7⟩:=q7;exact⟨x7,σ7,H7,I7.unpinned,r7,q7⟩
end
def zcn{K:PySem.W.Frag}{a:Addr}{xs:List V}{g:TG}{tb:TS}{D:Ends}{σ:St}{H:Hp}(Pv:Nat->St->Hp->Prop)(h0:Pv 0 σ H)(hl:∀i σ H,i<=xs.length->Pv i σ H->SqL K H a xs)
    (hs:∀i x σ H,xs[i]?=some x->Pv i σ H->g x σ H λσ2 H2=>tb { D with nx:=Pv (i+1),ct:=Pv (i+1),bk:=D.nx } σ2 H2) (hd:∀ σ H,Pv xs.length σ H->D.nx σ H):
    ∃W:Nat->Nat->St->Hp->Prop,(∃m,W 0 m σ H)/\∀i m σ H,W i m σ H->
     ((Itl K a).stop i H/\D.nx σ H)\/((Itl K a).go i H/\∃N:St->Hp->Prop,(∀ σ' H',N σ' H'->∃m',m'<m/\W (i+1) m' σ' H')/\∀x H',(Itl K a).yld i H x H'->g x σ H' λσ2 H2=>tb { D with nx:=N,ct:=N,bk:=D.nx } σ2 H2):=by
 refine⟨λi m σ H=>m=xs.length-i/\i<=xs.length/\Pv i σ H,⟨xs.length,by simp,tV _,h0⟩,?_⟩
 rintro i m σ H ⟨rfl,hi,p⟩
 have q:=hl i σ H hi p
 by_cases hlt:i<xs.length
 ·refine .inr ⟨⟨xs,xs[i],q,by simp[hlt]⟩,Pv (i+1),λσ' H' p'=>⟨xs.length-(i+1),by omega,rfl,hlt,p'⟩,λx H' y=>?_⟩
  obtain⟨e,y⟩:=y
  subst e
  exact hs i x σ _ (y xs q) p
 ·have e:i=xs.length:=by omega
  subst e
  exact .inl ⟨⟨xs,q,tF _⟩,hd σ H p⟩
def zsv{K:PySem.W.Frag}{a:Addr}{xs:List V}{g:TG}{tb:TS}{D:Ends}{σ:St}{H:Hp}(Pv:Nat->St->Hp->Prop)(h0:Pv 0 σ H)(hl:∀i σ H,i<=xs.length->Pv i σ H->SqT K H a xs)
    (hs:∀i x σ H,xs[i]?=some x->Pv i σ H->g x σ H λσ2 H2=>tb { D with nx:=Pv (i+1),ct:=Pv (i+1),bk:=D.nx } σ2 H2) (hd:∀ σ H,Pv xs.length σ H->D.nx σ H):
    ∃W:Nat->Nat->St->Hp->Prop,(∃m,W 0 m σ H)/\∀i m σ H,W i m σ H->
     ((Itt K a).stop i H/\D.nx σ H)\/((Itt K a).go i H/\∃N:St->Hp->Prop,(∀ σ' H',N σ' H'->∃m',m'<m/\W (i+1) m' σ' H')/\∀x H',(Itt K a).yld i H x H'->g x σ H' λσ2 H2=>tb { D with nx:=N,ct:=N,bk:=D.nx } σ2 H2):=by
 refine⟨λi m σ H=>m=xs.length-i/\i<=xs.length/\Pv i σ H,⟨xs.length,by simp,tV _,h0⟩,?_⟩
 rintro i m σ H ⟨rfl,hi,p⟩
 have q:=hl i σ H hi p
 by_cases hlt:i<xs.length
 ·refine .inr ⟨⟨xs,xs[i],q,by simp[hlt]⟩,Pv (i+1),λσ' H' p'=>⟨xs.length-(i+1),by omega,rfl,hlt,p'⟩,λx H' y=>?_⟩
  obtain⟨e,y⟩:=y
  subst e
  exact hs i x σ _ (y xs q) p
 ·have e:i=xs.length:=by omega
  subst e
  exact .inl ⟨⟨xs,q,tF _⟩,hd σ H p⟩
def znR{lo:Int}{n:Nat}{g:TG}{tb:TS}{D:Ends}{σ:St}{H:Hp}(Pv:Nat->St->Hp->Prop)(h0:Pv 0 σ H)
    (hs:∀i σ H,i<n->Pv i σ H->g (.int (lo+i)) σ H λσ2 H2=>tb { D with nx:=Pv (i+1),ct:=Pv (i+1),bk:=D.nx } σ2 H2) (hd:∀ σ H,Pv n σ H->D.nx σ H):
    ∃W:Nat->Nat->St->Hp->Prop,(∃m,W 0 m σ H)/\∀i m σ H,W i m σ H->
     ((Itr lo n).stop i H/\D.nx σ H)\/((Itr lo n).go i H/\∃N:St->Hp->Prop,(∀ σ' H',N σ' H'->∃m',m'<m/\W (i+1) m' σ' H')/\∀x H',(Itr lo n).yld i H x H'->g x σ H' λσ2 H2=>tb { D with nx:=N,ct:=N,bk:=D.nx } σ2 H2):=by
 refine⟨λi m σ H=>m=n-i/\i<=n/\Pv i σ H,⟨n,by simp,tV _,h0⟩,?_⟩
 rintro i m σ H ⟨rfl,hi,p⟩
 by_cases hlt:i<n
 ·refine .inr ⟨hlt,Pv (i+1),λσ' H' p'=>⟨n-(i+1),by omega,rfl,hlt,p'⟩,λx H' y=>?_⟩
  obtain⟨e,y⟩:=y
  subst e y
  exact hs i σ _ hlt p
 ·have e:i=n:=by omega
  subst e
  exact .inl ⟨tF _,hd σ H p⟩
theorem ziX{c:TT}{tb:TS}{D:Ends}{σ:St}{H:Hp}(Pv:St->Hp->Prop)(μ:St->Hp->Nat)(h0:Pv σ H)
  (hs:∀ σ H,Pv σ H->c σ H λb H1=>if b=true then tb { D with nx:=λσ' H'=>Pv σ' H' /\ μ σ' H' < μ σ H,ct:=λσ' H'=>Pv σ' H' /\ μ σ' H' < μ σ H,bk:=D.nx } σ H1 else D.nx σ H1)
  (mono:∀ σ H Q Q',(∀b H1,Q b H1->Q' b H1)->c σ H Q->c σ H Q'):zry c tb D σ H:=by
 refine⟨λm σ H=>m = μ σ H/\Pv σ H,⟨_,rfl,h0⟩,?_⟩
 rintro m σ H ⟨rfl,p⟩
 refine mono σ H _ _ (λb H1 q=>?_) (hs σ H p)
 cases b with
 | true=>exact⟨_,λσ' H' ⟨p',l⟩=>⟨_,l,rfl,p'⟩,q⟩
 | false=>exact q
abbrev R2:=V->V->Hp->VK->Prop
def OpR(X:Cx)(f:Value->Value->Sem Value)(r:R2):Prop:=
 ∀(ai:ae)(s:Shared)(σ:St)(H:Hp)(x y:V)(v u:Value)(Q:VK),Inv X ai σ H s->RelV x v->RelV y u->r x y H Q->
  wpAny (model X.prog X.w) X.A (f v u) (EP X ai σ Q) X.xe s
def UnR(X:Cx)(f:Value->Sem Value)(r:V->Hp->VK->Prop):Prop:=
 ∀(ai:ae)(s:Shared)(σ:St)(H:Hp)(x:V)(v:Value)(Q:VK),Inv X ai σ H s->RelV x v->r x H Q->
  wpAny (model X.prog X.w) X.A (f v) (EP X ai σ Q) X.xe s
def zdH(X:Cx)(f:Value)(r:List V->Hp->VK->Prop):Prop:=
 ∀(ai:ae)(s:Shared)(σ:St)(H:Hp)(xs:List V)(us:aj)(Q:VK),Inv X ai σ H s->Vals xs us->r xs H Q->
  wpAny (model X.prog X.w) X.A (call f us) (EP X ai σ Q) X.xe s
def tOp(r:R2)(ta tb:TE):TE:=λσ H Q=>ta σ H λx H1=>tb σ H1 λy H2=>r x y H2 Q
def tUn(r:V->Hp->VK->Prop)(ta:TE):TE:=λσ H Q=>ta σ H λx H1=>r x H1 Q
inductive EI(C:Int->Int->Prop)(g:Int->Int->V)(x y:V)(H:Hp)(Q:VK):Prop
 | mk (i j:Int) (hx:x=.int i) (hy:y=.int j) (c:C i j) (q:Q (g i j) H):EI C g x y H Q
def rI(C:Int->Int->Prop)(g:Int->Int->V):R2:=EI C g
inductive EI0(g:Int->Int->V)(x y:V)(H:Hp)(Q:VK):Prop
 | mk (i j:Int) (hx:x=.int i) (hy:y=.int j) (q:Q (g i j) H):EI0 g x y H Q
def rI0(g:Int->Int->V):R2:=EI0 g
def rU(g:Int->V):V->Hp->VK->Prop:=λx H Q=>∃i,x=.int i/\Q (g i) H
section
variable{X:Cx}{a b c:Expr}{ta tb tc:TE}{pos:Pos}
def binT(ha:PE X a ta)(hb:PE X b tb){ai:ae}{s:Shared}{σ:St}{H:Hp}{R:V->V->Hp->Prop}(I:Inv X ai σ H s)
    (h:ta σ H λx H1=>tb σ H1 λy H2=>R x y H2) {Q:ac} {f:Value->Value->Sem Value}
    (hf:∀v u s2 x y H2,Inv X ai σ H2 s2->RelV x v->RelV y u->R x y H2->wpAny (model X.prog X.w) X.A (f v u) Q X.xe s2):
    wpAny (model X.prog X.w) X.A (eval a X.env) (λv s₁=>wpAny (model X.prog X.w) X.A (eval b X.env) (λu s₂=>wpAny (model X.prog X.w) X.A (f v u) Q X.xe s₂) X.xe s₁) X.xe s:=by
 with_unfolding_all
  refine thn (ha ai s σ H _ I h) λv s1 ⟨x,H1,I1,r1,q1⟩=>?_
  refine thn (hb ai s1 σ H1 _ I1 q1) λu s2 ⟨y,H2,I2,r2,q2⟩=>?_
  exact hf v u s2 x y H2 I2 r1 r2 q2
def zaz{op:Operator}{r:R2}(ho:OpR X (binaryOp op) r)(ha:PE X a ta)(hb:PE X b tb):PE X (.BinOp a op b pos) (tOp r ta tb):=by
 with_unfolding_all
  intro ai s σ H Q I h
  exact wpAny_BinOp (binT ha hb I h λv u s2 x y H2 I2 rx ry q=>ho ai s2 σ H2 x y v u Q I2 rx ry q)
def znS{op:UnaryOp}{r:V->Hp->VK->Prop}(ho:UnR X (unaryOp op) r)(ha:PE X a ta):PE X (.UnaryOp op a pos) (tUn r ta):=by
 with_unfolding_all
  intro ai s σ H Q I h
  exact UnaryOp_ (thn (ha ai s σ H _ I h) λv s1 ⟨x,H1,I1,r1,q1⟩=>ho ai s1 σ H1 x v Q I1 r1 q1)
def opI{f:Value->Value->Sem Value}{C:Int->Int->Prop}{g:Int->Int->Int}
    (rule:∀(i j:Int)(t u:Tok)(s:Shared)(Q:ac)(E:ac),C i j->Q (.int (g i j) s.toks) { s with toks:=s.toks+1 }->wpAny (model X.prog X.w) X.A (f (.int i t) (.int j u)) Q E s):
    OpR X f (rI C λi j=>.int (g i j)):=by
 intro ai s σ H x y v u Q I rx ry h
 obtain⟨i,j,rfl,rfl,hc,q⟩:=h
 obtain⟨t,rfl⟩:=rx
 obtain⟨t',rfl⟩:=ry
 exact rule i j t t' s _ _ hc ⟨.int (g i j),H,I.tok _,⟨_,rfl⟩,q⟩
def opI0{f:Value->Value->Sem Value}{g:Int->Int->Int}
    (rule:∀(i j:Int)(t u:Tok)(s:Shared)(Q:ac)(E:ac),Q (.int (g i j) s.toks) { s with toks:=s.toks+1 }->wpAny (model X.prog X.w) X.A (f (.int i t) (.int j u)) Q E s):
    OpR X f (rI0 λi j=>.int (g i j)):=by
 intro ai s σ H x y v u Q I rx ry h
 obtain⟨i,j,rfl,rfl,q⟩:=h
 obtain⟨t,rfl⟩:=rx
 obtain⟨t',rfl⟩:=ry
 exact rule i j t t' s _ _ ⟨.int (g i j),H,I.tok _,⟨_,rfl⟩,q⟩
def opB0{f:Value->Value->Sem Value}{g:Int->Int->Bool}
    (rule:∀(i j:Int)(t u:Tok)(s:Shared)(Q:ac)(E:ac),Q (.bool (g i j)) s->wpAny (model X.prog X.w) X.A (f (.int i t) (.int j u)) Q E s):
    OpR X f (rI0 λi j=>.bl (g i j)):=by
 intro ai s σ H x y v u Q I rx ry h
 obtain⟨i,j,rfl,rfl,q⟩:=h
 obtain⟨t,rfl⟩:=rx
 obtain⟨t',rfl⟩:=ry
 exact rule i j t t' s _ _ ⟨.bl (g i j),H,I,rfl,q⟩
def CPow(i j:Int):Prop:=0<=j/\j<=1000000/\i.natAbs<2 ^ 64
def CMul(i j:Int):Prop:=(-(2 ^ 64)<i/\i<2 ^ 64)\/(-(2 ^ 64)<j/\j<2 ^ 64)
def CMul.ok{i j:Int}(h:CMul i j):IntMulOk i j:=by
 rcases h with⟨h1,h2⟩ | ⟨h1,h2⟩
 ·exact .of_left (intBits_le_64 h1 h2)
 ·exact .of_right (intBits_le_64 h1 h2)
def aw:OpR X (binaryOp .Add) (rI0 λi j=>.int (i+j)):=opI0 λ_ _ _ _ _ _ _ q=>add_int q
def zel:OpR X (binaryOp .Sub) (rI0 λi j=>.int (i-j)):=opI0 λ_ _ _ _ _ _ _ q=>sub_int q
def au:OpR X (binaryOp .Mult) (rI CMul λi j=>.int (i*j)):=opI λ_ _ _ _ _ _ _ hc q=>mul_int q hc.ok
def zhl:OpR X (binaryOp .Mod) (rI (λ_ j=>0<j) λi j=>.int (i % j)):=opI λi j _ _ _ _ _ hc q=>by
 have h1:(0:Int)<j:=hc
 exact mod_int' (by omega) (by rw[Int.fmod_eq_emod_of_nonneg i (by omega)];exact q)
def bB:OpR X (binaryOp .Pow) (rI CPow λi j=>.int (i ^ j.toNat)):=opI λ_ _ _ _ _ _ _ hc q=>pow_int_small hc.1 hc.2.1 hc.2.2 q
def unI{f:Value->Sem Value}{g:Int->Int}
    (rule:∀(i:Int)(t:Tok)(s:Shared)(Q:ac)(E:ac),Q (.int (g i) s.toks) { s with toks:=s.toks+1 }->wpAny (model X.prog X.w) X.A (f (.int i t)) Q E s):
    UnR X f (rU λi=>.int (g i)):=by
 intro ai s σ H x v Q I rx h
 obtain⟨i,rfl,q⟩:=h
 obtain⟨t,rfl⟩:=rx
 exact rule i t s _ _ ⟨.int (g i),H,I.tok _,⟨_,rfl⟩,q⟩
def zjH:UnR X (unaryOp .USub) (rU λi=>.int (-i)):=unI λ_ _ _ _ _ q=>neg_int q
end
def scal:V->V->Bool
 | .non,.non=>true | .non,.int _=>true | .int _,.non=>true | .non,.bl _=>true | .bl _,.non=>true | .non,.str _=>true | .str _,.non=>true
 | .int _,.int _=>true | .bl _,.bl _=>true | .str _,.str _=>true | .byt _,.byt _=>true
 | .int _,.str _=>true | .str _,.int _=>true | .bl _,.str _=>true | .str _,.bl _=>true
 | _,_=>false
def rEq:R2:=λx y H Q=>scal x y=true/\Q (.bl (decide (x=y))) H
def rNe:R2:=λx y H Q=>scal x y=true/\Q (.bl (!decide (x=y))) H
def znT{i j:Int}:decide (V.int i=V.int j)=(i==j):=by
 rw[sF]
 simp
def zrz{i j:Bool}:decide (V.bl i=V.bl j)=(i==j):=by
 rw[sF]
 simp
def znU{i j:Str}:decide (V.str i=V.str j)=(i==j):=by
 rw[sF]
 simp
def znV{i j:Array UInt8}:decide (V.byt i=V.byt j)=(i.toList==j.toList):=by
 rw[sF]
 cases i
 cases j
 simp
section
variable{X:Cx}{a b c:Expr}{ta tb tc:TE}{pos:Pos}
def zaX{ai:ae}{σ:St}{H:Hp}{s:Shared}{Q:VK}{k k':Bool}(I:Inv X ai σ H s)(q:Q (.bl k) H)(e:k=k'):EP X ai σ Q (.bool k') s:=by
 subst e
 exact⟨.bl k,H,I,rfl,q⟩
theorem zdd:OpR X (compareOp .Eq) rEq:=by
 intro ai s σ H x y v u Q I rx ry h
 obtain⟨hs,q⟩:=h
 cases x with
 | non=>
   cases rx
   cases y with
   | non=>cases ry;exact PySem.EqNone.eq_none_none (zaX I q (by simp))
   | bl j=>cases ry;exact PySem.EqNone.eq_none_bool (zaX I q (by simp))
   | int j=>obtain⟨t',rfl⟩:=ry;exact PySem.EqNone.eq_none_int (zaX I q (by simp))
   | str j=>obtain⟨t',rfl⟩:=ry;exact PySem.EqNone.eq_none_str (zaX I q (by simp))
   | _=>exact absurd (show false=true from hs) tG
 | bl i=>
   cases rx
   cases y with
   | non=>cases ry;exact PySem.EqNone.eq_bool_none (zaX I q (by simp))
   | bl j=>cases ry;exact eq_bool (zaX I q zrz)
   | str j=>obtain⟨t',rfl⟩:=ry;exact PySem.EqMixed.eq_bool_str (zaX I q (by simp))
   | _=>exact absurd (show false=true from hs) tG
 | int i=>
   obtain⟨t,rfl⟩:=rx
   cases y with
   | non=>cases ry;exact PySem.EqNone.eq_int_none (zaX I q (by simp))
   | int j=>obtain⟨t',rfl⟩:=ry;exact eq_int (zaX I q znT)
   | str j=>obtain⟨t',rfl⟩:=ry;exact PySem.EqMixed.eq_int_str (zaX I q (by simp))
   | _=>exact absurd (show false=true from hs) tG
 | str i=>
   obtain⟨t,rfl⟩:=rx
   cases y with
   | non=>cases ry;exact PySem.EqNone.eq_str_none (zaX I q (by simp))
   | bl j=>cases ry;exact PySem.EqMixed.eq_str_bool (zaX I q (by simp))
   | int j=>obtain⟨t',rfl⟩:=ry;exact PySem.EqMixed.eq_str_int (zaX I q (by simp))
   | str j=>obtain⟨t',rfl⟩:=ry;exact eq_str (zaX I q znU)
   | _=>exact absurd (show false=true from hs) tG
 | byt i=>
   obtain⟨t,rfl⟩:=rx
   cases y with
   | byt j=>obtain⟨t',rfl⟩:=ry;exact W.eq_bytes (zaX I q znV)
   | _=>exact absurd (show false=true from hs) tG
 | _=>cases y<;>exact absurd (show false=true from hs) tG
theorem zqp:OpR X (compareOp .NotEq) rNe:=by
 intro ai s σ H x y v u Q I rx ry h
 obtain⟨hs,q⟩:=h
 cases x with
 | non=>
   cases rx
   cases y with
   | non=>cases ry;exact PySem.EqNone.ne_none_none (zaX I q (by simp))
   | bl j=>cases ry;exact PySem.EqNone.ne_none_bool (zaX I q (by simp))
   | int j=>obtain⟨t',rfl⟩:=ry;exact PySem.EqNone.ne_none_int (zaX I q (by simp))
   | str j=>obtain⟨t',rfl⟩:=ry;exact PySem.EqNone.ne_none_str (zaX I q (by simp))
   | _=>exact absurd (show false=true from hs) tG
 | bl i=>
   cases rx
   cases y with
   | non=>cases ry;exact PySem.EqNone.ne_bool_none (zaX I q (by simp))
   | bl j=>cases ry;exact ne_bool (zaX I q (tW not zrz))
   | str j=>obtain⟨t',rfl⟩:=ry;exact PySem.EqMixed.ne_bool_str (zaX I q (by simp))
   | _=>exact absurd (show false=true from hs) tG
 | int i=>
   obtain⟨t,rfl⟩:=rx
   cases y with
   | non=>cases ry;exact PySem.EqNone.ne_int_none (zaX I q (by simp))
   | int j=>obtain⟨t',rfl⟩:=ry;exact ne_int (zaX I q (tW not znT))
   | str j=>obtain⟨t',rfl⟩:=ry;exact PySem.EqMixed.ne_int_str (zaX I q (by simp))
   | _=>exact absurd (show false=true from hs) tG
 | str i=>
   obtain⟨t,rfl⟩:=rx
   cases y with
   | non=>cases ry;exact PySem.EqNone.ne_str_none (zaX I q (by simp))
   | bl j=>cases ry;exact PySem.EqMixed.ne_str_bool (zaX I q (by simp))
   | int j=>obtain⟨t',rfl⟩:=ry;exact PySem.EqMixed.ne_str_int (zaX I q (by simp))
   | str j=>obtain⟨t',rfl⟩:=ry;exact ne_str (zaX I q (tW not znU))
   | _=>exact absurd (show false=true from hs) tG
 | byt i=>
   obtain⟨t,rfl⟩:=rx
   cases y with
   | byt j=>obtain⟨t',rfl⟩:=ry;exact W.ne_bytes (zaX I q (tW not znV))
   | _=>exact absurd (show false=true from hs) tG
 | _=>cases y<;>exact absurd (show false=true from hs) tG
def znW:OpR X (compareOp .Lt) (rI0 λi j=>.bl (decide (i<j))):=opB0 λ_ _ _ _ _ _ _ q=>lt_int q
def ziY:OpR X (compareOp .LtE) (rI0 λi j=>.bl (decide (i<=j))):=opB0 λ_ _ _ _ _ _ _ q=>le_int q
def zei:OpR X (compareOp .Gt) (rI0 λi j=>.bl (decide (j<i))):=opB0 λ_ _ _ _ _ _ _ q=>gt_int q
def ztO:OpR X (compareOp .GtE) (rI0 λi j=>.bl (decide (j<=i))):=opB0 λ_ _ _ _ _ _ _ q=>ge_int q
theorem zjI:OpR X (compareOp .Is) (λx y H Q=>y=.non/\Q (.bl (decide (x=.non))) H):=by
 intro ai s σ H x y v u Q I rx ry h
 obtain⟨rfl,q⟩:=h
 cases ry
 refine is_none_gen (zaX I q ?_)
 cases x<;>first
  | (cases rx;rfl)
  | (obtain⟨t,rfl⟩:=rx;rfl)
theorem znX:OpR X (compareOp .IsNot) (λx y H Q=>y=.non/\Q (.bl (!decide (x=.non))) H):=by
 intro ai s σ H x y v u Q I rx ry h
 obtain⟨rfl,q⟩:=h
 cases ry
 refine isnot_none_gen (zaX I q ?_)
 cases x<;>first
  | (cases rx;rfl)
  | (obtain⟨t,rfl⟩:=rx;rfl)
def zas(b:Expr){op:CmpOp}(h:op ≠ .In:=by decide)(h2:op ≠ .NotIn:=by decide):behindInMarks op b=false:=by
 have e1:(op==CmpOp.In)=false:=by cases op<;>first | rfl | exact absurd rfl h
 have e2:(op==CmpOp.NotIn)=false:=by cases op<;>first | rfl | exact absurd rfl h2
 cases b<;>simp[behindInMarks,e1,e2]
def zbU{op:CmpOp}{r:R2}(ho:OpR X (compareOp op) r)(ha:PE X a ta)(hb:PE X b tb)(hm:behindInMarks op b=false):PE X (.Compare a [op] [b] pos) (tOp r ta tb):=by
 with_unfolding_all
  intro ai s σ H Q I h
  exact wpAny_Compare1 (binT ha hb I h λv u s2 x y H2 I2 rx ry q=>ho ai s2 σ H2 x y v u Q I2 rx ry q) hm
def ztP(t:TE):TT:=λσ H Q=>t σ H (EBl Q)
def zan{op:CmpOp}{r:R2}(ho:OpR X (compareOp op) r)(ha:PE X a ta)(hb:PE X b tb)(hm:behindInMarks op b=false):PT X (.Compare a [op] [b] pos) (ztP (tOp r ta tb)):=by
 with_unfolding_all
  intro ai s σ H Q I h
  refine wpAny_isTrue_Compare1 (thn (ha ai s σ H _ I h) λv s1 ⟨x,H1,I1,r1,q1⟩=>thn (hb ai s1 σ H1 _ I1 q1) λu s2 ⟨y,H2,I2,r2,q2⟩=>
   thn (ho ai s2 σ H2 x y v u _ I2 r1 r2 q2) λc s3 ⟨z,H3,I3,r3,k,e,q3⟩=>?_) hm
  subst e
  cases r3
  exact ss ⟨H3,I3,q3⟩
def zrA(r r':R2)(ta tb tc:TE):TE:=λσ H Q=>ta σ H λx H1=>tb σ H1 λy H2=>r x y H2 λz H3=>∃k,z=.bl k/\
 (if k=true then tc σ H3 λw' H4=>r' y w' H4 Q else Q (.bl false) H3)
theorem ziZ{op op':CmpOp}{r r':R2}(ho:OpR X (compareOp op) r)(ho':OpR X (compareOp op') r')(ha:PE X a ta)(hb:PE X b tb)(hc:PE X c tc)
  (hm:lastMarks [op,op'] [b,c]=false:=by with_unfolding_all rfl):PE X (.Compare a [op,op'] [b,c] pos) (zrA r r' ta tb tc):=by
 with_unfolding_all
  intro ai s σ H Q I h
  refine Compare_chain (thn (ha ai s σ H _ I h) λv s1 ⟨x,H1,I1,r1,q1⟩=>chain_link (thn (hb ai s1 σ H1 _ I1 q1) λu s2 ⟨y,H2,I2,r2,q2⟩=>
   thn (ho ai s2 σ H2 x y v u _ I2 r1 r2 q2) λd s3 ⟨z,H3,I3,r3,k,e,q3⟩=>?_)) hm
  subst e
  cases r3
  refine ss ?_
  cases k with
  | false=>exact ite_ff ⟨.bl false,H3,I3,rfl,q3⟩
  | true=>exact ite_tt (chain_last (thn (hc ai s3 σ H3 _ I3 q3) λw' s4 ⟨z',H4,I4,r4,q4⟩=>ho' ai s4 σ H4 y z' u w' Q I4 r2 r4 q4))
theorem zqq{op op':CmpOp}{r r':R2}(ho:OpR X (compareOp op) r)(ho':OpR X (compareOp op') r')(ha:PE X a ta)(hb:PE X b tb)(hc:PE X c tc)
  (hm:lastMarks [op,op'] [b,c]=false:=by with_unfolding_all rfl):PT X (.Compare a [op,op'] [b,c] pos) (ztP (zrA r r' ta tb tc)):=by
 with_unfolding_all
  intro ai s σ H Q I h
  refine isTrue_chain (thn (ha ai s σ H _ I h) λv s1 ⟨x,H1,I1,r1,q1⟩=>test_link (thn (hb ai s1 σ H1 _ I1 q1) λu s2 ⟨y,H2,I2,r2,q2⟩=>
   thn (ho ai s2 σ H2 x y v u _ I2 r1 r2 q2) λd s3 ⟨z,H3,I3,r3,k,e,q3⟩=>?_)) hm
  subst e
  cases r3
  refine ss ?_
  cases k with
  | false=>
    obtain⟨k',e',q'⟩:=q3
    cases e'
    exact ite_ff ⟨H3,I3,q'⟩
  | true=>
    refine ite_tt (test_last (thn (hc ai s3 σ H3 _ I3 q3) λw' s4 ⟨z',H4,I4,r4,q4⟩=>thn (ho' ai s4 σ H4 y z' u w' _ I4 r2 r4 q4) λd' s5 ⟨z2,H5,I5,r5,k2,e2,q5⟩=>?_))
    subst e2
    cases r5
    exact ss ⟨H5,I5,q5⟩
def zjJ:(sizeLine:Nat)<2 ^ 63:=by rw[sizeLine_eq];decide
theorem zgU{x:V}{us:aj}(r:Vals [x] us):∃u,us=[u]/\RelV x u:=by
 cases r with
 | cons r1 r2=>cases r2;exact⟨_,rfl,r1⟩
theorem aQ{x y:V}{us:aj}(r:Vals [x,y] us):∃u w',us=[u,w']/\RelV x u/\RelV y w':=by
 cases r with
 | cons r1 r2=>
   cases r2 with
   | cons r3 r4=>cases r4;exact⟨_,_,rfl,r1,r3⟩
def zqr:zdH X (.builtin "abs") (λxs H Q=>∃i,xs=[.int i]/\Q (.int (if i<0 then -i else i)) H):=by
 intro ai s σ H xs us Q I r h
 obtain⟨i,rfl,q⟩:=h
 obtain⟨u,rfl,t,rfl⟩:=zgU r
 exact call_abs_int λu tk=>⟨.int (if i<0 then -i else i),H,I.tok _,⟨_,rfl⟩,q⟩
end
structure ObjM(h:Heap)(x dx C:Addr)(mA:af):Prop where
 obj:h.get? x=some (W.instObj C dx)
 ns:h.Ns1 dx mA
 ne:dx≠x
def znY{h:Heap}{dx:Addr}{mA:af}(n:h.Ns1 dx mA):∃od,h.get? dx=some od/\∀name,W.lookIn name od=some (mA name):=by
 obtain⟨o,es,ep,ho,hd,hk,_,hm⟩:=n
 refine⟨o,ho,λname=>?_⟩
 have e:=hm name
 unfold nsFind findBy at e
 rw[<-Array.find?_toList]at e
 unfold W.lookIn
 rw[hd]
 dsimp only
 split
 ·rename_i y q
  rw[q]at e
  exact tW some e
 ·rename_i q
  rw[q]at e
  have a:es.toList.any (·.refKey)=false:=by
   rw[List.any_eq_false]
   intro y hy
   obtain⟨z,t,hkey⟩:=hk y (Array.mem_toList_iff.mp hy)
   simp[DictEntry.refKey,hkey]
  have a':¬es.toList.any (·.refKey)=true:=by rw[a];exact tG
  rw[if_neg a']
  exact tW some e
def ObjM.look{h:Heap}{x dx C:Addr}{mA:af}(I:ObjM h x dx C mA):∃od,W.InstAt h x (W.instObj C dx) C (some od)/\∀name,W.lookIn name od=some (mA name):=
 let ⟨od,ho,hl⟩:=znY I.ns
 ⟨od,⟨I.obj,rfl,rfl,ho⟩,hl⟩
section
variable{prog:Program}{w:World}{A:Around}{E:ac}{s:Shared}{K:am}{x dx C f:Addr}{mA:af}{name:Str}{v:Value}
def zsw{expr:Bool}{Q:ac}(X:K.In s.heap)(I:ObjM s.heap x dx C mA)(hg:W.plainGet K C name=true)(hh:W.hasDictIn K C=true)
    (ha:W.findIn K (.ref C) name=some none) (hv:mA name=some v) (hv':W.handedIn v=true) (h:Q v { s with toks:=s.toks+1 }):
    wpAny (model prog w) A (getAttr (.ref x) name expr) Q E s:=by
 obtain⟨od,J,hl⟩:=I.look
 exact W.get_value X J (W.plainGet_of hg).1 (W.findObj_own hh ha rfl (by rw[hl,hv])) hv' h
def zqs{pl:Sem Bool}{Q:Value × List Value->Shared->Prop}(X:K.In s.heap)(I:ObjM s.heap x dx C mA)(hg:W.plainGet K C name=true)
    (hf:W.findIn K (.ref C) name=some (some (.ref f))) (ht:W.isFn K (.ref f)=true) (hv:mA name=none) (h:Q (.ref f,[.ref x]) s):
    wpAny (model prog w) A (getMethod (.ref x) name pl) Q E s:=by
 obtain⟨od,J,hl⟩:=I.look
 exact W.method_fn X J (W.plainGet_of hg).1 (W.plainGet_of hg).2 hf (beq_iff_eq.mp ht) (by show(W.lookIn name od).map (·.isSome)=some false;rw[hl,hv];rfl) h
def zsx{ns:List Str}{Q:aq}(X:K.In s.heap)(I:ObjM s.heap x dx C mA)
    (hs:W.findIn K (.ref C) "__setattr__" = some (some (.builtin "object.__setattr__"))) (hp:W.plainOver K C=true) (ht:W.takerIn K C name=some none) (hh:W.hasDictIn K C=true)
    (hw:PySem.Within mA ns) (hsz:ns.length<=sizeLine)
    (h:∀h',ObjM h' x dx C (λy=>if y=name then some v else mA y)->Heap.SameBut dx s.heap h'->Q () { s with heap:=h',toks:=s.toks+2 }):
    wpAny (model prog w) A (setAttr (.ref x) name v) Q E s:=by
 obtain⟨od,J,hl⟩:=I.look
 refine W.set_plain X J hs (W.osa_open (s := { s with toks:=s.toks+1 }) (r:=none) X J hp ht λb=>?_)
 obtain⟨cd,hc,hd'⟩:=W.any_some hh
 have hx:s.heap.get? x=some ⟨.ref C,some dx,.plain,#[]⟩:=I.obj
 refine tD (tH (tD (tD (wpAny_loadPart hx (tD (W.Looks.here (s := { s with toks:=s.toks+1 }) (W.looks_clsIn X hc) ?_))))))
 rw[hd']
 refine tH (a:=some dx) (tD (tH (tD ?_)))
 refine wpAny_nsSet1 (s := { s with toks:=s.toks+1 }) I.ns λh' hn2 hs2=>?_
 obtain⟨oD,esD,epD,hoD,hdD,hcD⟩:=hn2.count (PySem.Within.cons name v hw)
 refine tD (wpAny_lookBehind hoD (by rw[hdD];exact pastItsLine_dict (tU hcD (by rw[length_cons];omega))) ?_)
 exact tH (h _ ⟨(hs2.2 _ (Ne.symm I.ne)).trans I.obj,hn2,I.ne⟩ hs2)
def dO{R:Result->Shared->Prop}{vs:aj}{kw:List (Str × Value)}(X:K.In s.heap)(hm:W.makesIn K C=true)
    (hi:W.findIn K (.ref C) "__init__" = some (some (.ref f))) (hf:W.typeIn K (.ref f)=some (.type "function"))
    (h:codeAny (model prog w) (A.under (.builtin "type.__call__" ⟨.ref C::vs,kw⟩)) (.call (.ref f) ⟨.ref (s.heap.objs.size+1)::vs,kw⟩) (W.InitBack (s.heap.objs.size+1) R)
      { s with heap:=(s.heap.push W.emptyDict).push (W.instObj C s.heap.objs.size) }):
    codeAny (model prog w) A (.call (.ref C) ⟨vs,kw⟩) R s:=by
 obtain⟨hh,g,d,t,os⟩:=s
 exact W.make_core (W.makes_of X hm) (W.looks_findIn X hi) (λself=>W.bind_fn X self hf) (.inl rfl) h
end
def putF(f:Str)(v:V):List (Str × V)->List (Str × V)
 | []=>[(f,v)]
 | (g,x)::r=>if g=f then(g,v)::r else(g,x)::putF f v r
theorem zhm(f g:Str)(v:V):∀fs:List (Str × V),(putF f v fs).lookup g=if g=f then some v else fs.lookup g
 | []=>by
   show List.lookup g [(f,v)]=_
   by_cases h:g=f
   ·have hb:(g==f)=true:=beq_iff_eq.mpr h
    simp only[List.lookup,hb,if_pos h]
   ·have hb:(g==f)=false:=beq_eq_false_iff_ne.mpr h
    simp only[List.lookup,hb,if_neg h]
 | (k,x)::r=>by
   have ih:=zhm f g v r
   rw[show putF f v ((k,x)::r)=(if k=f then(k,v)::r else(k,x)::putF f v r)from rfl]
   by_cases hk:k=f
   ·rw[if_pos hk]
    by_cases h:g=k
    ·have hb:(g==k)=true:=beq_iff_eq.mpr h
     simp only[List.lookup,hb,if_pos (h.trans hk)]
    ·have hb:(g==k)=false:=beq_eq_false_iff_ne.mpr h
     simp only[List.lookup,hb,if_neg (λe:g=f=>h (e.trans hk.symm))]
   ·rw[if_neg hk]
    by_cases h:g=k
    ·have hb:(g==k)=true:=beq_iff_eq.mpr h
     simp only[List.lookup,hb,if_neg (λe:g=f=>hk (h.symm.trans e))]
    ·have hb:(g==k)=false:=beq_eq_false_iff_ne.mpr h
     simp only[List.lookup,hb]
     exact ih
theorem zhn(f:Str)(v:V):∀fs:List (Str × V),f∈(putF f v fs).map (·.1)/\∀g,g∈fs.map (·.1)->g∈(putF f v fs).map (·.1)
 | []=>⟨by simp[putF],λg h=>by simp at h⟩
 | (k,x)::r=>by
   obtain⟨i1,i2⟩:=zhn f v r
   rw[show putF f v ((k,x)::r)=(if k=f then(k,v)::r else(k,x)::putF f v r)from rfl]
   by_cases hk:k=f
   ·rw[if_pos hk]
    subst hk
    exact⟨by simp,λg h=>by simpa using h⟩
   ·rw[if_neg hk]
    refine⟨?_,λg h=>?_⟩
    ·rw[t3]
     exact tO _ i1
    ·rw[t3]at h ⊢
     rcases mem_cons.mp h with e | e
     ·exact mem_cons.mpr (.inl e)
     ·exact tO _ (i2 g e)
theorem zho(f:Str)(v:V):∀fs:List (Str × V),(putF f v fs).length<=fs.length+1
 | []=>by simp[putF]
 | (k,x)::r=>by
   have ih:=zho f v r
   rw[show putF f v ((k,x)::r)=(if k=f then(k,v)::r else(k,x)::putF f v r)from rfl]
   by_cases hk:k=f
   ·rw[if_pos hk,length_cons,length_cons];omega
   ·rw[if_neg hk,length_cons,length_cons];omega
theorem RelO.some_of{v:V}{o:Option Value}(r:RelO (some v) o):∃u,o=some u/\RelV v u:=by
 cases o with
 | none=>exact(show False from r).elim
 | some u=>exact⟨u,rfl,r⟩
theorem RelO.none_of{o:Option Value}(r:RelO none o):o=none:=by
 cases o with
 | none=>rfl
 | some u=>exact(show False from r).elim
theorem znZ{v:V}{u:Value}(r:RelV v u):W.handedIn u=true:=by
 cases v with
 | non=>cases(show u=Value.none from r);rfl
 | bl b=>cases(show u=Value.bool b from r);rfl
 | int i=>obtain⟨t,e⟩:=(show ∃t,u=Value.int i t from r);cases e;rfl
 | str x=>obtain⟨t,e⟩:=(show ∃t,u=Value.str x t from r);cases e;rfl
 | byt b=>obtain⟨t,e⟩:=(show ∃t,u=Value.bytes b t from r);cases e;rfl
 | flt b=>obtain⟨t,e⟩:=(show ∃t,u=Value.float b t from r);cases e;rfl
 | ref a=>cases(show u=Value.ref a from r);rfl
 | ty n=>cases(show u=Value.type n from r);rfl
section
variable{P:Program}{w:World}{H H':Hp}{h h':Heap}{a C dx:Addr}{fs fs':List (Str × V)}
def zhp(hok:HOk P w H h)(e:H a=some (.ins C dx fs)):∃mA,ObjM h a dx C mA/\(∀f,RelO (fs.lookup f) (mA f))/\PySem.Within mA (fs.map (·.1))/\fs.length<=1000/\H dx=some (.own a):=by
 obtain⟨d,z,ne,ob,mA,n,r,q⟩:=(show zbf P w H h a (.ins C dx fs)from hok a _ e)
 exact⟨mA,⟨ob,n,ne⟩,r,q,z,d⟩
end
structure Cls(K:am)(C:Addr):Prop where
 pg:W.plainGet K C Str.empty=true
 hd:W.hasDictIn K C=true
 po:W.plainOver K C=true
 sa:W.findIn K (.ref C) "__setattr__" = some (some (.builtin "object.__setattr__"))
def Cls.get{K:am}{C:Addr}(c:Cls K C)(f:Str):W.plainGet K C f=true:=c.pg
def zal(K:am)(C:Addr)(f:Str):Prop:=W.findIn K (.ref C) f=some none
def zal.taker{K:am}{C:Addr}{f:Str}(n:zal K C f):W.takerIn K C f=some none:=by
 unfold W.takerIn
 rw[show W.findIn K (.ref C) f=some none from n]
 rfl
structure Con(K:am)(C:Addr)(f:Str)(v:V)(u:Value):Prop where
 at_:W.findIn K (.ref C) f=some (some u)
 rel:RelV v u
 get:W.specialIn K u "__get__" = some none
 cp:W.copiedNames.contains f=false
structure Meth(K:am)(C:Addr)(m:Str)(f:Addr):Prop where
 at_:W.findIn K (.ref C) m=some (some (.ref f))
 fn:W.isFn K (.ref f)=true
 kp:W.keepIn K (.ref f)=true
section
variable{X:Cx}{ai:ae}{σ:St}{H:Hp}{s:Shared}{a C dx:Addr}{fs:List (Str × V)}{f:Str}{v:V}{A:Around}{E:ac}
def ziD{b:Bool}{Q:ac}(I:Inv X ai σ H s)(e:H a=some (.ins C dx fs))(c:Cls X.K C)(n:zal X.K C f)(l:fs.lookup f=some v)
    (h:∀u s',Inv X ai σ H s'->RelV v u->Q u s'):wpAny (model X.prog X.w) A (getAttr (.ref a) f b) Q E s:=by
 obtain⟨mA,O,r,_,_,_⟩:=zhp I.hok e
 obtain⟨u,hu,ru⟩:=RelO.some_of (v:=v) (o:=mA f) (by rw[<-l];exact r f)
 exact zsw I.kIn O (c.get f) c.hd n hu (znZ ru) (h u _ (I.tok _) ru)
def bC{m:Str}{g:Addr}{pl:Sem Bool}{Q:Value × List Value->Shared->Prop}(I:Inv X ai σ H s)(e:H a=some (.ins C dx fs))(c:Cls X.K C)(k:Meth X.K C m g)(l:fs.lookup m=none)
    (h:Q (.ref g,[.ref a]) s):wpAny (model X.prog X.w) A (getMethod (.ref a) m pl) Q E s:=by
 obtain⟨mA,O,r,_,_,_⟩:=zhp I.hok e
 have hn:mA m=none:=RelO.none_of (by rw[<-l];exact r m)
 exact zqs I.kIn O (c.get m) k.at_ k.fn hn h
def ziE{y:V}{u:Value}{Q:aq}(I:Inv X ai σ H s)(e:H a=some (.ins C dx fs))(c:Cls X.K C)(n:zal X.K C f)(hl:fs.length<1000)(ry:RelV y u)
    (h:∀s',Inv X ai σ (upd H a (.ins C dx (putF f y fs))) s'->Q () s'):wpAny (model X.prog X.w) A (setAttr (.ref a) f u) Q E s:=by
 obtain⟨mA,O,r,wi,_,ho⟩:=zhp I.hok e
 have hz:(fs.map (·.1)).length<=sizeLine:=by rw[tm,sizeLine_eq];omega
 refine zsx I.kIn O c.sa c.po n.taker c.hd wi hz λh' O' sb=>h _ ?_
 have hd:∃o,h'.get? dx=some o:=let ⟨o,_,_,e',_⟩:=O'.ns;⟨o,e'⟩
 refine I.write (x:=a) (e:=dx) (by rw[e];exact True.intro) (.inr ho) (λb q hb z=>(sb.2 b hb).trans z) hd ?_
 refine⟨by rw[zaw O.ne];exact ho,?_,O.ne,O'.obj,_,O'.ns,λg=>?_,λg hg=>?_⟩
 ·have:=zho f y fs;omega
 ·show RelO ((putF f y fs).lookup g) (if g=f then some u else mA g)
  rw[zhm]
  by_cases q:g=f
  ·rw[if_pos q,if_pos q];exact ry
  ·rw[if_neg q,if_neg q];exact r g
 ·by_cases q:g=f
  ·rw[q];exact(zhn f y fs).1
  ·refine(zhn f y fs).2 g (wi g λz=>hg ?_)
   show(if g=f then some u else mA g)=none
   rw[if_neg q];exact z
def Inv.made(I:Inv X ai σ H s):Inv X ai σ (upd (upd H s.heap.objs.size (.own (s.heap.objs.size+1))) (s.heap.objs.size+1) (.ins C s.heap.objs.size []))
    { s with heap:=(s.heap.push W.emptyDict).push (W.instObj C s.heap.objs.size) }:=by
 have e1:(s.heap.push W.emptyDict).get? s.heap.objs.size=some W.emptyDict:=tJ s.heap rfl
 have e2:((s.heap.push W.emptyDict).push (W.instObj C s.heap.objs.size)).get? (s.heap.objs.size+1)=some (W.instObj C s.heap.objs.size):=by
  have:=tJ (s.heap.push W.emptyDict) (o:=W.instObj C s.heap.objs.size) rfl
  rwa [pD]at this
 have e3:(s.heap.push W.emptyDict).Ns s.heap.objs.size (λ_=>none):=⟨W.emptyDict,#[],_,e1,rfl,(λe he=>absurd he (by simp)),λ_=>rfl⟩
 have I1:=I.laid (a:=s.heap.objs.size) (o:=.own (s.heap.objs.size+1)) (h':=s.heap.push W.emptyDict) (t':=s.toks) (λb u q=>tz _ q) (tF _) ⟨_,e1⟩
 refine I1.laid (a:=s.heap.objs.size+1) (o:=.ins C s.heap.objs.size []) (t':=s.toks) (λb u q=>tz _ q) (pS (pD _ _)) ?_
 have ne:s.heap.objs.size≠s.heap.objs.size+1:=tM (re _)
 refine⟨by rw[zaw ne,zar],tV _,ne,e2,λ_=>none,(Heap.Ns1.of_empty e3).at λo q=>tz _ q,λ_=>True.intro,λy hy=>absurd rfl hy⟩
def zsy{prog:Program}{w:World}{env:Env}{e:Expr}{f:Str}{pos:Pos}{s:Shared}{Q:ac}(hb:attributeBase e f env (eval e env)=eval e env)
    (h:wpAny (model prog w) A (eval e env) (λo s₁=>wpAny (model prog w) A (getAttr o f true) Q E s₁) E s):wpAny (model prog w) A (eval (.Attribute e f pos) env) Q E s:=
 Attribute_any_ h (by rw[arm_eval_Attribute,hb])
end
inductive EFld(K:am)(f:Str)(Q:VK)(x:V)(H:Hp):Prop
 | mk (a C dx:Addr) (fs:List (Str × V)) (v:V) (hx:x=.ref a) (h:H a=some (.ins C dx fs)) (c:Cls K C) (n:zal K C f) (l:fs.lookup f=some v) (q:Q v H):EFld K f Q x H
def tFld(K:am)(ta:TE)(f:Str):TE:=λσ H Q=>ta σ H (EFld K f Q)
def InOp(X:Cx)(op:Operator)(rd:V->V->Hp->VK->Prop):Prop:=
 ∀(ai:ae)(s:Shared)(σ:St)(H:Hp)(x y:V)(u v:Value)(Q:VK),Inv X ai σ H s->RelV x u->RelV y v->rd x y H Q->wpAny (model X.prog X.w) X.A (inplaceOp op u v) (EP X ai σ Q) X.xe s
def zsz(K:am)(ta tv:TE)(rd:V->V->Hp->VK->Prop)(f:Str):TS:=λD σ H=>ta σ H λx H1=>∃a C dx fs v,x=.ref a/\H1 a=some (.ins C dx fs)/\Cls K C/\zal K C f/\fs.lookup f=some v/\
 tv σ H1 λy H2=>rd v y H2 λz H3=>∃dx' fs',H3 a=some (.ins C dx' fs')/\fs'.length<1000/\D.nx σ (upd H3 a (.ins C dx' (putF f z fs')))
section
variable{X:Cx}{o e value:Expr}{f:Str}{pos pos' tpos:Pos}{ta tv:TE}
def zaq(he:PE X e ta)(hb:attributeBase e f X.env (eval e X.env)=eval e X.env):PE X (.Attribute e f pos) (tFld X.K ta f):=by
 with_unfolding_all
  intro ai s σ H Q I h
  refine zsy hb (thn (he ai s σ H _ I h) λu s1 ⟨x,H1,I1,rx,a,C,dx,fs,v,ex,ea,c,n,l,q⟩=>?_)
  subst ex
  obtain rfl:u=Value.ref a:=rx
  exact ziD I1 ea c n l λu' s2 I2 ru=>⟨v,H1,I2,ru,q⟩
def eL{op:Operator}{rd:V->V->Hp->VK->Prop}(ha:PE X o ta)(hv:PE X value tv)(hop:InOp X op rd):PS X (.AugAssign (.Attribute o f tpos) op value pos) (zsz X.K ta tv rd f):=by
 with_unfolding_all
  intro ai s σ H D I h
  refine wpAny_AugAssign_AttributeAny (thn (ha ai s σ H _ I h) λov s1 ⟨x,H1,I1,rx,a,C,dx,fs,v,ex,ea,c,n,l,q⟩=>?_)
  subst ex
  obtain rfl:ov=Value.ref a:=rx
  refine ziD I1 ea c n l λu s2 I2 ru=>thn (hv ai s2 σ H1 _ I2 q) λw3 s3 ⟨y,H2,I3,ry,q3⟩=>thn (hop ai s3 σ H2 v y u w3 _ I3 ru ry q3) λw4 s4 ⟨z,H3,I4,rz,dx',fs',ea',l',q4⟩=>?_
  exact ziE I4 ea' c n l' rz λs5 I5=>⟨σ,_,I5,q4⟩
def rAdd:V->V->Hp->VK->Prop:=λx y H Q=>∃i j,x=.int i/\y=.int j/\Q (.int (i+j)) H
def ztQ:InOp X .Add rAdd:=by
 rintro ai s σ H x y u v Q I rx ry ⟨i,j,rfl,rfl,q⟩
 obtain⟨t,rfl⟩:=(show ∃t,u=Value.int i t from rx)
 obtain⟨t',rfl⟩:=(show ∃t',v=Value.int j t' from ry)
 exact PyProof.Rows.iadd_int ⟨.int (i+j),H,I.tok _,⟨_,rfl⟩,q⟩
end
section
variable{X:Cx}{ai:ae}{σ:St}{H:Hp}{s:Shared}{A:Around}{E:ac}{Q:ac}{c:Value}{b:Bool}
inductive TyOf(K:am)(H:Hp):V->Value->Prop where
 | non:TyOf K H .non (.type "NoneType")
 | bl (x:Bool):TyOf K H (.bl x) (.type "bool")
 | int (i:Int):TyOf K H (.int i) (.type "int")
 | str (x:Str):TyOf K H (.str x) (.type "str")
 | flt (x:UInt64):TyOf K H (.flt x) (.type "float")
 | lst {a:Addr} {xs:List V} (e:H a=some (.lst xs)):TyOf K H (.ref a) (.type "list")
 | frz {a:Addr} {o:Obj} {xs:List V} (e:H a=some (.frz o (.lst xs))):TyOf K H (.ref a) (.type "list")
 | tup {a:Addr} {xs:List V} (e:H a=some (.tup xs)):TyOf K H (.ref a) (.type "tuple")
 | dK {a:Addr} {kvs:List (Key × V)} (e:H a=some (.dK kvs)):TyOf K H (.ref a) (.type "dict")
 | dT {a:Addr} {kvs:List (List Key × V)} (e:H a=some (.dT kvs)):TyOf K H (.ref a) (.type "dict")
 | ins {a C dx:Addr} {fs:List (Str × V)} (e:H a=some (.ins C dx fs)) (cl:Cls K C) (ha:W.findIn K (.ref C) "__class__" = some (some (.builtin "object.__class__")))
    (hn:W.specialIn K (.builtin "object.__class__") "__get__" = some (some (.builtin "getset_descriptor.__get__"))) (htk:W.takesIn K (.builtin "object.__class__")=some true)
    (hm:W.mroIn K C (.type "object")=some true):TyOf K H (.ref a) (.ref C)
theorem eM{x:V}{u t:Value}(I:Inv X ai σ H s)(rx:RelV x u)(ty:TyOf X.K H x t)(e:W.kitOne X.K t c=some b)(h:∀tk,Q (.bool b) { s with toks:=tk }):
  wpAny (model X.prog X.w) A (call (.builtin "isinstance") [u,c]) Q E s:=by
 cases ty with
 | non=>cases(show u=Value.none from rx);exact rS W.kitx_none I.kIn True.intro e (λz=>nomatch z) h
 | bl y=>cases(show u=Value.bool y from rx);exact rS W.kitx_bool I.kIn True.intro e (λz=>nomatch z) h
 | int i=>obtain⟨t,q⟩:=(show ∃t,u=Value.int i t from rx);cases q;exact rS W.kitx_int I.kIn True.intro e (λz=>nomatch z) h
 | str y=>obtain⟨t,q⟩:=(show ∃t,u=Value.str y t from rx);cases q;exact rS W.kitx_str I.kIn True.intro e (λz=>nomatch z) h
 | flt y=>obtain⟨t,q⟩:=(show ∃t,u=Value.float y t from rx);cases q;exact rS W.kitx_float I.kIn True.intro e (λz=>nomatch z) h
 | @lst a xs ea=>
   cases(show u=Value.ref a from rx)
   obtain⟨_,_,n,_,h1⟩:=(show zbf X.prog X.w H s.heap a (.lst xs)from I.hok a _ ea)
   exact rS W.kitx_list I.kIn ⟨_,h1,rfl⟩ e (λz=>nomatch z) h
 | @frz a ob xs ea=>
   cases(show u=Value.ref a from rx)
   obtain⟨_,_,_,n,_,h1⟩:=(show zbf X.prog X.w H s.heap a (.frz ob (.lst xs))from I.hok a _ ea)
   exact rS W.kitx_list I.kIn ⟨_,h1,rfl⟩ e (λz=>nomatch z) h
 | @tup a xs ea=>
   cases(show u=Value.ref a from rx)
   obtain⟨_,_,_,p⟩:=(show zbf X.prog X.w H s.heap a (.tup xs)from I.hok a _ ea)
   obtain⟨o,h1,h2,_⟩:=p
   exact rS W.kitx_tuple I.kIn ⟨o,h1,h2⟩ e (λz=>nomatch z) h
 | @dK a kvs ea=>
   cases(show u=Value.ref a from rx)
   obtain⟨_,_,vs,_,p⟩:=(show zbf X.prog X.w H s.heap a (.dK kvs)from I.hok a _ ea)
   obtain⟨o,es,ep,h1,h2,_⟩:=p
   exact rS W.kitx_dict I.kIn ⟨o,h1,h2.1⟩ e (λz=>nomatch z) h
 | @dT a kvs ea=>
   cases(show u=Value.ref a from rx)
   obtain⟨_,_,xs,_,o,es,ep,h1,h2,_⟩:=(show zbf X.prog X.w H s.heap a (.dT kvs)from I.hok a _ ea)
   exact rS W.kitx_dict I.kIn ⟨o,h1,h2.1⟩ e (λz=>nomatch z) h
 | @ins a C dx fs ea cl ha hn htk hm=>
   cases(show u=Value.ref a from rx)
   obtain⟨mA,O,_⟩:=zhp I.hok ea
   obtain⟨od,J,_⟩:=O.look
   exact rS (W.kitx_own (cl.get _) cl.hd ha hn htk hm) I.kIn J e (λz=>nomatch z) h
end
structure Room(k:Nat)(A:Around):Prop where
 hd:A.handled=none
 dp:A.depth+3*k+5<recursionLimit
 un:A.units+16*k+200<cLine
 gd:A.guards=some []
def Room.mono{j k:Nat}{A:Around}(r:Room k A)(h:j<=k):Room j A:=⟨r.hd,by have:=r.dp;omega,by have:=r.un;omega,r.gd⟩
def Room.deeper{k:Nat}{A:Around}(r:Room (k+1) A)(env:Env):Room k (A.deeper env):=
 ⟨r.hd,by have:=r.dp;show A.depth+1+3*k+5<_;omega,by have:=r.un;show A.units+3+16*k+200<_;omega,r.gd⟩
def Room.in1{k:Nat}{A:Around}(r:Room (k+1) A):Room k A.in1:=
 ⟨r.hd,by have:=r.dp;show A.depth+3*k+5<_;omega,by have:=r.un;show A.units+1+16*k+200<_;omega,r.gd⟩
def eN{A:Around}{C:Addr}{us:aj}{kw:List (Str × Value)}:(A.under (.builtin "type.__call__" ⟨.ref C::us,kw⟩)).depth=A.depth+1:=by
 first | rfl | simp[Around.under,Code.weight,Code.isCreation,Code.isGuard,Code.isCaller,Code.frames,Code.isFrame,guardIds]
def eO{A:Around}{C:Addr}{us:aj}{kw:List (Str × Value)}:(A.under (.builtin "type.__call__" ⟨.ref C::us,kw⟩)).units=A.units+1:=by
 first | rfl | simp[Around.under,Code.cUnits,Code.frames,Code.isFrame]
def eP{A:Around}{C:Addr}{us:aj}{kw:List (Str × Value)}:(A.under (.builtin "type.__call__" ⟨.ref C::us,kw⟩)).guards=A.guards:=by
 first | rfl | simp[Around.under,Code.guards,Code.isGuard,guardIds,pushGuards]
def Room.make{k:Nat}{A:Around}(r:Room (k+1) A)(C:Addr)(us:aj)(kw:List (Str × Value)):Room k (A.under (.builtin "type.__call__" ⟨.ref C::us,kw⟩)):=
 ⟨r.hd,by have:=r.dp;rw[eN];omega,by have:=r.un;rw[eO];omega,by rw[eP];exact r.gd⟩
def Room.depth{k:Nat}{A:Around}(r:Room k A):A.depth<recursionLimit:=by have:=r.dp;omega
def Room.units0{k:Nat}{A:Around}(r:Room k A):A.units<cLine:=by have:=r.un;omega
def tNil:TA:=λ_ H Q=>Q [] H
def aZ(ta:TE)(tr:TA):TA:=λσ H Q=>ta σ H λx H1=>tr σ H1 λxs H2=>Q (x::xs) H2
section
variable{X:Cx}{e:Expr}{es:List Expr}{te:TE}{t:TA}{pos:Pos}
theorem zae:PA X [] tNil:=by
 with_unfolding_all
  exact λ_ _ _ _ H Q I h=>qB ⟨[],H,I,.nil,h⟩
def zaa(ha:PE X e te)(hr:PA X es t)(hs:starEach (e::es) X.env=(false,eval e X.env)::starEach es X.env:=by rfl):PA X (e::es) (aZ te t):=by
 with_unfolding_all
  intro pos ai s σ H Q I h
  rw[hs]
  show wpAny _ _ (spliced ((false,eval e X.env)::backTo pos (starEach es X.env))) _ _ s
  refine rP (thn (ha ai s σ H _ I h) λu s1 ⟨x,H1,I1,r1,q1⟩=>?_)
  exact thn (hr pos ai s1 σ H1 _ I1 q1) λus s2 ⟨xs,H2,I2,r2,q2⟩=>⟨x::xs,H2,I2,.cons r1 r2,q2⟩
end
abbrev Sp:=List V->Hp->VK->XK->Prop
abbrev CXT:=List Env->Hp->Shared->XK->Value->Shared->Prop
structure Env0(P:Program)(w:World)(K:am)(mg:af)(bj:Heap)(A:Around)(outer:List Env)(s:Shared)(H:Hp):Prop where
 frames:A.frames=some outer
 mod:Mod K mg bj
 bs:∀b o,bj.get? b=some o->s.heap.get? b=some o/\H b=none
 bsz:bj.objs.size<=s.heap.objs.size
 funs:s.heap.FunFrames bj outer
 frf:∀b∈frs outer,H b=none
 hok:HOk P w H s.heap
 bare:AllBare s.gens
def CE(outer:List Env)(P:Program)(w:World)(H:Hp)(s:Shared)(Q:VK)(u:Value)(s':Shared):Prop:=
 ∃v H',s'.os=s.os/\AllBare s'.gens/\Un (frs outer) [] H H' s.heap s'.heap/\HOk P w H' s'.heap/\RelV v u/\Q v H'
def CR(CX:CXT)(outer:List Env)(P:Program)(w:World)(H:Hp)(s:Shared)(Q:VK)(E:XK)(r:Result)(s':Shared):Prop:=
 match r with
 | .ok (.ret u)=>CE outer P w H s Q u s'
 | .ok _=>False
 | .error e=>CX outer H s E e s'
structure FnOk(P:Program)(w:World)(K:am)(mg:af)(bj:Heap)(CX:CXT)(k:Nat)(f:Addr)(fd:FuncData)(ps:List Str)(sp:Sp):Prop where
 len:∀vs H Q E,sp vs H Q E->vs.length=ps.length
 run:∀(A:Around)(outer:List Env)(s:Shared)(H:Hp)(args:Args)(us:aj)(vs:List V)(Q:VK)(E:XK),Room k A->Env0 P w K mg bj A outer s H->BindsTo s fd args (ps.zip us)->Vals vs us->sp vs H Q E->
  codeAny (model P w) A (.call (.ref f) args) (CR CX outer P w H s Q E) s
def FnOk.mono{P:Program}{w:World}{K:am}{mg:af}{bj:Heap}{CX:CXT}{j k:Nat}{f:Addr}{fd:FuncData}{ps:List Str}{sp:Sp}(F:FnOk P w K mg bj CX j f fd ps sp)(h:j<=k):
    FnOk P w K mg bj CX k f fd ps sp:=⟨F.len,λA outer s H args us vs Q E hr=>F.run A outer s H args us vs Q E (hr.mono h)⟩
def FnOk.imp{P:Program}{w:World}{K:am}{mg:af}{bj:Heap}{CX:CXT}{k:Nat}{f:Addr}{fd:FuncData}{ps:List Str}{sp sp':Sp}(F:FnOk P w K mg bj CX k f fd ps sp)
    (h:∀vs H Q E,sp' vs H Q E->sp vs H Q E):FnOk P w K mg bj CX k f fd ps sp':=
 ⟨λvs H Q E q=>F.len vs H Q E (h _ _ _ _ q),λA outer s H args us vs Q E hr he hb hv hs=>F.run A outer s H args us vs Q E hr he hb hv (h _ _ _ _ hs)⟩
def Env0.make{P:Program}{w:World}{K:am}{mg:af}{bj:Heap}{A:Around}{outer:List Env}{s:Shared}{H:Hp}(e:Env0 P w K mg bj A outer s H)(C:Addr)(us:aj)(kw:List (Str × Value)):
    Env0 P w K mg bj (A.under (.builtin "type.__call__" ⟨.ref C::us,kw⟩)) outer s H:=⟨by first | exact e.frames | (simpa[Around.under,Code.envs,Code.isFrame,pushEnvs]using e.frames),e.mod,e.bs,e.bsz,e.funs,e.frf,e.hok,e.bare⟩
section
variable{X:Cx}{ai:ae}{σ:St}{H:Hp}{s s':Shared}
def Inv.env0(I:Inv X ai σ H s):Env0 X.prog X.w X.K X.mg X.bj X.A X.stack s H:=
 ⟨I.ok.frames,I.ok.mod,I.bs,tU I.ok.bsz I.sz,I.stack,I.stkFree,I.hok,I.bare⟩
def Inv.after{Q:VK}{u:Value}(I:Inv X ai σ H s)(h:CE X.stack X.prog X.w H s Q u s'):EP X ai σ Q u s':=by
 obtain⟨v,H',os,bare,un,hok,r,q⟩:=h
 obtain⟨hh,g,d,t,os'⟩:=s'
 obtain rfl:os'=s.os:=os
 exact⟨v,H',I.call (h':=hh) (g':=g) (d':=d) (t':=t) (ch:=[]) un hok bare (λb z=>absurd z (by simp)),r,q⟩
end
def zsA(sp:Sp)(dvs:List V)(E:XK)(t:TA):TE:=λσ H Q=>t σ H λvs H1=>sp (vs++dvs) H1 Q E
def zbq(K:am)(fd:FuncData)(ps:List Str)(ds:aj):Prop:=
 ∀(s:Shared)(us:aj),K.In s.heap->(us++ds).length=ps.length->BindsTo s fd ⟨us,[]⟩ (ps.zip (us++ds))
def zbq.all{K:am}{fd:FuncData}{ps:List Str}(h:∀us:List Value,us.length=ps.length->bindArgs fd ⟨us,[]⟩=pure (ps.zip us)):zbq K fd ps []:=λs us _ hl=>by
 rw[rE]at hl ⊢
 exact .of_eq (h us hl)
def zcM(CX:CXT)(X:Cx)(E:XK):Prop:=∀(ai:ae)(σ:St)(H:Hp)(s:Shared)(e:Value)(s':Shared),Inv X ai σ H s->CX X.stack H s E e s'->X.xe e s'
section
variable{X:Cx}{CX:CXT}{k:Nat}{f C:Addr}{fd:FuncData}{ps:List Str}{sp:Sp}{dvs:List V}{ds:aj}{E:XK}{x m:Str}{p pos apos:Pos}{e o:Expr}{es:List Expr}{ta:TE}{t:TA}
theorem zjK{ai:ae}{σ:St}{H:Hp}{s:Shared}{Q:VK}{us:aj}{vs:List V}(F:FnOk X.prog X.w X.K X.mg X.bj CX k f fd ps sp)(hr:Room k X.A)(hb:zbq X.K fd ps ds)(hd:Vals dvs ds)(hx:zcM CX X E)
  (I:Inv X ai σ H s) (r:Vals vs us) (h:sp (vs++dvs) H Q E):wpAny (model X.prog X.w) X.A (call (.ref f) us) (EP X ai σ Q) X.xe s:=by
 have r2:Vals (vs++dvs) (us++ds):=r.append hd
 have hl:(us++ds).length=ps.length:=by rw[<-r2.length];exact F.len _ _ _ _ h
 refine qU (rG (F.run X.A X.stack s H ⟨us,[]⟩ (us++ds) (vs++dvs) Q E hr I.env0 (hb s us I.kIn hl) r2 h) λr s' hq=>?_)
 cases r with
 | error e=>exact hx ai σ H s e s' I hq
 | ok fl=>
   cases fl with
   | ret u=>exact I.after hq
   | next=>exact False.elim hq
   | brk=>exact False.elim hq
   | cont=>exact False.elim hq
def dP(F:FnOk X.prog X.w X.K X.mg X.bj CX k f fd ps sp)(hr:Room k X.A)(hg:Gl X x)(hm:X.mg x=some (.ref f))(hk:W.keepIn X.K (.ref f)=true)(hb:zbq X.K fd ps ds)(hd:Vals dvs ds)(hx:zcM CX X E)
    (ha:PA X (e::es) t) (hdb:(x==("__debug__" : Str))=false:=by decide) (he:starEach (e::es) X.env=(false,eval e X.env)::starEach es X.env:=by rfl) (hpl:(backTo pos (starEach es X.env)).any (·.1)=false:=by rfl):
    PE X (.Call (.Name x p) (e::es) [] pos) (zsA sp dvs E t):=by
 with_unfolding_all
  intro ai s σ H Q I h
  refine sH (zhg I hg hm ?_ hdb)
  refine qH (h₀:=X.bj) I.ok.mod.kin hk (thn (ha pos ai s σ H _ I h) λus s1 ⟨vs,H1,I1,r,q⟩=>⟨I1.kIn,?_⟩) he hpl
  exact zjK F hr hb hd hx I1 r q
structure Mk(K:am)(C f:Addr):Prop where
 makes:W.makesIn K C=true
 init:W.findIn K (.ref C) "__init__" = some (some (.ref f))
 fn:W.isFn K (.ref f)=true
 kp:W.keepIn K (.ref C)=true
theorem dQ{ai:ae}{σ:St}{H:Hp}{s:Shared}{Q:VK}{us:aj}{vs:List V}(M:Mk X.K C f)(F:FnOk X.prog X.w X.K X.mg X.bj CX k f fd ps sp)(hr:Room (k+1) X.A)(hb:zbq X.K fd ps ds)(hd:Vals dvs ds)
  (hx:zcM CX X E) (I:Inv X ai σ H s) (r:Vals vs us)
  (h:∀x dx,H x=none->H dx=none->dx≠x->sp (.ref x::(vs++dvs)) (upd (upd H dx (.own x)) x (.ins C dx [])) (λv H2=>v=.non/\Q (.ref x) H2) E):
  wpAny (model X.prog X.w) X.A (call (.ref C) us) (EP X ai σ Q) X.xe s:=by
 have hq:=h (s.heap.objs.size+1) s.heap.objs.size (I.hok.fresh (rn _)) (I.hok.fresh (tF _)) (tM (re _))
 have I2:=Inv.made (C:=C) I
 have r2:Vals (V.ref (s.heap.objs.size+1)::(vs++dvs)) (Value.ref (s.heap.objs.size+1)::(us++ds)):=.cons rfl (r.append hd)
 have hl:(Value.ref (s.heap.objs.size+1)::us++ds).length=ps.length:=by
  have e:=r2.length
  rw[F.len _ _ _ _ hq]at e
  exact e.symm
 refine qU (dO (f:=f) I.kIn M.makes M.init (beq_iff_eq.mp M.fn) (rG (F.run _ X.stack _ _ ⟨Value.ref (s.heap.objs.size+1)::us,[]⟩ (Value.ref (s.heap.objs.size+1)::(us++ds)) _ _ E (hr.make C us [])
  (I2.env0.make C us []) (hb _ (Value.ref (s.heap.objs.size+1)::us) I2.kIn hl) r2 hq) λr s' hq'=>?_))
 cases r with
 | error e=>exact hx ai σ _ _ e s' I2 hq'
 | ok fl=>
   cases fl with
   | ret u=>
     obtain⟨v,H',I3,rv,ev,q3⟩:=I2.after hq'
     subst ev
     exact⟨rv,⟨V.ref (s.heap.objs.size+1),H',I3,rfl,q3⟩⟩
   | next=>exact False.elim hq'
   | brk=>exact False.elim hq'
   | cont=>exact False.elim hq'
end
section
variable{X:Cx}{CX:CXT}{k:Nat}{f C:Addr}{fd:FuncData}{ps ks:List Str}{sp:Sp}{E:XK}{x m:Str}{p pos apos kpos:Pos}{e o:Expr}{es:List Expr}{kws:List Keyword}{te ta:TE}{t tk:TA}{nm:Option Str}
structure KBinds(K:am)(fd:FuncData)(ps ks:List Str)(g:List Value->List Value->List Value)(gV:List V->List V->List V):Prop where
 to:∀(s:Shared)(us ws:aj),K.In s.heap->(g us ws).length=ps.length->BindsTo s fd ⟨us,ks.zip ws⟩ (ps.zip (g us ws))
 rel:∀{vs:List V}{us:aj}{zs:List V}{ws:aj},Vals vs us->Vals zs ws->Vals (gV vs zs) (g us ws)
variable{g:List Value->List Value->List Value}{gV:List V->List V->List V}
end
structure FnScope(N P:List Str)(sc:Scope):Prop where
 kind:sc.kind=.function
 co:sc.isCoroutine=false
 gen:sc.isGenerator=false
 nd:N.Nodup
 pre:N.take P.length=P
 par:∀x∈P,sc.names.lookup x=some .local\/sc.names.lookup x=some .cell
 nofree:∀y∈sc.names,y.2≠.free
theorem zjL{kindOf:Str->Option NameKind}{x:Str}:∀{binds:List (Str × Value)}{m:af},(∀v,(x,v)∉binds)->bindL kindOf binds m x=m x
 | [],_,_=>rfl
 | (n,v)::r,m,h=>by
   unfold bindL
   rw[zjL λw hw=>h w (tO _ hw)]
   split
   ·have:x≠n:=by rintro rfl;exact h v tN
    simp[this]
   ·rfl
theorem zjM{kindOf:Str->Option NameKind}{x:Str}:∀{binds:List (Str × Value)}{m:af},(∀v,(x,v)∉binds)->bindC kindOf binds m x=m x
 | [],_,_=>rfl
 | (n,v)::r,m,h=>by
   unfold bindC
   rw[zjM λw hw=>h w (tO _ hw)]
   split
   ·rfl
   ·have:x≠n:=by rintro rfl;exact h v tN
    simp[this]
theorem zjN{kindOf:Str->Option NameKind}{x:Str}{v:Value}:∀{P:List Str}{vs:aj}{i:Nat}{m:af},P.Nodup->P[i]?=some x->vs[i]?=some v->kindOf x=some .local->
  bindL kindOf (P.zip vs) m x=some v
 | [],_,_,_,_,h,_,_=>by simp at h
 | _::_,[],_,_,_,_,h,_=>by simp at h
 | p::P,w::vs,0,m,nd,h1,h2,hk=>by
   simp at h1 h2;subst h1;subst h2
   show bindL kindOf ((p,w)::P.zip vs) m p=_
   unfold bindL
   rw[zjL λv hv=>(nodup_cons.mp nd).1 (List.of_mem_zip hv).1,if_pos hk]
   simp
 | p::P,w::vs,i+1,m,nd,h1,h2,hk=>by
   show bindL kindOf ((p,w)::P.zip vs) m x=_
   unfold bindL
   exact zjN (i:=i) (nodup_cons.mp nd).2 (by simpa using h1) (by simpa using h2) hk
theorem zjO{kindOf:Str->Option NameKind}{x:Str}{v:Value}:∀{P:List Str}{vs:aj}{i:Nat}{m:af},P.Nodup->P[i]?=some x->vs[i]?=some v->kindOf x≠some .local->
  bindC kindOf (P.zip vs) m x=some v
 | [],_,_,_,_,h,_,_=>by simp at h
 | _::_,[],_,_,_,_,h,_=>by simp at h
 | p::P,w::vs,0,m,nd,h1,h2,hk=>by
   simp at h1 h2;subst h1;subst h2
   show bindC kindOf ((p,w)::P.zip vs) m p=_
   unfold bindC
   rw[zjM λv hv=>(nodup_cons.mp nd).1 (List.of_mem_zip hv).1,if_neg hk]
   simp
 | p::P,w::vs,i+1,m,nd,h1,h2,hk=>by
   show bindC kindOf ((p,w)::P.zip vs) m x=_
   unfold bindC
   exact zjO (i:=i) (nodup_cons.mp nd).2 (by simpa using h1) (by simpa using h2) hk
def zgV(N:List Str)(vs:List V):St:=vs.map some++List.replicate (N.length-vs.length) none
def cxOf(CX:CXT)(P:Program)(w:World)(K:am)(mg:af)(bj:Heap)(N:List Str)(qual:Str)(scope:Scope)(f:Addr)(cd:Value)(A:Around)(outer:List Env)(s:Shared)(H:Hp)(E:XK):Cx where
 prog:=P
 w:=w
 K:=K
 mg:=mg
 bj:=bj
 A:=A.deeper (envOfC qual scope s.heap.objs.size f cd)
 N:=N
 s₀:=s
 H₀:=H
 env:=envOfC qual scope s.heap.objs.size f cd
 outer:=outer
 stack:=envOfC qual scope s.heap.objs.size f cd::outer
 ex:=[]
 calm:=true
 fn:=λ_=>true
 pn:=[]
 xe:=λe s'=>wpAny (model P w) (A.deeper (envOfC qual scope s.heap.objs.size f cd)) (leaving (envOfC qual scope s.heap.objs.size f cd) e) (λ_ s''=>CX outer H s E e s'') (λe' s''=>CX outer H s E e' s'') s'
def dR{sc:Scope}{n:Nat}{x:Str}(h:sc.names.lookup x=some .cell):∃c,(cellsFrom n sc.names []).lookup x=some c:=by
 have q:=W.cellsFrom_some sc.names n [] (.inl h)
 exact Option.isSome_iff_exists.mp q
def eQ{CX:CXT}{P:Program}{w:World}{K:am}{mg:af}{bj:Heap}{N ps:List Str}{qual:Str}{scope:Scope}{f:Addr}{cd:Value}{A:Around}{outer:List Env}{s s1:Shared}{H:Hp}{E:XK}{us:aj}{vs:List V}
    (S:FnScope N ps scope) (hd:A.handled=none) (e0:Env0 P w K mg bj A outer s H) (hl:vs.length=ps.length) (r:Vals vs us)
    (x:InCallC s s.heap.objs.size (bindL (envOfC qual scope s.heap.objs.size f cd).kindOf (ps.zip us) λ_=>none) (cellsFrom (s.heap.objs.size+1) scope.names []) (bindC (envOfC qual scope s.heap.objs.size f cd).kindOf (ps.zip us) λ_=>none) s1):
    Inv (cxOf CX P w K mg bj N qual scope f cd A outer s H E) [] (zgV N vs) H s1:=by
 have hpl:ps.length<=N.length:=by have:=tW List.length S.pre;rw[sj]at this;omega
 obtain⟨h1,tk,rfl,hk⟩:=x.done
 have noA:∀b:Addr,b∉(cxOf CX P w K mg bj N qual scope f cd A outer s H E).ex:=λb z=>absurd (show b∈([]:List Addr)from z) (by simp)
 refine⟨⟨e0.mod,S.kind,rfl,rfl,tF _,λy z c h1 h2=>?_,λy hy=>?_,λy c _ h=>?_,λ_=>hd,Around.frames_deeper e0.frames,.inr ⟨rfl,rfl⟩,λb z=>absurd z (noA b),e0.bs,e0.bsz,λb _ _=>noA b,λb z=>absurd z (noA b),e0.funs,e0.frf⟩,
  rfl,e0.bare,Un.kept hk,⟨_,x.toInCall.ns,λi y v h1 h2 h3=>?_⟩,λy c h=>⟨_,x.cell y c h⟩,e0.hok.fresh (tF _),λy c h=>?_,λp hp=>absurd (show p∈([]:ae)from hp) (by simp),e0.hok.kept hk,?_⟩
 ·exact name_of_addr x.apart (sk h1) (sk h2)
 ·have hy:scope.names.lookup y=some .cell\/scope.names.lookup y=some .free:=hy
  rcases hy with hy | hy
  ·exact dR hy
  ·exact absurd rfl (S.nofree _ (sk hy))
 ·exact pi (x.above y c (sk h))
 ·have hi:i<vs.length:=by
   unfold zgV at h2
   by_cases hi:i<vs.length
   ·exact hi
   ·rw[sN (by simpa using hi)]at h2
    rw[List.getElem?_replicate]at h2
    split at h2<;>cases h2
  have ha:vs[i]?=some v:=by
   unfold zgV at h2
   rw[sR (by simpa using hi),getElem?_map]at h2
   cases e:vs[i]? with
   | none=>rw[e]at h2;cases h2
   | some a=>rw[e]at h2;cases h2;rfl
  obtain⟨u,hu,rv⟩:=r.get ha
  have hp:ps[i]?=some y:=by
   rw[<-S.pre,List.getElem?_take_of_lt (by omega)];exact h1
  have ndP:ps.Nodup:=by rw[<-S.pre];exact S.nd.sublist (List.take_sublist _ _)
  refine⟨u,rv,?_⟩
  rcases S.par y (tE hp)with k | k
  ·exact .inl ⟨k,zjN ndP hp hu k⟩
  ·obtain⟨c,e⟩:=dR (n:=s.heap.objs.size+1) k
   refine .inr ⟨.inl k,c,e,?_⟩
   have q:=x.cell y c e
   rw[zjO ndP hp hu (by show scope.names.lookup y≠_;rw[k];decide)]at q
   exact q
 ·exact e0.hok.fresh (pi (x.above y c (sk h)))
 ·unfold zgV
  show _=N.length
  rw[tR,tm,List.length_replicate]
  omega
theorem bc{CX:CXT}{P:Program}{w:World}{K:am}{mg:af}{bj:Heap}{k:Nat}{f:Addr}{name qual:Str}{params:Arguments}{body:List Stmt}{scope:Scope}{dV kV doc pm cdv ct oc:Value}{an od:ak}
  {osl:ap} {N ps:List Str} {sp:Sp} (lk:K.lookup f=some ⟨oc,od,.func (W.fnOf name qual params body scope dV kV doc pm an cdv ct),osl⟩) (hcd:W.codeIn K cdv qual=true) (S:FnScope N ps scope)
  (len:∀vs H Q E,sp vs H Q E->vs.length=ps.length)
  (hbody:∀(A:Around)(outer:List Env)(s:Shared)(H:Hp)(vs:List V)(Q:VK)(E:XK),Room k (A.deeper (envOfC qual scope s.heap.objs.size f cdv))->sp vs H Q E->
    ∃t,PSs (cxOf CX P w K mg bj N qual scope f cdv A outer s H E) body t/\t { nx:=λ_ H'=>Q .non H',rt:=Q } (zgV N vs) H):
  FnOk P w K mg bj CX (k+1) f (W.fnOf name qual params body scope dV kV doc pm an cdv ct) ps sp:=by
 with_unfolding_all
  refine⟨len,λA outer s H args us vs Q E hr e0 hb r hsp=>?_⟩
  have hl:=len _ _ _ _ hsp
  have KX:K.In s.heap:=e0.mod.kin.keeps λb o e=>(e0.bs b o e).1
  have lim:s.heap.NoLimit:=e0.mod.nolimit.keeps λb o e=>(e0.bs b o e).1
  have hkind:∀y∈ps.zip us,scope.names.lookup y.1=some .local\/(scope.names.lookup y.1=some .cell/\((cellsFrom (s.heap.objs.size+1) scope.names []).lookup y.1).isSome=true):=λ⟨n,v⟩ hy=>by
   rcases S.par n (List.of_mem_zip hy).1 with q | q
   ·exact .inl q
   ·exact .inr ⟨q,W.cellsFrom_some _ _ _ (.inl q)⟩
  refine codeAny_call_function hr.depth (KX _ _ lk) rfl S.co S.gen rfl (W.codeRec_of KX hcd) (hb _ _ _ _ ?_)
  refine wpAny_newFunctionEnv_cells S.kind hkind λenv he s1 x=>?_
  subst he
  refine⟨lim.keeps x.toInCall.keep,codeAny_func ?_⟩
  obtain⟨t,ht,hq⟩:=hbody A outer s H vs Q E (hr.deeper _) hsp
  have I:Inv (cxOf CX P w K mg bj N qual scope f cdv A outer s H E) [] (zgV N vs) H s1:=eQ S hr.hd e0 hl r x
  refine sP (ht [] s1 (zgV N vs) H _ I hq) (λfl s' hs=>?_) λe s' hs=>hs
  have fin:∀{σ':St}{H':Hp}{v:V}{u:Value},Inv (cxOf CX P w K mg bj N qual scope f cdv A outer s H E) [] σ' H' s'->RelV v u->Q v H'->CE outer P w H s Q u s':=
   λ{σ' H' v u} J rv q=>⟨v,H',J.os,J.bare,J.bj,J.hok,rv,q⟩
  cases fl with
  | ret u=>
    obtain⟨v,σ',H',J,rv,q⟩:=hs
    exact fin J rv q
  | next=>
    obtain⟨σ',H',J,q⟩:=hs
    exact fin (v:=V.non) (u:=Value.none) J rfl q
  | brk=>
    obtain⟨_,_,_,q⟩:=hs
    exact False.elim q
  | cont=>
    obtain⟨_,_,_,q⟩:=hs
    exact False.elim q
section
variable{X:Cx}{x:Str}{p pos:Pos}{e:Expr}{es:List Expr}{t:TA}{id T:String}{r:List V->Hp->VK->Prop}
def tCB(r:List V->Hp->VK->Prop)(t:TA):TE:=λσ H Q=>t σ H λvs H1=>r vs H1 Q
def zau(hc:zdH X (.builtin id) r)(hg:Gl X x)(hm:X.mg x=none)(hv:bootBuiltins x=some (.builtin id))(ha:PA X (e::es) t)(hn:x ≠ "__name__" := by decide)(hdb:(x==("__debug__" : Str))=false:=by decide)
    (he:starEach (e::es) X.env=(false,eval e X.env)::starEach es X.env:=by rfl) (hpl:(backTo pos (starEach es X.env)).any (·.1)=false:=by rfl):PE X (.Call (.Name x p) (e::es) [] pos) (tCB r t):=by
 with_unfolding_all
  intro ai s σ H Q I h
  refine sH (zfk I hg hm hv ?_ hn hdb)
  exact qI (thn (ha pos ai s σ H _ I h) λus s1 ⟨vs,H1,I1,r1,q1⟩=>hc ai s1 σ H1 vs us Q I1 r1 q1) he hpl
def zfm(hc:zdH X (.type T) r)(hg:Gl X x)(hm:X.mg x=none)(hv:bootBuiltins x=some (.type T))(ha:PA X (e::es) t)(hn:x ≠ "__name__" := by decide)(hdb:(x==("__debug__" : Str))=false:=by decide)
    (he:starEach (e::es) X.env=(false,eval e X.env)::starEach es X.env:=by rfl) (hpl:(backTo pos (starEach es X.env)).any (·.1)=false:=by rfl):PE X (.Call (.Name x p) (e::es) [] pos) (tCB r t):=by
 with_unfolding_all
  intro ai s σ H Q I h
  refine sH (zfk I hg hm hv ?_ hn hdb)
  exact sX (thn (ha pos ai s σ H _ I h) λus s1 ⟨vs,H1,I1,r1,q1⟩=>hc ai s1 σ H1 vs us Q I1 r1 q1) he hpl
end
section
variable{κ:Type} [DecidableEq κ]
def valV(kvs:List (κ × V))(k : κ):Option V:=(kvs.find? λkv=>decide (kv.1=k)).map (·.2)
def putK(kvs:List (κ × V))(k : κ)(v:V):List (κ × V):=
 if(kvs.any λkv=>decide (kv.1=k))=true then kvs.map (λkv=>if kv.1=k then(kv.1,v)else kv)else kvs++[(k,v)]
def zqt{k : κ}:valV ([]:List (κ × V)) k=none:=rfl
def zbr{p : κ × V}{r:List (κ × V)}{k : κ}(e:p.1=k):valV (p::r) k=some p.2:=by simp[valV,find?_cons,e]
def zbj{p : κ × V}{r:List (κ × V)}{k : κ}(e:¬p.1=k):valV (p::r) k=valV r k:=by simp[valV,find?_cons,e]
theorem zfn(k : κ):∀kvs:List (κ × V),(kvs.any λkv=>decide (kv.1=k))=(valV kvs k).isSome
 | []=>rfl
 | p::r=>by
   rw[qS]
   by_cases e:p.1=k
   ·simp only[zbr e,decide_eq_true e,Bool.true_or,Option.isSome_some]
   ·rw[zbj e,tS e,Bool.false_or];exact zfn k r
theorem zma(k j : κ)(y:V):∀kvs:List (κ × V),valV (kvs.map λkv=>if kv.1=k then(kv.1,y)else kv) j=(valV kvs j).map λx=>if j=k then y else x
 | []=>rfl
 | p::r=>by
   have ih:=zma k j y r
   rw[t3]
   by_cases h:p.1=k
   ·rw[if_pos h]
    by_cases e:p.1=j
    ·rw[zbr (p:=(p.1,y)) e,zbr e,Option.map_some,if_pos (e.symm.trans h)]
    ·rw[zbj (p:=(p.1,y)) e,zbj e,ih]
   ·rw[if_neg h]
    by_cases e:p.1=j
    ·rw[zbr (p:=p) e,zbr e,Option.map_some,if_neg (λz=>h (e.trans z))]
    ·rw[zbj (p:=p) e,zbj e,ih]
theorem zjP(k j : κ)(y:V):∀kvs:List (κ × V),valV kvs k=none->valV (kvs++[(k,y)]) j=if j=k then some y else valV kvs j
 | [],_=>by
   by_cases e:k=j
   ·rw[if_pos e.symm];exact zbr (p:=(k,y)) e
   ·rw[if_neg (λz=>e z.symm)];exact zbj (p:=(k,y)) e
 | p::r,hn=>by
   rw[List.cons_append]
   have hk:¬p.1=k:=λz=>by rw[zbr z]at hn;cases hn
   rw[zbj hk]at hn
   have ih:=zjP k j y r hn
   by_cases e:p.1=j
   ·rw[zbr e,zbr e,if_neg (λz=>hk (e.trans z))]
   ·rw[zbj e,zbj e,ih]
theorem zde(kvs:List (κ × V))(k j : κ)(y:V):valV (putK kvs k y) j=if j=k then some y else valV kvs j:=by
 unfold putK
 by_cases a:(kvs.any λkv=>decide (kv.1=k))=true
 ·rw[if_pos a,zma]
  rw[zfn]at a
  by_cases e:j=k
  ·obtain⟨x,hx⟩:=Option.isSome_iff_exists.mp a
   rw[if_pos e,e,hx,Option.map_some,if_pos rfl]
  ·rw[if_neg e]
   cases valV kvs j with
   | none=>rfl
   | some x=>rw[Option.map_some,if_neg e]
 ·rw[if_neg a]
  refine zjP k j y kvs ?_
  rw[zfn]at a
  cases q:valV kvs k with
  | none=>rfl
  | some x=>rw[q]at a;exact(a rfl).elim
def zhq(kvs:List (κ × V))(k : κ)(v:V):(putK kvs k v).length<=kvs.length+1:=by
 unfold putK
 split
 ·rw[tm];omega
 ·rw[tR,length_cons,length_nil];omega
def zqu{kvs:List (κ × V)}{k : κ}(v:V)(h:valV kvs k=none):putK kvs k v=kvs++[(k,v)]:=by
 unfold putK
 rw[zfn,h]
 exact if_neg (by decide)
theorem RelO.isSome_eq{o:Option V}{u:Option Value}(r:RelO o u):o.isSome=u.isSome:=by
 cases o with
 | none=>cases u with
   | none=>rfl
   | some _=>exact(show False from r).elim
 | some _=>cases u with
   | none=>exact(show False from r).elim
   | some _=>rfl
theorem RelO.getD{o:Option V}{u:Option Value}{d:V}{d':Value}(r:RelO o u)(rd:RelV d d'):RelV (o.getD d) (u.getD d'):=by
 cases o with
 | none=>cases u with
   | none=>exact rd
   | some _=>exact(show False from r).elim
 | some _=>cases u with
   | none=>exact(show False from r).elim
   | some _=>exact r
theorem KV.val{kvs:List (κ × V)}{vs:List (κ × Value)}(r:KV kvs vs)(k : κ):RelO (valV kvs k) (valueAt vs k):=by
 unfold KV at r
 induction r with
 | nil=>exact True.intro
 | @cons p q ps qs h t ih=>
   obtain⟨h1,h2⟩:=h
   by_cases e:p.1=k
   ·have e':q.1=k:=h1.symm.trans e
    have b:valueAt (q::qs) k=some q.2:=by simp[valueAt,find?_cons,e']
    rw[zbr e,b];exact h2
   ·have e':¬q.1=k:=λz=>e (h1.trans z)
    have b:valueAt (q::qs) k=valueAt qs k:=by simp[valueAt,find?_cons,e']
    rw[zbj e,b];exact ih
theorem KV.any{kvs:List (κ × V)}{vs:List (κ × Value)}(r:KV kvs vs)(k : κ):(kvs.any λkv=>decide (kv.1=k))=vs.any λkv=>decide (kv.1=k):=by
 unfold KV at r
 induction r with
 | nil=>rfl
 | cons h t ih=>rw[qS,qS,ih,h.1]
theorem KV.repl{kvs:List (κ × V)}{vs:List (κ × Value)}(r:KV kvs vs)(k : κ){y:V}{u:Value}(ry:RelV y u):
  KV (kvs.map λkv=>if kv.1=k then(kv.1,y)else kv) (vs.map λkv=>if kv.1=k then(kv.1,u)else kv):=by
 unfold KV at r ⊢
 induction r with
 | nil=>exact .nil
 | @cons p q ps qs h t ih=>
   rw[t3,t3]
   refine .cons ?_ ih
   obtain⟨h1,h2⟩:=h
   by_cases e:p.1=k
   ·rw[if_pos e,if_pos (h1.symm.trans e)];exact⟨h1,ry⟩
   ·rw[if_neg e,if_neg (λz=>e (h1.trans z))];exact⟨h1,h2⟩
def KV.put{kvs:List (κ × V)}{vs:List (κ × Value)}(r:KV kvs vs)(k : κ){y:V}{u:Value}(ry:RelV y u):KV (putK kvs k y) (stored vs k u):=by
 unfold putK stored
 rw[r.any k]
 by_cases e:(vs.any λkv=>decide (kv.1=k))=true
 ·rw[if_pos e,if_pos e];exact r.repl k ry
 ·rw[if_neg e,if_neg e];exact Paired.snoc r ⟨rfl,ry⟩
theorem KV.keys{kvs:List (κ × V)}{vs:List (κ × Value)}(r:KV kvs vs):kvs.map (·.1)=vs.map (·.1):=by
 unfold KV at r
 induction r with
 | nil=>rfl
 | cons h t ih=>rw[t3,t3,ih,h.1]
def KV.length{kvs:List (κ × V)}{vs:List (κ × Value)}(r:KV kvs vs):kvs.length=vs.length:=Paired.length r
end
theorem aU{P:Program}{w:World}{k:Key}{u:Value}(r:RelV (kV k) u):(zaV P w).is k u=true:=by
 cases k with
 | inl i=>obtain⟨t,e⟩:=(show ∃t,u=Value.int i t from r);subst e;exact eJ P w i t
 | inr x=>obtain⟨t,e⟩:=(show ∃t,u=Value.str x t from r);subst e;exact eK P w x t
theorem zjQ{P:Program}{w:World}:∀{ks:List Key}{us:aj},Vals (ks.map kV) us->ItemsAre (zaV P w) ks us
 | [],_,r=>by rw[map_nil]at r;cases r;exact .nil
 | k::ks,_,r=>by
   rw[t3]at r
   cases r with
   | cons h t=>exact .cons (aU h) (zjQ t)
abbrev KT(H:Hp):List (List Key × V)->List (List Key × Addr × Value)->Prop:=Paired λp q=>p.1=q.1/\H q.2.1=some (.tup (p.1.map kV))/\RelV p.2 q.2.2
theorem KT.val{H:Hp}{kvs:List (List Key × V)}{xs:List (List Key × Addr × Value)}(r:KT H kvs xs)(k:List Key):RelO (valV kvs k) ((atKey xs k).map (·.2)):=by
 induction r with
 | nil=>exact True.intro
 | @cons p q ps qs h t ih=>
   obtain⟨h1,_,h2⟩:=h
   by_cases e:p.1=k
   ·have e':q.1=k:=h1.symm.trans e
    have b:atKey (q::qs) k=some q.2:=by simp[atKey,find?_cons,e']
    rw[zbr e,b];exact h2
   ·have e':¬q.1=k:=λz=>e (h1.trans z)
    have b:atKey (q::qs) k=atKey qs k:=by simp[atKey,find?_cons,e']
    rw[zbj e,b];exact ih
theorem KT.repl{H:Hp}{kvs:List (List Key × V)}{xs:List (List Key × Addr × Value)}(r:KT H kvs xs)(k:List Key){y:V}{u:Value}(ry:RelV y u):
  KT H (kvs.map λkv=>if kv.1=k then(kv.1,y)else kv) (xs.map (putAt k u)):=by
 induction r with
 | nil=>exact .nil
 | @cons p q ps qs h t ih=>
   rw[t3,t3]
   refine .cons ?_ ih
   obtain⟨h1,h2,h3⟩:=h
   unfold putAt
   by_cases e:p.1=k
   ·rw[if_pos e,if_pos (h1.symm.trans e)];exact⟨h1,h2,ry⟩
   ·rw[if_neg e,if_neg (λz=>e (h1.trans z))];exact⟨h1,h2,h3⟩
def KT.put{H:Hp}{kvs:List (List Key × V)}{xs:List (List Key × Addr × Value)}(r:KT H kvs xs)(k:List Key){b:Addr}{y:V}{u:Value}(hb:H b=some (.tup (k.map kV)))(ry:RelV y u):
    KT H (putK kvs k y) (storedH xs k b u):=by
 have e:(kvs.any λkv=>decide (kv.1=k))=(atKey xs k).isSome:=by
  rw[zfn,(r.val k).isSome_eq,Option.isSome_map]
 unfold putK storedH
 rw[e]
 by_cases q:(atKey xs k).isSome=true
 ·rw[if_pos q,if_pos q];exact r.repl k ry
 ·rw[if_neg q,if_neg q];exact Paired.snoc r ⟨rfl,hb,ry⟩
def KT.keeps{H H':Hp}{kvs:List (List Key × V)}{xs:List (List Key × Addr × Value)}(r:KT H kvs xs)(ht:∀b ys,H b=some (.tup ys)->H' b=some (.tup ys)):KT H' kvs xs:=
 Paired.mapP r λ_ _ z=>⟨z.1,ht _ _ z.2.1,z.2.2⟩
section
variable{P:Program}{w:World}{H:Hp}{h:Heap}{a:Addr}
def ztR{u:HO}(ok:HOk P w H h)(e:Rd H a u):zbf P w H h a u:=e.ok ok
def zjR{kvs:List (Key × V)}(ok:HOk P w H h)(e:Rd H a (.dK kvs)):kvs.length<=sizeLine/\(a==sysModules)=false/\∃vs,KV kvs vs/\h.DictOf (zaV P w) a vs:=
 show zbf P w H h a (.dK kvs)from ztR ok e
def zvt{kvs:List (Key × V)}(ok:HOk P w H h)(e:H a=some (.dK kvs)):kvs.length<=sizeLine/\(a==sysModules)=false/\∃vs,KV kvs vs/\h.DictOf (zaV P w) a vs:=zjR ok (.inl e)
def ziF{ks:List Key}(ok:HOk P w H h)(e:H a=some (.tup (ks.map kV))):(tupleKind (zaV P w)).is h ks a:=by
 obtain⟨_,its,r,o,h1,h2,n,h3⟩:=(show zbf P w H h a (.tup (ks.map kV))from ok a _ e)
 exact⟨o,its.toArray,n,h1,h2,h3,by simpa using zjQ r⟩
theorem aM{kvs:List (List Key × V)}(ok:HOk P w H h)(e:Rd H a (.dT kvs)):kvs.length<=sizeLine/\(a==sysModules)=false/\
  ∃xs,KT H kvs xs/\h.DictOfH (tupleKind (zaV P w)) a xs:=by
 obtain⟨z,y,xs,r,o,es,ep,h1,h2,h3,h4,h5⟩:=(show zbf P w H h a (.dT kvs)from ztR ok e)
 refine⟨z,y,xs,r,o,es,ep,h1,h2,h3,h4,λx hx=>?_,h5⟩
 have all:∀{l:List (List Key × V)}{m:List (List Key × Addr × Value)},KT H l m->∀x∈m,(tupleKind (zaV P w)).is h x.1 x.2.1:=by
  intro l m q
  induction q with
  | nil=>intro x hx;exact nomatch hx
  | @cons p q ps qs hq t ih=>
    intro x hx
    rcases mem_cons.mp hx with e | hx
    ·subst e
     exact ziF ok (by rw[<-hq.1];exact hq.2.1)
    ·exact ih x hx
 exact all r x hx
def zvu{kvs:List (List Key × V)}(ok:HOk P w H h)(e:H a=some (.dT kvs)):kvs.length<=sizeLine/\(a==sysModules)=false/\
    ∃xs,KT H kvs xs/\h.DictOfH (tupleKind (zaV P w)) a xs:=aM ok (.inl e)
end
def DGet(H:Hp)(a:Addr)(y:V)(r:Option V):Prop:=
 (∃kvs k,Rd H a (.dK kvs)/\y=kV k/\r=valV kvs k)\/∃kvs k b,Rd H a (.dT kvs)/\y=.ref b/\H b=some (.tup (k.map kV))/\r=valV kvs k
def DPut(H:Hp)(a:Addr)(y v:V)(H':Hp):Prop:=
 (∃kvs k,H a=some (.dK kvs)/\y=kV k/\kvs.length<sizeLine/\H'=upd H a (.dK (putK kvs k v))) \/
 ∃kvs k b,H a=some (.dT kvs)/\y=.ref b/\H b=some (.tup (k.map kV))/\kvs.length<sizeLine/\H'=upd H a (.dT (putK kvs k v))
def DGet.k{H:Hp}{a:Addr}{kvs:List (Key × V)}{k:Key}(e:H a=some (.dK kvs)):DGet H a (kV k) (valV kvs k):=.inl ⟨kvs,k,.inl e,rfl,rfl⟩
def DPut.k{H:Hp}{a:Addr}{kvs:List (Key × V)}{k:Key}{v:V}(e:H a=some (.dK kvs))(hl:kvs.length<sizeLine):DPut H a (kV k) v (upd H a (.dK (putK kvs k v))):=.inl ⟨kvs,k,e,rfl,hl,rfl⟩
section
variable{X:Cx}{ai:ae}{σ:St}{H:Hp}{s:Shared}{a:Addr}{y v:V}{u r:Value}{o:Option V}{A:Around}{E:ac}
def Inv.big(I:Inv X ai σ H s):sysModules<s.heap.objs.size:=by
 have h:mainGlobals<s.heap.objs.size:=(I.mod.glob.keeps I.bk).lt
 exact pj (by decide) h
def eR{Q:ac}(hu:A.units+1<cLine)(I:Inv X ai σ H s)(g:DGet H a y (some v))(ry:RelV y u)(h:∀w' s',Inv X ai σ H s'->RelV v w'->Q w' s'):
    wpAny (model X.prog X.w) A (getItem (.ref a) u) Q E s:=by
 rcases g with⟨kvs,k,e,ey,l⟩ | ⟨kvs,k,b,e,ey,eb,l⟩
 ·subst ey
  obtain⟨z,hd,vs,rel,dd⟩:=zjR I.hok e
  obtain⟨w',hw,rw'⟩:=RelO.some_of (v:=v) (o:=valueAt vs k) (by rw[l];exact rel.val k)
  exact wpAny_getItem_of (aU ry) dd.mapOf hw (h w' _ (I.tok _) rw')
 ·subst ey
  cases(show u=Value.ref b from ry)
  obtain⟨z,hd,xs,rel,dd⟩:=aM I.hok e
  obtain⟨w',hw,rw'⟩:=RelO.some_of (v:=v) (o:=(atKey xs k).map (·.2)) (by rw[l];exact rel.val k)
  obtain⟨p,hp,hp2⟩:=Option.map_eq_some_iff.mp hw
  refine wpAny_getItem_heap (rQ hu) (ziF I.hok eb) dd hp ?_
  rw[hp2]
  exact h w' _ (I.tok _) rw'
def d_in{Q:ac}(hu:A.units+1<cLine)(I:Inv X ai σ H s)(g:DGet H a y o)(ry:RelV y u)(h:∀s',Inv X ai σ H s'->Q (.bool o.isSome) s'):
    wpAny (model X.prog X.w) A (compareOp .In u (.ref a)) Q E s:=by
 rcases g with⟨kvs,k,e,ey,l⟩ | ⟨kvs,k,b,e,ey,eb,l⟩
 ·subst ey
  obtain⟨z,hd,vs,rel,dd⟩:=zjR I.hok e
  refine wpAny_in_of (aU ry) hd dd.mapOf ?_
  rw[<-(rel.val k).isSome_eq,<-l]
  exact h _ (I.tok _)
 ·subst ey
  cases(show u=Value.ref b from ry)
  obtain⟨z,hd,xs,rel,dd⟩:=aM I.hok e
  refine wpAny_in_heap (rQ hu) (ziF I.hok eb) hd dd ?_
  have q:=(rel.val k).isSome_eq
  rw[Option.isSome_map]at q
  rw[<-q,<-l]
  exact h _ (I.tok _)
def dS{h':Heap}{t':Nat}{ob:HO}(I:Inv X ai σ H s)(mu:Mut (H a))(hs:Heap.SameBut a s.heap h')(he:∃q,h'.get? a=some q)(new:zbf X.prog X.w (upd H a ob) h' a ob):
    Inv X ai σ (upd H a ob) { s with heap:=h',toks:=t' }:=
 I.write (x:=a) (e:=a) mu (.inl rfl) (λb q hb z=>(hs.2 b hb).trans z) he new
def zrB{P:Program}{w:World}{H':Hp}{h':Heap}{kvs:List (Key × V)}{vs:List (Key × Value)}(z:kvs.length<=sizeLine)(hd:(a==sysModules)=false)(rel:KV kvs vs)(dd:h'.DictOf (zaV P w) a vs):
    zbf P w H' h' a (.dK kvs):=⟨z,hd,vs,rel,dd⟩
def eU{H':Hp}{Q:aq}(hu:A.units+1<cLine)(I:Inv X ai σ H s)(g:DPut H a y v H')(ry:RelV y u)(rv:RelV v r)(h:∀s',Inv X ai σ H' s'->Q () s'):
    wpAny (model X.prog X.w) A (setItem (.ref a) u r) Q E s:=by
 rcases g with⟨kvs,k,e,ey,l,eH⟩ | ⟨kvs,k,b,e,ey,eb,l,eH⟩
 ·subst ey eH
  obtain⟨z,hd,vs,rel,dd⟩:=zvt I.hok e
  have hz:vs.length<=sizeLine:=by rw[<-rel.length];exact z
  have hl:(putK kvs k v).length<=sizeLine:=by have:=zhq kvs k v;omega
  refine wpAny_setItem_pairs (hsz:=hz) (aU ry) dd λh' dd' hs=>h _ ?_
  have he:∃q,h'.get? a=some q:=let ⟨q,_,_,hq,_⟩:=dd';⟨q,hq⟩
  exact dS I (by rw[e];exact True.intro) hs he (zrB hl hd (rel.put k rv) dd')
 ·subst ey eH
  cases(show u=Value.ref b from ry)
  obtain⟨z,hd,xs,rel,dd⟩:=zvu I.hok e
  have hz:xs.length<=sizeLine:=by rw[<-Paired.length rel];exact z
  have hl:(putK kvs k v).length<=sizeLine:=by have:=zhq kvs k v;omega
  refine wpAny_setItem_heap (hsz:=hz) (rQ hu) (ziF I.hok eb) dd λh' dd' hs=>h _ ?_
  obtain⟨q,es,ep,hq,h2,h3,h4,_,h5⟩:=dd'
  refine dS I (by rw[e];exact True.intro) hs ⟨q,hq⟩ ⟨hl,hd,_,(rel.put k eb rv).keeps λc ys ec=>?_,q,es,ep,hq,h2,h3,h4,h5⟩
  rw[zaw (zqm ec e (λz=>nomatch z))]
  exact ec
end
section
variable{X:Cx}{ai:ae}{σ:St}{H:Hp}{s:Shared}{a:Addr}{kvs:List (Key × V)}{k:Key}{u:Value}{A:Around}{E:ac}
end
def NoSl(i:Expr):Prop:=∀ov iv,subscripted i false ov iv=operate [ov,iv] (getItem ov iv)
theorem zsB{prog:Program}{w:World}{A:Around}{E:ac}{s:Shared}{env:Env}{value slice:Expr}{pos:Pos}{T id:String}{Q:ac}
  (hl:typeLookup (.type T) "__getitem__" = pure (some (.builtin id))) (hs:NoSl slice)
  (h:wpAny (model prog w) A (eval value env) (λo s₁=>wpAny (model prog w) A (eval slice env) (λi s₂=>s₂.TypeIs o T/\wpAny (model prog w) A (getItem o i) Q E s₂) E s₁) E s):
  wpAny (model prog w) A (eval (.Subscript value slice pos) env) Q E s:=by
 refine Subscript_ (sP h (λo s₁ h₁=>sP h₁ (λi s₂ h₂=>?_) λ_ _ x=>x) λ_ _ x=>x)
 obtain⟨hT,h₂⟩:=h₂
 unfold subscriptTail
 refine tD ?_
 rw[getitemInPython_of_ne hT.not_modules]
 refine tD (wpAny_specialOf hT hl ?_)
 have fin:wpAny (model prog w) A (subscripted slice false o i) (λr s₃=>wpAny (model prog w) A (letTemporaryGo value o r >>= λ_=>pure r) Q E s₃) E s₂:=by
  rw[hs o i]
  exact wpAny_operating (sP h₂ (λr s₃ h₃=>tD (wpAny_letTemporaryGo (tH h₃))) λ_ _ x=>x)
 first
  | exact tH (tD fin)
  | exact tD (tH (tD fin))
  | exact tD fin
def eV{X:Cx}{ai:ae}{σ:St}{H:Hp}{s:Shared}{a:Addr}{y:V}{o:Option V}(I:Inv X ai σ H s)(g:DGet H a y o):s.TypeIs (.ref a) "dict" := by
 rcases g with⟨kvs,k,e,_,_⟩ | ⟨kvs,k,b,e,_,_,_⟩
 ·obtain⟨_,_,vs,_,dd⟩:=zjR I.hok e
  exact dd.typeIs
 ·obtain⟨_,_,xs,_,dd⟩:=aM I.hok e
  exact dd.typeIs
def zvv(td ty:TE):TE:=λσ H Q=>td σ H λx H1=>ty σ H1 λy H2=>∃a v,x=.ref a/\DGet H2 a y (some v)/\Q v H2
def zvw(td ty tv:TE):TS:=λD σ H=>tv σ H λv H1=>td σ H1 λx H2=>ty σ H2 λy H3=>∃a H4,x=.ref a/\DPut H3 a y v H4/\D.nx σ H4
section
variable{X:Cx}{o i e value:Expr}{pos pos' tpos:Pos}{td ty tv:TE}
def zcT(hu:X.A.units+1<cLine)(ho:PE X o td)(hi:PE X i ty)(hs:NoSl i):PE X (.Subscript o i pos) (zvv td ty):=by
 with_unfolding_all
  intro ai s σ H Q I h
  refine zsB PySem.F.slot_dict_getitem.lookup hs (thn (ho ai s σ H _ I h) λu s1 ⟨x,H1,I1,rx,q1⟩=>thn (hi ai s1 σ H1 _ I1 q1) λiv s2 ⟨y,H2,I2,ry,a,v,ex,g,q2⟩=>?_)
  subst ex
  obtain rfl:u=Value.ref a:=rx
  exact⟨eV I2 g,eR hu I2 g ry λw' s3 I3 rw'=>⟨v,H2,I3,rw',q2⟩⟩
def zfS(hu:X.A.units+1<cLine)(ho:PE X o td)(hi:PE X i ty)(hv:PE X value tv)(hs:swapsWith value (some (.Subscript o i pos')) pos.line X.env=pure false):
    PS X (.Assign [.Subscript o i pos'] value pos) (zvw td ty tv):=by
 with_unfolding_all
  intro ai s σ H D I h
  refine wpAny_Assign_Subscript (thn (hv ai s σ H _ I h) λr s1 ⟨v,H1,I1,rv,q1⟩=>thn (ho ai s1 σ H1 _ I1 q1) λu s2 ⟨x,H2,I2,rx,q2⟩=>thn (hi ai s2 σ H2 _ I2 q2) λiv s3 ⟨y,H3,I3,ry,a,H4,ex,g,q3⟩=>?_) hs
  subst ex
  obtain rfl:u=Value.ref a:=rx
  exact eU hu I3 g ry rv λs4 I4=>⟨σ,H4,I4,q3⟩
end
def zqv{P:Program}{w:World}{H:Hp}(h:Heap)(hb:sysModules<h.objs.size):zbf P w H (h.push { cls:=.type "dict",data:=.dict #[] }) h.objs.size (.dK []):=
 ⟨tV _,beq_eq_false_iff_ne.mpr (Ne.symm (tM hb)),[],.nil,Heap.DictOf.new h⟩
def ztS:TE:=λ_ H Q=>∀p,H p=none->Q (.ref p) (upd H p (.dK []))
section
variable{X:Cx}{pos:Pos}
theorem zqw:PE X (.Dict [] [] pos) ztS:=by
 with_unfolding_all
  exact λai s σ H Q I h=>
   wpAny_Dict_empty ⟨.ref s.heap.objs.size,_,I.laid (a:=s.heap.objs.size) (o:=.dK []) (t':=s.toks) (λ_ _ q=>tz _ q) (tF _) (zqv s.heap I.big),rfl,h _ (I.hok.fresh (tF _))⟩
end
structure M1(X:Cx)(o:Expr)(m:Str)(apos:Pos)(e:Expr)(cpos:Pos):Prop where
 bj:attributeBase o m X.env (eval o X.env)=eval o X.env
 few:((backTo cpos (starEach [e] X.env)).all (λx => !x.1)&&(backToKw cpos (keywordEach [] X.env)).all (λx=>x.1.isSome)
  && decide (([e]:List Expr).length+([]:List Keyword).length+(if([]:List Keyword).isEmpty then 0 else 1)<30))=true
 line:(apos.endLine==cpos.line)=true
 trees:backTo cpos (starEach [e] X.env)=[(false,eval e X.env)]
structure M2(X:Cx)(o:Expr)(m:Str)(apos:Pos)(e f:Expr)(cpos:Pos):Prop where
 bj:attributeBase o m X.env (eval o X.env)=eval o X.env
 few:((backTo cpos (starEach [e,f] X.env)).all (λx => !x.1)&&(backToKw cpos (keywordEach [] X.env)).all (λx=>x.1.isSome)
  && decide (([e,f]:List Expr).length+([]:List Keyword).length+(if([]:List Keyword).isEmpty then 0 else 1)<30))=true
 line:(apos.endLine==cpos.line)=true
 trees:backTo cpos (starEach [e,f] X.env)=[(false,eval e X.env),(false,eval f X.env)]
def IsD(H:Hp)(a:Addr):Prop:=(∃kvs,Rd H a (.dK kvs))\/∃kvs,Rd H a (.dT kvs)
def zrC{X:Cx}{ai:ae}{σ:St}{H:Hp}{s:Shared}{a:Addr}(I:Inv X ai σ H s)(d:IsD H a):
    s.TypeIs (.ref a) "dict" /\ (∀b,Value.ref a=.ref b->∃ob,s.heap.get? b=some ob/\ob.dict=none)/\(a==sysModules)=false:=by
 rcases d with⟨kvs,e⟩ | ⟨kvs,e⟩
 ·obtain⟨_,hd,vs,_,dd⟩:=zjR I.hok e
  refine⟨dd.typeIs,λb q=>?_,hd⟩
  cases q
  obtain⟨ob,_,_,h1,h2,_⟩:=dd
  exact⟨ob,h1,h2.2.1⟩
 ·obtain⟨_,hd,xs,_,dd⟩:=aM I.hok e
  refine⟨dd.typeIs,λb q=>?_,hd⟩
  cases q
  obtain⟨ob,_,_,h1,h2,_⟩:=dd
  exact⟨ob,h1,h2.2.1⟩
section
variable{X:Cx}{ai:ae}{σ:St}{H:Hp}{s:Shared}{a:Addr}{y d:V}{u r:Value}{o:Option V}{A:Around}{E:ac}
def ztT{Q:ac}(hu:A.units+1<cLine)(I:Inv X ai σ H s)(g:DGet H a y o)(ry:RelV y u)(h:∀w' s',Inv X ai σ H s'->RelV (o.getD .non) w'->Q w' s'):
    wpAny (model X.prog X.w) A (call (.builtin "dict.get") [.ref a,u]) Q E s:=by
 rcases g with⟨kvs,k,e,ey,l⟩ | ⟨kvs,k,b,e,ey,eb,l⟩
 ·subst ey
  obtain⟨z,hd,vs,rel,dd⟩:=zjR I.hok e
  refine pT sO dd.typeIs rO (PySem.F.args_dict_get_2 _ _) (meets_dict_get (zaV X.prog X.w) a (aU ry) hd) ⟨_,dd.mapOf,h _ _ (I.tok _) ?_⟩
  rw[l]
  exact(rel.val k).getD rfl
 ·subst ey
  cases(show u=Value.ref b from ry)
  obtain⟨z,hd,xs,rel,dd⟩:=aM I.hok e
  refine pT sO dd.typeIs rO (PySem.F.args_dict_get_2 _ _) (meetsH_dict_get (tupleKind (zaV X.prog X.w)) a b hd) ⟨rQ hu,k,xs,ziF I.hok eb,dd,h _ _ (I.tok _) ?_⟩
  rw[l]
  exact(rel.val k).getD rfl
def ztU{Q:ac}(hu:A.units+1<cLine)(I:Inv X ai σ H s)(g:DGet H a y o)(ry:RelV y u)(rd:RelV d r)(h:∀w' s',Inv X ai σ H s'->RelV (o.getD d) w'->Q w' s'):
    wpAny (model X.prog X.w) A (call (.builtin "dict.get") [.ref a,u,r]) Q E s:=by
 rcases g with⟨kvs,k,e,ey,l⟩ | ⟨kvs,k,b,e,ey,eb,l⟩
 ·subst ey
  obtain⟨z,hd,vs,rel,dd⟩:=zjR I.hok e
  refine pT sO dd.typeIs rO (PySem.F.args_dict_get_3 _ _ _) (meets_dict_get_default (zaV X.prog X.w) a (aU ry) hd r) ⟨_,dd.mapOf,h _ _ (I.tok _) ?_⟩
  rw[l]
  exact(rel.val k).getD rd
 ·subst ey
  cases(show u=Value.ref b from ry)
  obtain⟨z,hd,xs,rel,dd⟩:=aM I.hok e
  refine pT sO dd.typeIs rO (PySem.F.args_dict_get_3 _ _ _) (meetsH_dict_get_default (tupleKind (zaV X.prog X.w)) a b hd r) ⟨rQ hu,k,xs,ziF I.hok eb,dd,h _ _ (I.tok _) ?_⟩
  rw[l]
  exact(rel.val k).getD rd
end
def ztV(td ty:TE):TE:=λσ H Q=>td σ H λx H1=>∃a,x=.ref a/\IsD H1 a/\ty σ H1 λy H2=>∃o,DGet H2 a y o/\Q (o.getD .non) H2
def ztW(td ty tx:TE):TE:=λσ H Q=>td σ H λx H1=>∃a,x=.ref a/\IsD H1 a/\ty σ H1 λy H2=>tx σ H2 λz H3=>∃o,DGet H3 a y o/\Q (o.getD z) H3
section
variable{X:Cx}{o e f:Expr}{apos cpos:Pos}{td ty tx:TE}
def zqx(hu:X.A.units+1<cLine)(ho:PE X o td)(he:PE X e ty)(m:M1 X o "get" apos e cpos):PE X (.Call (.Attribute o "get" apos) [e] [] cpos) (ztV td ty):=by
 with_unfolding_all
  intro ai s σ H Q I h
  refine wpAny_Call_method m.bj m.few m.line PySem.F.plainAttrs_dict sO PySem.F.type_dict_get (thn (ho ai s σ H _ I h) λu s1 ⟨x,H1,I1,rx,a,ex,d,q1⟩=>?_)
  subst ex
  obtain rfl:u=Value.ref a:=rx
  obtain⟨t1,t2,_⟩:=zrC I1 d
  refine⟨t1,t2,?_⟩
  rw[m.trees]
  refine qA rfl (qP (rP (thn (he ai s1 σ H1 _ I1 q1) λiv s2 ⟨y,H2,I2,ry,ov,g,q2⟩=>qB ?_)))
  exact ztT hu I2 g ry λw' s3 I3 rw'=>⟨_,H2,I3,rw',q2⟩
def zmb(hu:X.A.units+1<cLine)(ho:PE X o td)(he:PE X e ty)(hf:PE X f tx)(m:M2 X o "get" apos e f cpos):PE X (.Call (.Attribute o "get" apos) [e,f] [] cpos) (ztW td ty tx):=by
 with_unfolding_all
  intro ai s σ H Q I h
  refine wpAny_Call_method m.bj m.few m.line PySem.F.plainAttrs_dict sO PySem.F.type_dict_get (thn (ho ai s σ H _ I h) λu s1 ⟨x,H1,I1,rx,a,ex,d,q1⟩=>?_)
  subst ex
  obtain rfl:u=Value.ref a:=rx
  obtain⟨t1,t2,_⟩:=zrC I1 d
  refine⟨t1,t2,?_⟩
  rw[m.trees]
  refine qA rfl (qP (rP (thn (he ai s1 σ H1 _ I1 q1) λiv s2 ⟨y,H2,I2,ry,q2⟩=>
   rP (thn (hf ai s2 σ H2 _ I2 q2) λfv s3 ⟨z,H3,I3,rz,ov,g,q3⟩=>qB ?_))))
  exact ztU hu I3 g ry rz λw' s4 I4 rw'=>⟨_,H3,I4,rw',q3⟩
end
section
variable{X:Cx}{ai:ae}{σ:St}{H:Hp}{s:Shared}{a:Addr}{kvs:List (Key × V)}{A:Around}{E:ac}
end
section
variable{X:Cx}{ai:ae}{σ:St}{H:Hp}{s:Shared}{a:Addr}{y:V}{u:Value}{A:Around}{E:ac}
end
end L2
namespace HT
open PySem PyProof.Rows
def lexLt:List Int->List Int->Bool
 | [],[]=>false
 | [],_::_=>true
 | _::_,[]=>false
 | x::xs,y::ys=>if x=y then lexLt xs ys else decide (x<y)
def lexLt_cons(x y:Int)(xs ys:List Int):lexLt (x::xs) (y::ys)=if x=y then lexLt xs ys else decide (x<y):=rfl
def lexLt_nil_nil:lexLt [] []=false:=rfl
def zij(y:Int)(ys:List Int):lexLt [] (y::ys)=true:=rfl
def zik(x:Int)(xs:List Int):lexLt (x::xs) []=false:=rfl
def zqy(A:Around)(s:Shared)(a:Int)(t:Tok)(c:Int)(u:Tok):∃e,SeqAt.EqAt A s (.int a t) (.int c u) e/\(e=true↔a=c):=
 ⟨(a==c),SeqAt.EqAt.int_int a t c u,by simp⟩
def zqz(A:Around)(s:Shared)(a:Int)(t:Tok)(c:Int)(u:Tok)(prog:Program)(w:World)(E:ac)(Q:ac)(h:Q (.bool (decide (a<c))) s):
    wpAny (model prog w) A (richCompare .Lt (.int a t) (.int c u)) Q E s:=
 (PyProof.Rows.lt_int h:wpAny (model prog w) A (compareOp .Lt (.int a t) (.int c u)) Q E s)
section
open PySem.SeqAt
open PySem.AutoSeq1 (wpAny_loadPart')
open PySem.MeetsSeq PySem.MeetsSeq2 PySem.MeetsSeq3
def eW(l b:Addr)(items items2:Array Value)(n n2:Nat)(dd dd2:ak)(sl sl2:ap)(ns ms:List Int)(hi:IntsAre items.toList ns)(hj:IntsAre items2.toList ms):
    Meets (Builtin.«tuple.__lt__» ⟨[.ref l,.ref b],[]⟩)
     (λ_ R s=>s.heap.get? l=some { cls:=.type "tuple",dict:=dd,data:=.seq items n,slots:=sl }/\s.heap.get? b=some { cls:=.type "tuple",dict:=dd2,data:=.seq items2 n2,slots:=sl2 }/\
       R (.ok (.ret (.bool (lexLt ns ms)))) s):=
 .of_wp λprog w A R s h=>by
  obtain⟨hp,g,d,tk,os⟩:=s;obtain⟨hl,hb,h⟩:=h
  have f2:=AutoSeq1.sub_tuple_tuple
  have z1:items.size=ns.length:=by rw[<-hi.length];simp
  have z2:items2.size=ms.length:=by rw[<-hj.length];simp
  wp_walk using qX hl,qX hb,wpAny_forIn_list _ (λrest b s'=>b.1=none/\s'=⟨hp,g,d,tk,os⟩/\∃(vs ws:aj)(ns' ms':List Int),rest=vs.zip ws/\
   IntsAre vs ns'/\IntsAre ws ms'/\ns'.length+items2.size=ms'.length+items.size/\R (.ok (.ret (.bool (lexLt ns' ms')))) ⟨hp,g,d,tk,os⟩) _
  case turn=>
   rintro⟨y,x⟩ rest b s' ⟨hb',rfl,vs,ws,ns',ms',hz,hvi,hwi,hlen,hR⟩
   cases hvi with
   | nil=>rw[List.zip_nil_left]at hz;cases hz
   | cons a t hvi'=>
     cases hwi with
     | nil=>rw[List.zip_nil_right]at hz;cases hz
     | cons c u hwi'=>
       rw[List.zip_cons_cons]at hz
       injection hz with hyx hrest
       injection hyx with hy hx
       subst hy hx
       rw[lexLt_cons]at hR
       simp only[length_cons]at hlen
       obtain⟨e,he,hiff⟩:=zqy A.in1 ⟨hp,g,d,tk,os⟩ a t c u
       refine tD (he prog w _ _ ?_)
       cases e with
       | true=>
         rw[if_pos (hiff.mp rfl)]at hR
         wp_walk
         exact⟨rfl,rfl,_,_,_,_,hrest,hvi',hwi',by omega,hR⟩
       | false=>
         rw[if_neg (λq=>absurd (hiff.mpr q) tG)]at hR
         have hri:=zqz A.in1 ⟨hp,g,d,tk,os⟩ a t c u prog w
         wp_walk using hri
         exact⟨_,rfl,by simpa using hR⟩
  case fin=>
   rintro⟨b1,b2⟩ s' ⟨hb',rfl,vs,ws,ns',ms',hz,hvi,hwi,hlen,hR⟩
   simp only at hb'
   subst hb'
   have hv:lexLt ns' ms'=decide (items.size<items2.size):=by
    cases hvi with
    | nil=>
      cases hwi with
      | nil=>
        simp only[length_nil]at hlen
        rw[lexLt_nil_nil]
        exact(tS (by omega)).symm
      | cons c u hw=>
        simp only[length_nil,length_cons]at hlen
        rw[zij]
        exact(decide_eq_true (by omega)).symm
    | cons a t hv=>
      cases hwi with
      | nil=>
        simp only[length_nil,length_cons]at hlen
        rw[zik]
        exact(tS (by omega)).symm
      | cons c u hw=>
        rw[List.zip_cons_cons]at hz
        cases hz
   rw[hv]at hR
   wp_walk
   exact⟨_,rfl,by simpa[Builtin.Tuple.tupleCompareSizes]using hR⟩
  case h=>
   exact⟨rfl,rfl,items.toList,items2.toList,ns,ms,rfl,hi,hj,by omega,h⟩
end
section
variable{prog:Program}{w:World}{A:Around}{E:ac}{s:Shared}
def lt_tupInts{l b:Addr}{items items2:Array Value}{ns ms:List Int}{Q:ac}(hl:IsTup s.heap l items)(hb:IsTup s.heap b items2)(hi:IntsAre items.toList ns)(hj:IntsAre items2.toList ms)
    (hu:A.units<cLine) (h:Q (.bool (lexLt ns ms)) s):wpAny (model prog w) A (compareOp .Lt (.ref l) (.ref b)) Q E s:=by
 obtain⟨⟨cls,dd,data,sl⟩,ho,hc,n,hd⟩:=id hl
 obtain⟨⟨cls2,dd2,data2,sl2⟩,ho2,hc2,n2,hd2⟩:=id hb
 simp only at hc hd hc2 hd2
 subst hc hd hc2 hd2
 exact richCompare_meets_room (op := .Lt) ⟨_,ho,rfl⟩ ⟨_,ho2,rfl⟩ PySem.F.slot_tuple_lt PySem.F.entry_tuple_lt (PySem.F.args_tuple_lt_2 _ _) (eW l b items items2 n n2 dd dd2 sl sl2 ns ms hi hj)
  ⟨ho,ho2,show Value.bool (lexLt ns ms)≠Value.notImplemented/\Q (.bool (lexLt ns ms)) s from⟨(λx=>nomatch x),h⟩⟩ hu
def sIx(n d:Nat):Option Int->Nat
 | none=>d
 | some v=>if v<0 then(v+(n:Int)).toNat else min v.toNat n
def sIx_none(n d:Nat):sIx n d none=d:=rfl
def sIx_nat(n d k:Nat):sIx n d (some (k:Int))=min k n:=by
 show(if(k:Int)<0 then((k:Int)+(n:Int)).toNat else min (k:Int).toNat n)=min k n
 rw[if_neg (by omega),qC]
theorem ztX(n d:Nat)(hd:d<=n)(o:Option Int):sIx n d o<=n:=by
 cases o with
 | none=>exact hd
 | some v=>
   show(if v<0 then(v+(n:Int)).toNat else min v.toNat n)<=n
   by_cases hv:v<0
   ·rw[if_pos hv];omega
   ·rw[if_neg hv];exact Nat.min_le_right _ _
def zoa(v:Int)(n d:Nat):(if v<0 then max (v+(n:Int)) 0 else min v (n:Int))=((sIx n d (some v):Nat):Int):=by
 show(if v<0 then max (v+(n:Int)) 0 else min v (n:Int))=(((if v<0 then(v+(n:Int)).toNat else min v.toNat n):Nat):Int)
 by_cases hv:v<0
 ·simp only[if_pos hv];omega
 ·simp only[if_neg hv];omega
theorem eX(lo hi:Option Int)(n:Nat):Builtin.Slice.sliceAdjust lo hi 1 (n:Int)=(((sIx n 0 lo:Nat):Int),((sIx n n hi:Nat):Int)):=by
 have h1:¬((1:Int)<0):=by omega
 unfold Builtin.Slice.sliceAdjust
 simp only[h1,if_false]
 refine Prod.ext ?_ ?_
 ·cases lo with
  | none=>rfl
  | some v=>exact zoa v n 0
 ·cases hi with
  | none=>rfl
  | some v=>exact zoa v n n
def eY(i j:Nat):Builtin.Slice.slicePlaces (i:Int) (j:Int) 1=j-i:=by
 unfold Builtin.Slice.slicePlaces
 have h1:(1:Int) > 0:=by omega
 simp only[h1,if_true,Int.ediv_one]
 split<;>omega
theorem ziG{v:Value}{o:Option Int}{Q:Option Int->Shared->Prop}(p:IsPart v o)(h:Q o s):wpAny (model prog w) A (Builtin.Slice.slicePartIndex v) Q E s:=by
 cases p with
 | none=>exact slicePart_none h
 | int i t=>exact slicePart_int h
def zgW{sl:Addr}{vl vu:Value}{lo hi:Option Int}{n:Nat}{Q:Int × Int × Nat->Shared->Prop}(hs:s.heap.IsSliceOf sl vl vu .none)(pl:IsPart vl lo)(pu:IsPart vu hi)
    (h:Q (((sIx n 0 lo:Nat):Int),1,sIx n n hi-sIx n 0 lo) s):wpAny (model prog w) A (Builtin.Slice.sliceApplied (.ref sl) (pure (n:Int))) Q E s:=by
 obtain⟨os,hos,hcs,hds⟩:=id hs
 unfold Builtin.Slice.sliceApplied Builtin.Slice.sliceFields
 refine tD (tD (wpAny_field hos hds (x:=vl) rfl (tD (wpAny_field hos hds (x:=vu) rfl (tD (wpAny_field hos hds (x:=.none) rfl (tH ?_)))))))
 refine tD (slicePart_none ?_)
 show wpAny _ _ (if((1:Int)==0)=true then _ else _) _ _ s
 rw[if_neg (by decide)]
 refine tD (ziG pl (tD (ziG pu (tD (tH ?_)))))
 show wpAny _ _ (match Builtin.Slice.sliceAdjust lo hi 1 (n:Int)with | (lo,hi)=>pure (lo,(1:Int),Builtin.Slice.slicePlaces lo hi 1)) _ _ s
 rw[eX lo hi n]
 show wpAny _ _ (pure (((sIx n 0 lo:Nat):Int),(1:Int),Builtin.Slice.slicePlaces ((sIx n 0 lo:Nat):Int) ((sIx n n hi:Nat):Int) 1)) _ _ s
 rw[eY]
 exact tH h
def zqA(xs:Array Value)(i k:Nat):((List.range k).filterMap λ(m:Nat)=>xs[((i:Int)+(m:Int)*1).toNat]?).toArray=((xs.toList.drop i).take k).toArray:=by
 have e:(λ(m:Nat)=>xs[((i:Int)+(m:Int)*1).toNat]?)=λm=>xs[i+m]?:=by
  funext m
  have:((i:Int)+(m:Int)*1).toNat=i+m:=by omega
  rw[this]
 rw[e]
 have:=pick_run xs i k
 rw[List.filterMap_map]at this
 have e2:((λx=>xs[x]?) ∘ λx=>i+x)=λm=>xs[i+m]?:=rfl
 rw[e2]at this
 rw[this]
theorem getItem_tuple_cut{t sl:Addr}{items:Array Value}{vl vu:Value}{lo hi:Option Int}{Q:ac}(ht:IsTup s.heap t items)(hs:s.heap.IsSliceOf sl vl vu .none)(pl:IsPart vl lo)(pu:IsPart vu hi)
  (hw:¬(sIx items.size 0 lo=0/\sIx items.size items.size hi=items.size))
  (h:Q (.ref s.heap.objs.size) { s with heap:=s.heap.push { cls:=.type "tuple",data:=.seq ((items.toList.drop (sIx items.size 0 lo)).take (sIx items.size items.size hi-sIx items.size 0 lo)).toArray } })
  (hsz:items.size<=sizeLine):wpAny (model prog w) A (getItem (.ref t) (.ref sl)) Q E s:=by
 have htake:sizeOk (.seq ((items.toList.drop (sIx items.size 0 lo)).take (sIx items.size items.size hi-sIx items.size 0 lo)).toArray):=by
  show((items.toList.drop (sIx items.size 0 lo)).take (sIx items.size items.size hi-sIx items.size 0 lo)).toArray.size<=sizeLine
  rw[size_toArray,sj,qD,Array.length_toList]
  omega
 have hj:sIx items.size items.size hi<=items.size:=ztX _ _ (tF _) hi
 obtain⟨os,hos,hcs,hds⟩:=id hs
 have hTs:s.TypeIs (.ref sl) "slice" := ⟨os,hos,hcs⟩
 unfold getItem
 try with_reducible refine t7 ?_
 first | refine tD (tH ?_) | skip
 refine tD (wpAny_sequenceKey ht.typeIs (by decide) ?_)
 refine tD (wpAny_callSpecial?_slot (name:=Str.ofString "__getitem__") ht.typeIs qE
  (wpAny_call_entry qE ht.typeIs entry_tuple_getitem ?_ (args_tuple_getitem _ _)))
 show wpAny _ _ (Builtin.Tuple.tupleItemsOf (.ref t) >>= _) _ _ s
 refine tD (tupleItemsOf_ ht ?_)
 refine tD (wpAny_typeOf hTs ?_)
 rw[if_pos (by decide)]
 refine tD (zgW hs pl pu ?_)
 have hno:¬((((sIx items.size 0 lo:Nat):Int)==0&&(1:Int)==1&&(sIx items.size items.size hi-sIx items.size 0 lo)==items.size)=true):=by
  intro q
  rw[Bool.and_eq_true,Bool.and_eq_true]at q
  have q1:((sIx items.size 0 lo:Nat):Int)=0:=eq_of_beq q.1.1
  have q2:sIx items.size items.size hi-sIx items.size 0 lo=items.size:=eq_of_beq q.2
  exact hw ⟨by omega,by omega⟩
 show wpAny _ _ (if(((sIx items.size 0 lo:Nat):Int)==0&&(1:Int)==1&&(sIx items.size items.size hi-sIx items.size 0 lo)==items.size)=true then _ else _) _ _ s
 rw[if_neg hno,zqA]
 first
  | exact tD (m:=Builtin.Tuple.tupleExact _) (rF (tH ⟨_,rfl,tH h⟩) htake)
  | exact tD (m:=Builtin.Tuple.tupleExact _) (rF (tD (tH (tH ⟨_,rfl,tH h⟩))) htake)
  | exact tD (tD (m:=Builtin.Tuple.tupleExact _) (rF (tH (tH ⟨_,rfl,tH h⟩)) htake))
  | exact tD (tD (m:=Builtin.Tuple.tupleExact _) (rF (tH ⟨_,rfl,tH h⟩) htake))
end
end HT
namespace L2
open PySem PySem.Spec PyProof.Rows
abbrev TO:=St->Hp->(Option Int->Hp->Prop)->Prop
def PO(X:Cx)(e:Option Expr)(t:TO):Prop:=
 ∀(ai:ae)(s:Shared)(σ:St)(H:Hp)(Q:Option Int->Hp->Prop),Inv X ai σ H s->t σ H Q->
  wpAny (model X.prog X.w) X.A (evalPart e X.env) (λu s'=>∃o H',Inv X ai σ H' s'/\IsPart u o/\Q o H') X.xe s
def zsC:TO:=λ_ H Q=>Q none H
def zvx(t:TE):TO:=λσ H Q=>t σ H λx H1=>∃i,x=.int i/\Q (some i) H1
theorem zea{ns:List Int}:∀{us:aj},Vals (ns.map V.int) us->IntsAre us ns:=by
 induction ns with
 | nil=>intro us r;rw[map_nil]at r;cases r;exact .nil
 | cons n ns ih=>
   intro us r
   rw[t3]at r
   cases r with
   | cons r1 r2=>
     obtain⟨t,e⟩:=r1
     subst e
     exact .cons n t (ih r2)
section
variable{X:Cx}{e:Expr}{te:TE}{lo hi:Option Expr}{tl th:TO}{pos p2:Pos}
def zdJ:PO X none zsC:=by
 intro ai s σ H Q I h
 rw[evalPart_none]
 exact tH ⟨none,H,I,.none,h⟩
def zcU(h:PE X e te):PO X (some e) (zvx te):=by
 with_unfolding_all
  intro ai s σ H Q I hw
  rw[evalPart_some]
  refine thn (h ai s σ H _ I hw) λu s1 ⟨x,H1,I1,r1,q1⟩=>?_
  obtain⟨i,rfl,q⟩:=q1
  obtain⟨t,rfl⟩:=r1
  exact⟨some i,H1,I1,.int i t,q⟩
def SlR(X:Cx)(r:V->Option Int->Option Int->Hp->VK->Prop):Prop:=
 ∀(ai:ae)(s:Shared)(σ:St)(H:Hp)(x:V)(v vl vu:Value)(lo hi:Option Int)(sl:Addr)(Q:VK),Inv X ai σ H s->RelV x v->s.heap.IsSliceOf sl vl vu .none->IsPart vl lo->IsPart vu hi->r x lo hi H Q->
  ∃T id,typeLookup (.type T) "__getitem__" = pure (some (.builtin id))/\s.TypeIs v T/\wpAny (model X.prog X.w) X.A (getItem v (.ref sl)) (EP X ai σ Q) X.xe s
def tSl(r:V->Option Int->Option Int->Hp->VK->Prop)(te:TE)(tl th:TO):TE:=λσ H Q=>te σ H λx H1=>tl σ H1 λl H2=>th σ H2 λu H3=>r x l u H3 Q
def zco{r:V->Option Int->Option Int->Hp->VK->Prop}(hr:SlR X r)(he:PE X e te)(hl:PO X lo tl)(hu:PO X hi th):PE X (.Subscript e (.Slice lo hi none p2) pos) (tSl r te tl th):=by
 with_unfolding_all
  intro ai s σ H Q I h
  refine Subscript_ (thn (he ai s σ H _ I h) λv s1 ⟨x,H1,I1,r1,q1⟩=>?_)
  refine wpAny_Slice (thn (hl ai s1 σ H1 _ I1 q1) λvl s2 ⟨l,H2,I2,pl,q2⟩=>thn (hu ai s2 σ H2 _ I2 q2) λvu s3 ⟨u,H3,I3,pu,q3⟩=>?_)
  rw[evalPart_none]
  refine tH ?_
  have I4:Inv X ai σ H3 { s3 with heap:=s3.heap.push { cls:=.type "slice",data:=.fields #[vl,vu,.none] } }:=I3.kept (t':=s3.toks) λb ob q=>tz _ q
  obtain⟨T,id,hT,ht,hg⟩:=hr ai { s3 with heap:=s3.heap.push { cls:=.type "slice",data:=.fields #[vl,vu,.none] } } σ H3 x v vl vu l u s3.heap.objs.size Q I4 r1 (Heap.IsSliceOf.new ..) pl pu q3
  show wpAny (model X.prog X.w) X.A (subscriptTail e (.Slice lo hi none p2) v (.ref s3.heap.objs.size)) (EP X ai σ Q) X.xe { s3 with heap:=s3.heap.push { cls:=.type "slice",data:=.fields #[vl,vu,.none] } }
  exact tail_any (ops:=[.ref s3.heap.objs.size,v]) ht hT hg (by with_unfolding_all rfl)
def cutV(xs:List V)(lo hi:Option Int):List V:=(xs.drop (HT.sIx xs.length 0 lo)).take (HT.sIx xs.length xs.length hi-HT.sIx xs.length 0 lo)
def zhr(xs:List V)(lo hi:Option Int):(cutV xs lo hi).length<=xs.length:=by
 unfold cutV
 rw[sj,qD]
 omega
def rSlT(K:am):V->Option Int->Option Int->Hp->VK->Prop:=λx lo hi H Q=>∃a xs,x=.ref a/\SqT K H a xs/\
 ¬(HT.sIx xs.length 0 lo=0/\HT.sIx xs.length xs.length hi=xs.length)/\∀p,H p=none->Q (.ref p) (upd H p (.tup (cutV xs lo hi)))
def ztY:SlR X (rSlT X.K):=by
 intro ai s σ H x v vl vu lo hi sl Q I rx hs pl pu h
 obtain⟨a,xs,rfl,hx,hw,q⟩:=h
 cases rx
 obtain⟨its,r,ht,hz⟩:=I.tuple hx
 have hlen:its.toArray.size=xs.length:=by rw[size_toArray];exact r.length.symm
 refine⟨"tuple",_,PyProof.Rows.slot_tuple_getitem.lookup,ht.typeIs,?_⟩
 refine HT.getItem_tuple_cut ht hs pl pu (by rw[hlen];exact hw) ?_ (by rw[hlen];exact hz)
 rw[hlen]
 refine⟨.ref s.heap.objs.size,_,I.laid (t':=s.toks) (o:=.tup (cutV xs lo hi)) (λb ob q=>tz _ q) (tF _) ?_,rfl,q _ (I.hok.fresh (tF _))⟩
 exact⟨tU (zhr xs lo hi) hz,_,(r.drop (HT.sIx xs.length 0 lo)).take (HT.sIx xs.length xs.length hi-HT.sIx xs.length 0 lo),IsTup.new _ _⟩
def rLtT(K:am):R2:=λx y H Q=>∃a b ns ms,x=.ref a/\y=.ref b/\SqT K H a (ns.map V.int)/\SqT K H b (ms.map V.int)/\Q (.bl (HT.lexLt ns ms)) H
def zrD(hu:X.A.units<cLine):OpR X (compareOp .Lt) (rLtT X.K):=by
 intro ai s σ H x y v u Q I rx ry h
 obtain⟨a,b,ns,ms,rfl,rfl,ha,hb,q⟩:=h
 cases rx
 cases ry
 obtain⟨its,r1,p1,_⟩:=I.tuple ha
 obtain⟨its2,r2,p2,_⟩:=I.tuple hb
 have i1:IntsAre its.toArray.toList ns:=zea r1
 have i2:IntsAre its2.toArray.toList ms:=zea r2
 exact HT.lt_tupInts p1 p2 i1 i2 hu ⟨.bl (HT.lexLt ns ms),H,I,rfl,q⟩
end
def ixN(n:Nat)(i:Int):Option Nat:=if 0<=i then(if i<n then some i.toNat else none)else if -(n:Int)<=i then some (i+n).toNat else none
def atI{α:Type}(xs:List α)(i:Int):Option α:=(ixN xs.length i).bind λj=>xs[j]?
def zob{n:Nat}{i:Int}{j:Nat}(h:ixN n i=some j):seqIndex? i n=some j/\j<n /\ -(n:Int)<=i/\i<n:=by
 unfold ixN at h
 by_cases h0:0<=i
 ·rw[if_pos h0]at h
  by_cases h1:i<n
  ·rw[if_pos h1]at h
   have e:i.toNat=j:=tL h
   exact⟨by rw[seqIndex_of h0 h1,e],by omega,by omega,h1⟩
  ·rw[if_neg h1]at h;cases h
 ·rw[if_neg h0]at h
  by_cases h1 : -(n:Int)<=i
  ·rw[if_pos h1]at h
   have e:(i+n).toNat=j:=tL h
   exact⟨by rw[seqIndex_neg (by omega) h1,e],by omega,h1,by omega⟩
  ·rw[if_neg h1]at h;cases h
theorem zoc{α:Type}{xs:List α}{i:Int}{v : α}(h:atI xs i=some v):∃j,seqIndex? i xs.length=some j/\xs[j]?=some v/\j<xs.length /\ -(xs.length:Int)<=i/\i<xs.length:=by
 unfold atI at h
 cases e:ixN xs.length i with
 | none=>rw[e]at h;cases h
 | some j=>
   rw[e]at h
   obtain⟨h1,h2,h3,h4⟩:=zob e
   exact⟨j,h1,h,h2,h3,h4⟩
def zhs{α:Type}{xs:List α}{j:Nat}{v : α}(h:xs[j]?=some v):atI xs (j:Int)=some v:=by
 have hj:j<xs.length:=(List.getElem?_eq_some_iff.mp h).1
 have e:ixN xs.length (j:Int)=some j:=by
  unfold ixN
  rw[if_pos (by omega),if_pos (by omega)];simp
 unfold atI;rw[e];exact h
def zsD(b:Expr):Prop:=∀o i,subscripted b false o i=operate [o,i] (getItem o i)
def IxR(X:Cx)(r:R2):Prop:=
 ∀(value slice:Expr)(ai:ae)(s:Shared)(σ:St)(H:Hp)(x y:V)(v u:Value)(Q:VK),Inv X ai σ H s->RelV x v->RelV y u->r x y H Q->
  subscripted slice false v u=operate [v,u] (getItem v u)->wpAny (model X.prog X.w) X.A (subscriptTail value slice v u) (EP X ai σ Q) X.xe s
def MtR(X:Cx)(id:String)(r:V->List V->Hp->VK->Prop):Prop:=
 ∀(ai:ae)(s:Shared)(σ:St)(H:Hp)(x:V)(xs:List V)(v:Value)(us:aj)(Q:VK),Inv X ai σ H s->RelV x v->Vals xs us->r x xs H Q->
  wpAny (model X.prog X.w) X.A (call (.builtin id) (v::us)) (EP X ai σ Q) X.xe s
section
variable{X:Cx}{a b:Expr}{ta tb:TE}{pos:Pos}
def zak{r:R2}(hr:IxR X r)(ha:PE X a ta)(hb:PE X b tb)(hs:zsD b):PE X (.Subscript a b pos) (tOp r ta tb):=by
 with_unfolding_all
  intro ai s σ H Q I h
  exact Subscript_ (binT ha hb I h λv u s2 x y H2 I2 rx ry q=>hr a b ai s2 σ H2 x y v u Q I2 rx ry q (hs _ _))
inductive EIxL(K:am)(x y:V)(H:Hp)(Q:VK):Prop
 | mk (p:Addr) (xs:List V) (i:Int) (v:V) (hx:x=.ref p) (hy:y=.int i) (s:SqL K H p xs) (h:atI xs i=some v) (q:Q v H):EIxL K x y H Q
def rIxL(K:am):R2:=EIxL K
inductive EIxT(K:am)(x y:V)(H:Hp)(Q:VK):Prop
 | mk (p:Addr) (xs:List V) (i:Int) (v:V) (hx:x=.ref p) (hy:y=.int i) (s:SqT K H p xs) (h:atI xs i=some v) (q:Q v H):EIxT K x y H Q
def rIxT(K:am):R2:=EIxT K
def zbc:IxR X (rIxL X.K):=by
 intro value slice ai s σ H x y v u Q I rx ry h hs
 obtain⟨p,xs,i,z,rfl,rfl,hq,he,q⟩:=h
 cases rx
 obtain⟨t,rfl⟩:=ry
 obtain⟨its,r,pl,hz⟩:=I.list hq
 obtain⟨j,h1,h2,h3,h4,h5⟩:=zoc he
 obtain⟨w,ew,rw'⟩:=r.get h2
 have hl:=r.length
 have hn:=zjJ
 have fin:EP X ai σ Q w s:=⟨z,H,I,rw',q⟩
 by_cases h0:0<=i
 ·have hj:i.toNat=j:=by
   rw[seqIndex_of h0 h5]at h1
   exact tL h1
  exact item_listR pl.isList h0 (by omega) (by rw[hj];simpa using ew) fin hs
 ·have hj:(i+(its.toArray.size:Int)).toNat=j:=by
   rw[seqIndex_neg (by omega) h4]at h1
   rw[size_toArray,<-hl]
   exact tL h1
  exact subscriptTail_builtinR (x:=w) pl.isList.typeIs slot_list_getitem.lookup
   (wpAny_getItem_list_neg (Q:=λr s'=>r=w/\EP X ai σ Q r s') pl.isList (by omega) (by rw[size_toArray]<;>omega) (by omega) (by rw[hj];simpa using ew) ⟨rfl,fin⟩) hs
def zah:IxR X (rIxT X.K):=by
 intro value slice ai s σ H x y v u Q I rx ry h hs
 obtain⟨p,xs,i,z,rfl,rfl,hq,he,q⟩:=h
 cases rx
 obtain⟨t,rfl⟩:=ry
 obtain⟨its,r,pl,hz⟩:=I.tuple hq
 obtain⟨j,h1,h2,h3,h4,h5⟩:=zoc he
 obtain⟨w,ew,rw'⟩:=r.get h2
 have hl:=r.length
 have hn:=zjJ
 have fin:EP X ai σ Q w s:=⟨z,H,I,rw',q⟩
 exact subscriptTail_builtinR (x:=w) pl.typeIs slot_tuple_getitem.lookup
  (getItem_tuple (j:=j) (Q:=λr s'=>r=w/\EP X ai σ Q r s') pl (by omega) (by omega) (by rw[size_toArray,<-hl];exact h1) (by simpa using ew) ⟨rfl,fin⟩) hs
def eZ(its:aj)(n j:Nat)(u:Value):Obj.mapSeq (·.setIfInBounds j u) { cls:=.type "list",data:=.seq its.toArray n } = { cls:=.type "list",data:=.seq (its.set j u).toArray n }:=by
 simp[Obj.mapSeq]
def Inv.lst{ai:ae}{σ:St}{H:Hp}{s:Shared}{p:Addr}{xs:List V}(I:Inv X ai σ H s)(h:H p=some (.lst xs)):
    ∃(its:aj)(n:Nat),Vals xs its/\s.heap.get? p=some { cls:=.type "list",data:=.seq its.toArray n }/\xs.length<=sizeLine:=by
 obtain⟨z,its,n,r,e⟩:=I.hok p _ h
 exact⟨its,n,r,e,z⟩
def Inv.lstUpd{ai:ae}{σ:St}{H:Hp}{s:Shared}{p:Addr}{xs ys:List V}{its its':aj}{n n':Nat}{f:Obj->Obj}(I:Inv X ai σ H s)(h:H p=some (.lst xs))
    (ho:s.heap.get? p=some { cls:=.type "list",data:=.seq its.toArray n }) (hf:f { cls:=.type "list",data:=.seq its.toArray n } = { cls:=.type "list",data:=.seq its'.toArray n' }) (r:Vals ys its') (hz:ys.length<=sizeLine) (t:Nat):
    Inv X ai σ (upd H p (.lst ys)) { s with heap:=s.heap.update p f,toks:=t }:=by
 have e:(s.heap.update p f).get? p=some { cls:=.type "list",data:=.seq its'.toArray n' }:=by
  rw[qJ f ho (by rw[hf]<;>rfl),hf]
 refine I.write (x:=p) (e:=p) (by rw[h];trivial) (.inl rfl) (λb u hb q=>(sZ _ _ (Ne.symm hb)).trans q) ⟨_,e⟩ ?_
 exact⟨hz,its',n',r,e⟩
def zvy:V->V->V->Hp->(Hp->Prop)->Prop:=λo i v H Q=>∃p xs k j,o=.ref p/\i=.int k/\H p=some (.lst xs)/\ixN xs.length k=some j/\Q (upd H p (.lst (xs.set j v)))
def zqB:PSet X zvy:=by
 intro ai s σ H o i v ov iv u Q I ro ri rv h
 obtain⟨p,xs,k,j,rfl,rfl,hp,hj,q⟩:=h
 cases ro
 obtain⟨t,rfl⟩:=ri
 obtain⟨its,n,r,ho,hz⟩:=I.lst hp
 obtain⟨h1,h2,h3,h4⟩:=zob hj
 have hl:=r.length
 have hn:=zjJ
 have I':Inv X ai σ (upd H p (.lst (xs.set j v))) { s with heap:=s.heap.update p (Obj.mapSeq (·.setIfInBounds j u)) }:=
  I.lstUpd hp ho (eZ its n j u) (r.set rv j) (by rw[List.length_set];exact hz) s.toks
 by_cases h0:0<=k
 ·have hk:k.toNat=j:=by
   rw[seqIndex_of h0 h4]at h1
   exact tL h1
  exact W.ki_setAt ho h0 (by omega) (by rw[size_toArray,<-hl];exact h4) (by rw[hk];exact⟨_,I',q⟩)
 ·have hk:(k+(its.toArray.size:Int)).toNat=j:=by
   rw[seqIndex_neg (by omega) h3]at h1
   rw[size_toArray,<-hl]
   exact tL h1
  exact W.ki_setBack ho (by omega) (by rw[size_toArray,<-hl];exact h3) (by omega) (by rw[hk];exact⟨_,I',q⟩)
theorem zjS(lo hi:Option Int)(n:Nat):(sliceBounds lo hi none n).1=((HT.sIx n 0 lo:Nat):Int)/\(sliceBounds lo hi none n).2.1=((HT.sIx n n hi:Nat):Int)/\(sliceBounds lo hi none n).2.2=1:=by
 refine⟨?_,?_,rfl⟩
 ·cases lo with
  | none=>simp[sliceBounds,HT.sIx]
  | some i=>
    simp only[sliceBounds,HT.sIx,Option.getD_none,show(1:Int) > 0 by decide,if_true]
    by_cases h:i<0
    ·simp only[h,if_true]<;>omega
    ·simp only[h,if_false]<;>omega
 ·cases hi with
  | none=>simp[sliceBounds,HT.sIx]
  | some i=>
    simp only[sliceBounds,HT.sIx,Option.getD_none,show(1:Int) > 0 by decide,if_true]
    by_cases h:i<0
    ·simp only[h,if_true]<;>omega
    ·simp only[h,if_false]<;>omega
def fb(its:aj)(lo hi:Option Int):slicePick its.toArray lo hi none=((its.drop (HT.sIx its.length 0 lo)).take (HT.sIx its.length its.length hi-HT.sIx its.length 0 lo)).toArray:=by
 obtain⟨h1,h2,h3⟩:=zjS lo hi its.toArray.size
 unfold slicePick
 rw[h1,h2,h3]
 simp only[sliceRange_one,pick_run,size_toArray]<;>rfl
def rSlL(K:am):V->Option Int->Option Int->Hp->VK->Prop:=λx lo hi H Q=>∃a xs,x=.ref a/\SqL K H a xs/\∀p,H p=none->Q (.ref p) (upd H p (.lst (cutV xs lo hi)))
def zsE:SlR X (rSlL X.K):=by
 intro ai s σ H x v vl vu lo hi sl Q I rx hs pl pu h
 obtain⟨a,xs,rfl,hx,q⟩:=h
 cases rx
 obtain⟨its,r,ht,hz⟩:=I.list hx
 have hlen:=r.length
 refine⟨"list",_,slot_list_getitem.lookup,ht.isList.typeIs,?_⟩
 refine wpAny_getItem_list_slice ht.isList hs pl pu .none (by simp) ?_ (by rw[size_toArray]<;>omega)
 rw[fb,<-hlen]
 refine⟨.ref s.heap.objs.size,_,I.laid (t':=s.toks) (o:=.lst (cutV xs lo hi)) (λb ob q=>tz _ q) (tF _) ?_,rfl,q _ (I.hok.fresh (tF _))⟩
 exact⟨tU (zhr xs lo hi) hz,_,0,(r.drop (HT.sIx xs.length 0 lo)).take (HT.sIx xs.length xs.length hi-HT.sIx xs.length 0 lo),tJ _ rfl⟩
def zcd:V->Bool
 | .non=>true
 | .bl _=>true
 | .int _=>true
 | .str _=>true
 | _=>false
def eqV:V->V->Bool
 | .non,.non=>true
 | .bl a,.bl b=>a==b
 | .bl a,.int b=>(if a then 1 else 0)==b
 | .int a,.bl b=>a==(if b then 1 else 0)
 | .int a,.int b=>a==b
 | .str a,.str b=>a==b
 | _,_=>false
theorem zod{A:Around}{s:Shared}{y x:V}{u v:Value}(ry:RelV y u)(rx:RelV x v)(fy:zcd y=true)(fx:zcd x=true):SeqAt.EqAt A s u v (eqV y x):=by
 cases y with
 | non=>
   cases ry
   cases x with
   | non=>cases rx;exact SeqAt.EqAt.same _
   | bl b=>cases rx;exact SeqAt.EqAt.none_bool b
   | int b=>obtain⟨t,rfl⟩:=rx;exact SeqAt.EqAt.none_int b t
   | str b=>obtain⟨t,rfl⟩:=rx;exact SeqAt.EqAt.none_str b t
   | _=>exact absurd (show false=true from fx) tG
 | bl a=>
   cases ry
   cases x with
   | non=>cases rx;exact SeqAt.EqAt.bool_none a
   | bl b=>cases rx;exact SeqAt.EqAt.bool_bool a b
   | int b=>obtain⟨t,rfl⟩:=rx;exact SeqAt.EqAt.bool_int a b t
   | str b=>obtain⟨t,rfl⟩:=rx;exact SeqAt.EqAt.bool_str a b t
   | _=>exact absurd (show false=true from fx) tG
 | int a=>
   obtain⟨t',rfl⟩:=ry
   cases x with
   | non=>cases rx;exact SeqAt.EqAt.int_none a t'
   | bl b=>cases rx;exact SeqAt.EqAt.int_bool a t' b
   | int b=>obtain⟨t,rfl⟩:=rx;exact SeqAt.EqAt.int_int a t' b t
   | str b=>obtain⟨t,rfl⟩:=rx;exact SeqAt.EqAt.int_str a t' b t
   | _=>exact absurd (show false=true from fx) tG
 | str a=>
   obtain⟨t',rfl⟩:=ry
   cases x with
   | non=>cases rx;exact SeqAt.EqAt.str_none a t'
   | bl b=>cases rx;exact SeqAt.EqAt.str_bool a t' b
   | int b=>obtain⟨t,rfl⟩:=rx;exact SeqAt.EqAt.str_int a t' b t
   | str b=>obtain⟨t,rfl⟩:=rx;exact SeqAt.EqAt.str_str a t' b t
   | _=>exact absurd (show false=true from fx) tG
 | _=>exact absurd (show false=true from fy) tG
def eqU(x:V)(u:Value):Bool:=match u with
 | .none=>eqV .non x
 | .bool b=>eqV (.bl b) x
 | .int i _=>eqV (.int i) x
 | .str z _=>eqV (.str z) x
 | _=>false
theorem zrE{x y:V}{u:Value}(r:RelV y u)(f:zcd y=true):eqU x u=eqV y x:=by
 cases y with
 | non=>cases r;rfl
 | bl b=>cases r;rfl
 | int i=>obtain⟨t,rfl⟩:=r;rfl
 | str z=>obtain⟨t,rfl⟩:=r;rfl
 | _=>exact absurd (show false=true from f) tG
theorem zht{x:V}:∀{xs:List V}{us:aj},Vals xs us->xs.all zcd=true->us.any (eqU x)=xs.any λy=>eqV y x
 | _,_,.nil,_=>rfl
 | y::xs,u::us,.cons r t,f=>by
   rw[pY,Bool.and_eq_true]at f
   rw[qS,qS,zrE r f.1,zht t f.2]
theorem zfo{A:Around}{s:Shared}{x:V}{v:Value}(rx:RelV x v)(fx:zcd x=true):∀{xs:List V}{us:aj},Vals xs us->xs.all zcd=true->∀u∈us,SeqAt.EqAt A s u v (eqU x u)
 | _,_,.nil,_=>λu hu=>by cases hu
 | y::xs,u::us,.cons r t,f=>λu' hu=>by
   rw[pY,Bool.and_eq_true]at f
   rcases mem_cons.mp hu with rfl | hu
   ·rw[zrE r f.1];exact zod r rx f.1 fx
   ·exact zfo rx fx t f.2 u' hu
def inV(x:V)(xs:List V):Bool:=xs.any λy=>eqV y x
def rIn(K:am)(neg:Bool):R2:=λx y H Q=>∃p xs,y=.ref p/\(SqL K H p xs\/SqT K H p xs)/\zcd x=true/\xs.all zcd=true/\Q (.bl (if neg then !inV x xs else inV x xs)) H
def zoe:OpR X (compareOp .In) (rIn X.K false):=by
 intro ai s σ H x y v u Q I rx ry h
 obtain⟨p,xs,rfl,hq,fx,fs,q⟩:=h
 cases ry
 rcases hq with hq | hq
 ·obtain⟨its,r,pl,hz⟩:=I.list hq
  refine SeqAt.in_listAt (eqU x) pl.isList (λw hw=>zfo rx fx r fs w (by simpa using hw)) ⟨.bl _,H,I,rfl,?_⟩
  rw[show its.toArray.any (eqU x)=its.any (eqU x) by simp,zht r fs]
  exact q
 ·obtain⟨its,r,pl,hz⟩:=I.tuple hq
  refine SeqAt.in_tupleAt (eqU x) pl (λw hw=>zfo rx fx r fs w (by simpa using hw)) ⟨.bl _,H,I,rfl,?_⟩
  rw[show its.toArray.any (eqU x)=its.any (eqU x) by simp,zht r fs]
  exact q
def zgO:OpR X (compareOp .NotIn) (rIn X.K true):=by
 intro ai s σ H x y v u Q I rx ry h
 obtain⟨p,xs,rfl,hq,fx,fs,q⟩:=h
 cases ry
 rcases hq with hq | hq
 ·obtain⟨its,r,pl,hz⟩:=I.list hq
  refine SeqAt.notIn_listAt (eqU x) pl.isList (λw hw=>zfo rx fx r fs w (by simpa using hw)) ⟨.bl _,H,I,rfl,?_⟩
  rw[show its.toArray.any (eqU x)=its.any (eqU x) by simp,zht r fs]
  exact q
 ·obtain⟨its,r,pl,hz⟩:=I.tuple hq
  refine SeqAt.notIn_tupleAt (eqU x) pl (λw hw=>zfo rx fx r fs w (by simpa using hw)) ⟨.bl _,H,I,rfl,?_⟩
  rw[show its.toArray.any (eqU x)=its.any (eqU x) by simp,zht r fs]
  exact q
def zaH:zdH X (.builtin "len") (λxs H Q=>∃p ys,xs=[.ref p]/\(SqL X.K H p ys\/SqT X.K H p ys)/\Q (.int ys.length) H):=by
 intro ai s σ H xs us Q I r h
 obtain⟨p,ys,rfl,hq,q⟩:=h
 obtain⟨u,rfl,rx⟩:=zgU r
 cases rx
 have hn:=zjJ
 rcases hq with hq | hq
 ·obtain⟨its,r',pl,hz⟩:=I.list hq
  have hlen:=r'.length
  exact Calls.call_len_list pl.isList (by simp only[size_toArray]<;>omega) ⟨.int ys.length,H,I.tok _,⟨s.toks+1,by rw[size_toArray,hlen]⟩,q⟩
 ·obtain⟨its,r',pl,hz⟩:=I.tuple hq
  have hlen:=r'.length
  exact len_tuple pl (by simp only[size_toArray]<;>omega) ⟨.int ys.length,H,I.tok _,⟨s.toks+1,by rw[size_toArray,hlen]⟩,q⟩
def zjT:zdH X (.builtin "len") (λxs H Q=>∃z,xs=[.str z]/\z.length<=sizeLine/\Q (.int z.length) H):=by
 intro ai s σ H xs us Q I r h
 obtain⟨z,rfl,hz,q⟩:=h
 obtain⟨u,rfl,t,rfl⟩:=zgU r
 have hn:=zjJ
 exact len_str (by omega) ⟨.int z.length,H,I.tok _,⟨_,rfl⟩,q⟩
def zjU:zdH X (.type "list") (λxs H Q=>∃p ys,xs=[.ref p]/\(SqL X.K H p ys\/SqT X.K H p ys)/\∀l,H l=none->Q (.ref l) (upd H l (.lst ys))):=by
 intro ai s σ H xs us Q I r h
 obtain⟨p,ys,rfl,hq,q⟩:=h
 obtain⟨u,rfl,rx⟩:=zgU r
 cases rx
 have fin:∀(its:aj),Vals ys its->ys.length<=sizeLine->∀(h':Heap)(c':Nat),(∀b o',s.heap.get? b=some o'->h'.get? b=some o')->
   h'.get? s.heap.objs.size=some { cls:=.type "list",dict:=none,data:=.seq its.toArray c',slots := #[] }->EP X ai σ Q (.ref s.heap.objs.size) { s with heap:=h' }:=λits r' hz h' c' kp e=>
  ⟨.ref s.heap.objs.size,_,I.laid (t':=s.toks) kp (tF _) (show zbf X.prog X.w _ h' _ (.lst ys)from⟨hz,its,c',r',e⟩),rfl,q _ (I.hok.fresh (tF _))⟩
 rcases hq with hq | hq
 ·obtain⟨its,r',pl,hz⟩:=I.list hq
  have hlen:=r'.length
  obtain⟨o,ho,hc,n,hd⟩:=pl.isList
  exact call_list_seq p (.inl rfl) ho hc hd (λh' c' kp e=>fin its r' hz h' c' kp e) (by simp only[size_toArray]<;>omega)
 ·obtain⟨its,r',pl,hz⟩:=I.tuple hq
  have hlen:=r'.length
  obtain⟨o,ho,hc,n,hd⟩:=pl
  exact call_list_seq p (.inr rfl) ho hc hd (λh' c' kp e=>fin its r' hz h' c' kp e) (by simp only[size_toArray]<;>omega)
def tyV(K:am)(T:String)(x:V)(H:Hp):Prop:=match x with
 | .str _=>T = "str"
 | .int _=>T = "int"
 | .ref p=>(T = "list" /\ ∃xs,SqL K H p xs)\/(T = "tuple" /\ ∃o,K.lookup p=some o/\o.cls=.type "tuple" /\ o.dict=none) \/
    (T = "dict" /\ ((∃kvs,H p=some (.dK kvs))\/∃kvs,H p=some (.dT kvs)))\/(T = "set" /\ ∃S n,H p=some (.set S n))
 | _=>False
theorem ztZ{ai:ae}{σ:St}{H:Hp}{s:Shared}{T:String}{x:V}{v:Value}(I:Inv X ai σ H s)(r:RelV x v)(ty:tyV X.K T x H):
  s.TypeIs v T/\∀a,v=.ref a->∃ob,s.heap.get? a=some ob/\ob.dict=none:=by
 cases x with
 | str z=>
   obtain⟨t,rfl⟩:=r
   cases(show T = "str" from ty)
   exact⟨typeIs_str s z t,λ_ e=>nomatch e⟩
 | int i=>
   obtain⟨t,rfl⟩:=r
   cases(show T = "int" from ty)
   exact⟨typeIs_int s i t,λ_ e=>nomatch e⟩
 | ref p=>
   cases r
   rcases ty with⟨rfl,xs,hq⟩ | ⟨rfl,o,hk,hc,hd⟩ | ⟨rfl,hk⟩ | ⟨rfl,S,n,hk⟩
   ·obtain⟨its,_,pl,_⟩:=I.list hq
    refine⟨pl.isList.typeIs,λa e=>?_⟩
    cases e
    obtain⟨o,n,e,c,hd,_⟩:=pl
    exact⟨o,e,hd⟩
   ·refine⟨⟨o,I.kIn p o hk,hc⟩,λa e=>?_⟩
    cases e
    exact⟨o,I.kIn _ o hk,hd⟩
   ·have z:∃o,s.heap.get? p=some o/\o.ExactDict:=by
     rcases hk with⟨kvs,hk⟩ | ⟨kvs,hk⟩
     ·obtain⟨_,_,_,_,o,_,_,e,ex,_⟩:=I.hok p _ hk
      exact⟨o,e,ex⟩
     ·obtain⟨_,_,_,_,o,_,_,e,ex,_⟩:=I.hok p _ hk
      exact⟨o,e,ex⟩
    obtain⟨o,e,ex⟩:=z
    refine⟨⟨o,e,ex.1⟩,λa e2=>?_⟩
    cases e2
    exact⟨o,e,ex.2.1⟩
   ·obtain⟨o,_,_,_,e,ex,_⟩:=I.hok p _ hk
    refine⟨⟨o,e,ex.1⟩,λa e2=>?_⟩
    cases e2
    exact⟨o,e,ex.2.1⟩
 | _=>exact False.elim ty
def tBM(K:am)(T:String)(r:V->List V->Hp->VK->Prop)(to:TE)(t:TA):TE:=λσ H Q=>to σ H λx H1=>tyV K T x H1/\t σ H1 λxs H2=>r x xs H2 Q
variable{o e:Expr}{es:List Expr}{to:TE}{t:TA}{name:Str}{apos cpos:Pos}{T id:String}{r:V->List V->Hp->VK->Prop}
def zqC(pa:PlainAttrs T)(slot:Slot T name id)(hty:typeOf (.builtin id)=pure (.type "method_descriptor"))(hm:MtR X id r)(ho:PE X o to)(ha:PA X (e::es) t)
    (hbase:attributeBase o name X.env (eval o X.env)=eval o X.env:=by rfl)
    (hfew:((backTo cpos (starEach (e::es) X.env)).all (λx => !x.1)&&(backToKw cpos (keywordEach [] X.env)).all (λx=>x.1.isSome)
      && decide ((e::es).length+([]:List Keyword).length+(if([]:List Keyword).isEmpty then 0 else 1)<30))=true:=by rfl)
    (hline:(apos.endLine==cpos.line)=true:=by rfl) (hs:starEach (e::es) X.env=(false,eval e X.env)::starEach es X.env:=by rfl) (hplain:(backTo cpos (starEach es X.env)).any (·.1)=false:=by rfl):
    PE X (.Call (.Attribute o name apos) (e::es) [] cpos) (tBM X.K T r to t):=by
 with_unfolding_all
  intro ai s σ H Q I h
  refine wpAny_Call_method_late hbase hfew hline rfl (thn (ho ai s σ H _ I h) λv s1 ⟨x,H1,I1,r1,ty,q1⟩=>?_)
  obtain⟨h1,h2⟩:=ztZ I1 r1 ty
  refine⟨T,id,pa,slot,hty,h1,h2,?_⟩
  have hA:=ha cpos ai s1 σ H1 _ I1 q1
  rw[hs]at hA ⊢
  refine qA (by show(false||(backTo cpos (starEach es X.env)).any (·.1))=false;rw[hplain]<;>rfl) (qP ?_)
  exact thn hA λus s2 ⟨vs,H2,I2,r2,q2⟩=>hm ai s2 σ H2 x vs v us Q I2 r1 r2 q2
/- xs.append(e),list.index on a module's tuple .. are MtR facts of 06m -/
end
def MtM(X:Cx)(id:String)(r:V->List V->Hp->VK->Prop):Prop:=
 ∀(ai:ae)(s:Shared)(σ:St)(H:Hp)(x:V)(xs:List V)(v:Value)(us:aj)(Q:VK),Inv X ai σ H s->RelV x v->Vals xs us->r x xs H Q->
  wpAny (model X.prog X.w) X.A (call (.builtin id) (v::us)) (EP X ai σ Q) X.xe s
theorem Vals.one:∀{x:V}{us:aj},Vals [x] us->∃u,us=[u]/\RelV x u
 | _,_,.cons r .nil=>⟨_,rfl,r⟩
section
variable{X:Cx}{ai:ae}{σ:St}{H:Hp}{s:Shared}{l b:Addr}{xs ys zs:List V}
def Inv.lset{its its':aj}{n:Nat}{f:Array Value->Array Value}{t':Nat}(I:Inv X ai σ H s)(hH:H l=some (.lst xs))
    (e:s.heap.get? l=some { cls:=.type "list",data:=.seq its.toArray n }) (hf:f its.toArray=its'.toArray) (hv:Vals ys its') (hz:ys.length<=sizeLine):
    Inv X ai σ (upd H l (.lst ys)) { s with heap:=s.heap.update l (Obj.mapSeq f),toks:=t' }:=by
 have q:=PySem.IsL.update e f
 rw[hf]at q
 refine I.write (x:=l) (e:=l) (by rw[hH];exact trivial) (.inl rfl) (λb' u hb hu=>(sZ s.heap (Obj.mapSeq f) (Ne.symm hb)).trans hu) ⟨_,q⟩ ?_
 exact⟨hz,its',_,hv,q⟩
def Inv.lnew{its:aj}{t':Nat}(I:Inv X ai σ H s)(hv:Vals ys its)(hz:ys.length<=sizeLine):
    Inv X ai σ (upd H s.heap.objs.size (.lst ys)) { s with heap:=s.heap.push { cls:=.type "list",data:=.seq its.toArray },toks:=t' }:=
 I.laid (λ_ _ q=>tz _ q) (tF _) ⟨hz,its,0,hv,tJ _ rfl⟩
def Inv.fresh(I:Inv X ai σ H s):H s.heap.objs.size=none:=I.hok.fresh (tF _)
def Inv.lstM(I:Inv X ai σ H s)(hH:H l=some (.lst xs)):xs.length<=sizeLine/\∃(its:aj)(n:Nat),Vals xs its/\xs.length=its.length/\s.heap.get? l=some { cls:=.type "list",data:=.seq its.toArray n }:=by
 obtain⟨z,its,n,r,e⟩:=I.hok l _ hH
 exact⟨z,its,n,r,r.length,e⟩
end
section
variable{X:Cx}
def zsF:V->List V->Hp->VK->Prop:=λx vs H Q=>∃l xs y,x=.ref l/\vs=[y]/\H l=some (.lst xs)/\xs.length<sizeLine/\Q .non (upd H l (.lst (xs++[y])))
def zjV:MtM X "list.append" zsF:=by
 intro ai s σ H x vs v us Q I rx rv h
 obtain⟨l,xs,y,rfl,rfl,hH,hz,q⟩:=h
 cases rx
 obtain⟨u,rfl,ru⟩:=rv.one
 obtain⟨z,its,n,r,hl,e⟩:=I.lstM hH
 refine pZ F.slot_list_append ⟨_,e,rfl⟩ F.entry_list_append (F.args_list_append_2 _ _) (PySem.list_append l its.toArray n u (by rw[size_toArray];omega)) ⟨e,?_⟩
 refine⟨.non,_,I.lset (its':=its++[u]) hH e (by simp) (r.append (.cons ru .nil)) ?_,rfl,q⟩
 rw[tR,List.length_singleton]
 omega
def rCat:R2:=λx y H Q=>∃l b xs zs,x=.ref l/\y=.ref b/\H l=some (.lst xs)/\H b=some (.lst zs)/\xs.length+zs.length<=sizeLine/\∀p,H p=none->Q (.ref p) (upd H p (.lst (xs++zs)))
def zua:OpR X (binaryOp .Add) rCat:=by
 intro ai s σ H x y v u Q I rx ry h
 obtain⟨l,b,xs,zs,rfl,rfl,hH,hB,hz,q⟩:=h
 cases rx
 cases ry
 obtain⟨z,its,n,r,hl,e⟩:=I.lstM hH
 obtain⟨z2,its2,n2,r2,hl2,e2⟩:=I.lstM hB
 refine PySem.P.add_list e e2 ?_ (by rw[size_toArray,size_toArray];omega)
 have ea:its.toArray++its2.toArray=(its++its2).toArray:=by simp
 rw[ea]
 exact⟨.ref _,_,I.lnew (t':=s.toks) (r.append r2) (by rw[tR];omega),rfl,q _ I.fresh⟩
end
section
variable{prog:Program}{w:World}{A:Around}{E:ac}{s:Shared}
set_option maxRecDepth 100000 in
end
section
variable{X:Cx}
end
end L2
namespace Att
open PySem PySem.W PySem.Calls PyProof.Rows
theorem zhu{P:Params}{h:Heap}:∀(ns:List Int)(vs:aj),WellAll P h vs (ns.map WData.int)->IntsAre vs ns:=by
 intro ns
 induction ns with
 | nil=>
   intro vs w
   rw[map_nil]at w
   cases w
   exact .nil
 | cons n ns ih=>
   intro vs w
   rw[t3]at w
   cases w with
   | cons a b=>
     cases a
     exact .cons _ _ (ih _ b)
theorem zof{l:OpenLaw}{n:Nat}(hn:l.most=some n){P:Params}{h:Heap}{args:List WData}{vals:aj}
  (hpre:l.row.toRowW.claim.pre args=true) (hwl:WellAll P h vals args):
  ∃a vs ns,vals=[Value.ref a]/\args=[WData.list (ns.map WData.int)]/\h.get? a=some { cls:=.type "list",data:=.seq vs.toArray }/\IntsAre vs ns/\ns.length<=n:=by
 have hsh:WShape.hasAll [] args [.list .int]=true:=(pre_splitW hpre).1
 have hc:l.pre.holds [] { args:=args }=true:=(pre_splitW hpre).2
 obtain⟨d,r,rfl,h1,h2⟩:=hasAllW_cons hsh
 obtain rfl:=hasAllW_nil h2
 obtain⟨xs,rfl,h3⟩:=hasW_list h1
 obtain⟨ns,rfl⟩:=items_int h3
 have hlen:ns.length<=n:=by
  unfold OpenLaw.pre at hc
  have h4:(WTm.not (.lt (.lit (.int (n:Int))) (.len (.arg 0)))).holds [] { args:=[.list (ns.map .int)] }=true:=by
   have h4:=(holds_andW hc).1
   rw[hn]at h4
   exact h4
  have h5:=condW_of h4 (w_not (w_lt w_lit (w_len_list (w_arg rfl))))
  rw[tm]at h5
  refine Nat.le_of_not_lt λq=>?_
  have q':(n:Int)<((ns.length:Nat):Int):=by omega
  first
   | (rw[decide_eq_true q']at h5;exact absurd h5 (by decide))
   | (simp at h5;omega)
 cases hwl with
 | cons w1 w2=>
   cases w2
   cases w1 with
   | list ho hall=>exact⟨_,_,ns,rfl,rfl,ho,zhu ns _ hall,hlen⟩
def zog(l:OpenLaw)(args:List WData):l.row.toRowW.claim.post args (.bool true) args=true:=
 postW_of (r:=l.row.toRowW) (X:=(true==true))
  (show WShape.has [] (.bool true) .bool=true by first | rfl | decide | simp[WShape.has,WShape.arms,WShape.armsAll])
  (show(WTm.eq .res (.lit (.bool true))).value [] { args:=args,res:=some (.bool true),after:=args }=some (.bool (true==true))from w_eq_bool (w_res rfl) w_lit) rfl
def attach_call{l:OpenLaw}{n:Nat}{q:Program}{loose:List Str}{XP:(Str->Option Value)->Heap->Prop}{YP:World->Heap->Prop}{d:DefRec}
    (hn:l.most=some n) (hdf:d.params.defaults=[])
    (call:∀(w:World)(s₀ s₁:Shared)(mg mb:af)(fa:Addr)(o:Obj)(pm cd doc:Value)(a:Addr)(vs:aj)(ns:List Int),
      Ground q loose [] XP w s₀ mg mb s₁.heap->YP w s₁.heap->
      s₁.heap.get? fa=some o->o.data=.func (docDef d.name d.params d.body d.scope pm cd doc)->s₁.heap.CodeRec cd d.name->mg d.name=some (.ref fa)->
      s₁.heap.get? a=some { cls:=.type "list",data:=.seq vs.toArray }->IntsAre vs ns->ns.length<=n->s₁.gens = #[]->
      codeAny (model l.prog w) callerA (.call (.ref fa) ⟨[.ref a],[]⟩) (λr s'=>r=.ok (.ret (.bool true))/\OldK s₁.heap s'.heap/\s'.os=s₁.os/\AllBare s'.gens) s₁):
    WalkO q loose XP YP l.row.toRowW d [] (λf vs=>PySem.call f vs):=by
 intro w s₀ s₁ mg mb G Y fa o pm cd doc dV kV ho hd hcd hD hmg hg args vals as hpre hlay hrd hwl hlo
 obtain rfl:dV=.none:=Dflts.none hD hdf
 obtain rfl:kV=.none:=Dflts.noKw hD
 obtain⟨a,vs,ns,rfl,rfl,hobj,hints,hlen⟩:=zof hn hpre hwl
 refine enter_call (rG (call w s₀ s₁ mg mb fa o pm cd doc a vs ns G Y ho (fd_plain hd) hcd hmg hobj hints hlen hg) λr s' hq=>?_)
 obtain⟨rfl,h2,h3,h4⟩:=hq
 exact⟨.inl ⟨.bool true,.bool true,[],rfl,λ_=>rfl,.bool true,zog l _,λ_=>⟨List.Pairwise.nil,λ_ hm=>(nomatch hm)⟩⟩,h2,h3,h4⟩
section
variable{prog:Program}{w:World}{A:Around}{E:ac}{s:Shared}{K:Frag}
def zwd(h:Heap)(L d:Addr):List (Addr × Obj):=(List.range h.objs.size).filterMap λa=>if a=L\/a=d then none else(h.get? a).map λo=>(a,o)
end
end Att
namespace L2
open PySem PySem.Spec PyProof.Rows
theorem zjW:∀{vs:aj}{ns:List Int},IntsAre vs ns->Vals (ns.map V.int) vs
 | _,_,.nil=>.nil
 | _,_,.cons n t h=>.cons ⟨t,rfl⟩ (zjW h)
abbrev KOf{K:am}{h:Heap}(_:K.In h):W.Frag:=K
end L2
/- THE LAST THEOREM (shape;LID,My.* are yours):
   My.Adr: a structure of the addresses that your layer names (classes,functions);My.Txt K t: a structure (Prop) of the equations over K;
   My.txt_mk : {K} {implicit addresses ..} (e1:nsIn K mainGlobals "law" = some (some (.ref f))) (e2:K.lookup f=some ⟨oc,od,.func (fnOf "law" "law" params body scope dV kV doc pm an cdv ct),sl⟩) (e3:codeIn K cdv "law" = true) .. : ∃t,My.Txt K t
set_option maxRecDepth 100000 in
set_option maxHeartbeats 0 in
theorem PySem.Challenge.cw_LID_holds : PySem.Challenge.rw_LID.Holds := by
 w_on;o_law;k_head;(case hw=>w_witness2)
 k_fill
 refine L2.walk_of (l:=PySem.Challenge.rw_LID) (n:=63) (k:=40) (x := "script") (CX:=λw => ..) (sp:=λ_=>My.sp_law) rfl (by decide) rfl ⟨rfl,by decide,by decide⟩ (λw h Y=>PySem.W.kIn_of Y) ?F ?S ?C
 case F=>
  intro w mg fa h KX G hmg
  have T:∃t,My.Txt (L2.KOf KX) t:=by
   dsimp only[L2.KOf]
   refine' My.txt_mk ?e1 ?e2 ?e3 ..
   (case e1=>PySem.W.k_is)
   (case e2=>PySem.W.k_is)
   ..
  obtain⟨t,T⟩:=T
  have e0:=hmg.symm.trans (PySem.W.mg_of KX G T.law)
  cases e0
  exact⟨_,λs u=>.of_eq rfl,λbj kb nb=>My.law_fn T kb nb⟩
 case S=>exact λw H a ns hl hO hS => ..
 case C=>exact ..
(the tactic k_is has no namespace: write k_is) -/
namespace L2
open PySem PySem.Spec PyProof.Rows
def zaC(s:Stmt)(j:Nat):Stmt:=match s with
 | .ClassDef _ _ _ body _ _ _ _ _ _ _=>body.getD j (.Pass ⟨0,0,0,0⟩)
 | _ => .Pass ⟨0,0,0,0⟩
def zav(s:Stmt):Arguments:=match s with
 | .FunctionDef _ a _ _ _ _ _ _ _ _=>a
 | _ => { posonlyargs:=[],args:=[],vararg:=none,kwonlyargs:=[],kw_defaults:=[],kwarg:=none,defaults:=[] }
def zap(s:Stmt):List Stmt:=match s with
 | .FunctionDef _ _ b _ _ _ _ _ _ _=>b
 | _=>[]
def zac(s:Stmt):Scope:=match s with
 | .FunctionDef _ _ _ _ _ _ sc _ _ _=>sc
 | _ => { kind:=.function,names:=[],isGenerator:=false,isCoroutine:=false }
abbrev CX0:CXT:=λ_ _ _ _ _ _=>False
abbrev E0:XK:=λ_ _ _=>False
def zaT{X:Cx}:zcM CX0 X E0:=λ_ _ _ _ _ _ _ h=>h.elim
structure Fun(K:am)(x qual:Str)(st:Stmt)(f:Addr)(fd:FuncData):Prop where
 ex:∃(oc:Value)(od:ak)(kV doc pm:Value)(an:ak)(cdv ct:Value)(osl:ap),
  fd=W.fnOf x qual (zav st) (zap st) (zac st) .none kV doc pm an cdv ct/\K.lookup f=some ⟨oc,od,.func fd,osl⟩/\W.codeIn K cdv qual=true
 kp:W.keepIn K (.ref f)=true
section
variable{P:Program}{w:World}{K:am}{mg:af}{bj:Heap}
def Fun.ok{x qual:Str}{st:Stmt}{f:Addr}{fd:FuncData}{N ps:List Str}{k:Nat}{sp:Sp}(F:Fun K x qual st f fd)(S:FnScope N ps (zac st))(len:∀vs H Q E,sp vs H Q E->vs.length=ps.length)
    (hbody:∀(cdv:Value)(A:Around)(outer:List Env)(s:Shared)(H:Hp)(vs:List V)(Q:VK)(E:XK),Room k (A.deeper (envOfC qual (zac st) s.heap.objs.size f cdv))->sp vs H Q E->
      ∃t,PSs (cxOf CX0 P w K mg bj N qual (zac st) f cdv A outer s H E).nox (zap st) t/\t { nx:=λ_ H'=>Q .non H',rt:=Q } (zgV N vs) H):FnOk P w K mg bj CX0 (k+1) f fd ps sp:=by
 obtain⟨oc,od,kV,doc,pm,an,cdv,ct,osl,rfl,lk,hcd⟩:=F.ex
 refine bc lk hcd S len λA outer s H vs Q E hr hsp=>?_
 obtain⟨t,h,q⟩:=hbody cdv A outer s H vs Q E hr hsp
 exact⟨t,h.nox,q⟩
def Fun.binds{x qual:Str}{st:Stmt}{f:Addr}{fd:FuncData}{ps:List Str}(F:Fun K x qual st f fd)
    (h:∀(kV doc pm:Value)(an:ak)(cdv ct:Value)(us:aj),us.length=ps.length->bindArgs (W.fnOf x qual (zav st) (zap st) (zac st) .none kV doc pm an cdv ct) ⟨us,[]⟩=pure (ps.zip us)):zbq K fd ps []:=by
 obtain⟨oc,od,kV,doc,pm,an,cdv,ct,osl,rfl,lk,hcd⟩:=F.ex
 exact .all (h kV doc pm an cdv ct)
def zbH{x qual:Str}{st:Stmt}{f:Addr}{oc:Value}{od an:ak}{osl:ap}{kV doc pm cdv ct:Value}(l:K.lookup f=some ⟨oc,od,.func (W.fnOf x qual (zav st) (zap st) (zac st) .none kV doc pm an cdv ct),osl⟩)
    (c:W.codeIn K cdv qual=true) (k:W.keepIn K (.ref f)=true):Fun K x qual st f (W.fnOf x qual (zav st) (zap st) (zac st) .none kV doc pm an cdv ct):=⟨⟨oc,od,kV,doc,pm,an,cdv,ct,osl,rfl,l,c⟩,k⟩
end
def zax{n:Nat}(h:n<=1000):n<sizeLine:=pq h (by decide)
section
variable{X:Cx}
def pv(i:Nat){x:Str}{pos:Pos}(hN:X.N[i]?=some x:=by rfl)(hv:Vis X.env.scope x:=by first | exact Or.inl rfl | exact Or.inr (Or.inl rfl) | exact Or.inr (Or.inr rfl))(hd:(x==("__debug__" : Str))=false:=by decide)
    (hcd:(x==("__classdict__" : Str))=false:=by decide):PE X (.Name x pos) (tVar i):=ztI hN hv hd hcd
end
def iteF{A B:Prop}(h:B):if false=true then A else B:=by
 rw[if_neg tG]
 exact h
def iteT{A B:Prop}(h:A):if true=true then A else B:=by
 rw[if_pos rfl]
 exact h
def ite2{c A B:Prop} [Decidable c] (h1:c->A) (h2:¬c->B):if c then A else B:=by
 by_cases h:c
 ·rw[if_pos h]
  exact h1 h
 ·rw[if_neg h]
  exact h2 h
def Same(H H':Hp):Prop:=∀b o,H b=some o->H' b=some o
def Same.refl(H:Hp):Same H H:=λ_ _ h=>h
def Same.trans{H H1 H2:Hp}(a:Same H H1)(b:Same H1 H2):Same H H2:=λc o h=>b c o (a c o h)
theorem Same.free{H H':Hp}(e:Same H H'){l:Addr}(h:H' l=Option.none):H l=Option.none:=by
 cases q:H l with
 | none=>rfl
 | some o=>
   rw[e l o q]at h
   cases h
def Same.seq{K:am}{H H':Hp}{a:Addr}{xs:List V}(e:Same H H')(h:SqL K H a xs):SqL K H' a xs:=by
 rcases h with(h | ⟨o,h⟩) | h
 ·exact .inl (.inl (e _ _ h))
 ·exact .inl (.inr ⟨o,e _ _ h⟩)
 ·exact .inr h
section
variable{κ:Type} [DecidableEq κ]
end
def zub:bootBuiltins "abs" = some (.builtin "abs"):=by decide +kernel
def zcm:bootBuiltins "len" = some (.builtin "len"):=by decide +kernel
def zuc:bootBuiltins "max" = some (.builtin "max"):=by decide +kernel
def zud:bootBuiltins "min" = some (.builtin "min"):=by decide +kernel
def zaD:bootBuiltins "isinstance" = some (.builtin "isinstance"):=by decide +kernel
def zrF:bootBuiltins "int" = some (.type "int"):=by decide +kernel
def zue:bootBuiltins "str" = some (.type "str"):=by decide +kernel
def zoh:bootBuiltins "bool" = some (.type "bool"):=by decide +kernel
def bF:bootBuiltins "tuple" = some (.type "tuple"):=by decide +kernel
def zer:bootBuiltins "list" = some (.type "list"):=by decide +kernel
def zsG:bootBuiltins "dict" = some (.type "dict"):=by decide +kernel
def zrG:bootBuiltins "all" = some (.builtin "all"):=by decide +kernel
structure Cal(P:Program)(w:World)(K:am)(mg:af)(bj:Heap)(x:Str)(k:Nat)(ps:List Str)(sp:Sp):Prop where
 ex:∃f fd,FnOk P w K mg bj CX0 k f fd ps sp/\zbq K fd ps []/\mg x=some (.ref f)/\W.keepIn K (.ref f)=true
structure Dfn(K:am)(mg:af)(x:Str)(st:Stmt)(ps:List Str)(f:Addr)(fd:FuncData):Prop where
 F:Fun K x x st f fd
 b:zbq K fd ps []
 m:mg x=some (.ref f)
def Dfn.cal{P:Program}{w:World}{K:am}{mg:af}{bj:Heap}{x:Str}{st:Stmt}{ps:List Str}{f:Addr}{fd:FuncData}{k:Nat}{sp:Sp}
    (D:Dfn K mg x st ps f fd) (G:FnOk P w K mg bj CX0 k f fd ps sp):Cal P w K mg bj x k ps sp:=⟨⟨f,fd,G,D.b,D.m,D.F.kp⟩⟩
section
variable{X:Cx}{k:Nat}{ps:List Str}{sp:Sp}{x:Str}{p pos:Pos}{e:Expr}{es:List Expr}{t:TA}
def zai(C:Cal X.prog X.w X.K X.mg X.bj x k ps sp)(hr:Room k X.A)(hg:Gl X x)(ha:PA X (e::es) t)(hdb:(x==("__debug__" : Str))=false:=by decide)
    (he:starEach (e::es) X.env=(false,eval e X.env)::starEach es X.env:=by rfl) (hpl:(backTo pos (starEach es X.env)).any (·.1)=false:=by rfl):
    PE X (.Call (.Name x p) (e::es) [] pos) (zsA sp [] E0 t):=by
 obtain⟨f,fd,G,b,m,kp⟩:=C.ex
 exact dP G hr hg m kp b .nil zaT ha hdb he hpl
end
section
variable{X:Cx}
def zuf(_ j:Int):Prop:=0<j/\j<1000000000000000000000000000000000000000000000000000000000000
def zeb:OpR X (binaryOp .FloorDiv) (rI zuf λi j=>.int (i / j)):=opI λi j _ _ _ _ _ hc q=>by
 have h1:(0:Int)<j:=hc.1
 have h2:j<1000000000000000000000000000000000000000000000000000000000000:=hc.2
 have h3:j.natAbs<2 ^ 200:=by
  have z:(1000000000000000000000000000000000000000000000000000000000000:Nat)<=2 ^ 200:=by decide
  exact tQ (by omega) z
 have h4:j.natAbs.log2<200:=(Nat.log2_lt (by omega)).mpr h3
 exact floordiv_int (by omega) (by rw[Int.fdiv_eq_ediv_of_nonneg i (by omega)];exact q) (.inl (PyProof.noPylong_of_log2 (by omega)))
def eqVs:List V->List V->Bool
 | [],[]=>true
 | x::xs,y::ys=>eqV x y&&eqVs xs ys
 | _,_=>false
def eqJ(xs ys:List V)(j:Nat):Bool:=match xs[j]?,ys[j]? with
 | some x,some y=>eqV x y
 | _,_=>false
theorem zfp:∀xs ys:List V,((List.range (min xs.length ys.length)).all (eqJ xs ys)&&(xs.length==ys.length))=eqVs xs ys
 | [],[]=>rfl
 | [],y::ys=>by simp[eqVs]
 | x::xs,[]=>by simp[eqVs]
 | x::xs,y::ys=>by
   have ih:=zfp xs ys
   have hm:min (x::xs).length (y::ys).length=min xs.length ys.length+1:=by simp[length_cons]
   have h0:eqJ (x::xs) (y::ys) 0=eqV x y:=rfl
   have h1:(eqJ (x::xs) (y::ys)) ∘ Nat.succ=eqJ xs ys:=by
    funext j
    simp[eqJ,Function.comp]
   have hl:((x::xs).length==(y::ys).length)=(xs.length==ys.length):=by
    rw[sF]
    simp
   rw[hm,sV,pY,List.all_map,h0,h1,hl,Bool.and_assoc,ih]
   rfl
def zoi{A:Around}{s:Shared}{xs ys:List V}{us vs:aj}(r:Vals xs us)(q:Vals ys vs)(fx:xs.all zcd=true)(fy:ys.all zcd=true)(j:Nat)(h1:j<us.toArray.size)(h2:j<vs.toArray.size):
    SeqAt.EqAt A s us.toArray[j] vs.toArray[j] (eqJ xs ys j):=by
 have l1:j<xs.length:=by rw[r.length];simpa using h1
 have l2:j<ys.length:=by rw[q.length];simpa using h2
 obtain⟨u,eu,ru⟩:=r.get (tj l1)
 obtain⟨v,ev,rv⟩:=q.get (tj l2)
 have e1:us.toArray[j]=u:=by
  have:=(List.getElem?_eq_some_iff.mp eu).2
  simpa using this
 have e2:vs.toArray[j]=v:=by
  have:=(List.getElem?_eq_some_iff.mp ev).2
  simpa using this
 have e3:eqJ xs ys j=eqV xs[j] ys[j]:=by
  unfold eqJ
  rw[tj l1,tj l2]
 rw[e1,e2,e3]
 exact zod ru rv (all_eq_true.mp fx _ (sI l1)) (all_eq_true.mp fy _ (sI l2))
def rEqT(K:am):R2:=λx y H Q=>∃a b xs ys,x=.ref a/\y=.ref b/\SqT K H a xs/\SqT K H b ys/\xs.all zcd=true/\ys.all zcd=true/\Q (.bl (eqVs xs ys)) H
def zoj(hu:X.A.units<cLine):OpR X (compareOp .Eq) (rEqT X.K):=by
 intro ai s σ H x y v u Q I rx ry h
 obtain⟨a,b,xs,ys,rfl,rfl,hx,hy,fx,fy,q⟩:=h
 cases rx
 cases ry
 obtain⟨its,r,pl,hz⟩:=I.tuple hx
 obtain⟨its2,r2,pl2,hz2⟩:=I.tuple hy
 refine SeqAt.eq_tupleAt (e:=eqJ xs ys) pl pl2 hu (λj h1 h2=>zoi r r2 fx fy j h1 h2) ⟨.bl _,H,I,rfl,?_⟩
 have e1:its.toArray.size=xs.length:=by simp[r.length]
 have e2:its2.toArray.size=ys.length:=by simp[r2.length]
 rw[e1,e2,zfp]
 exact q
theorem bH:∀{xs ys:List V},xs.length≠ys.length->eqVs xs ys=false
 | [],[],h=>absurd rfl h
 | [],_::_,_=>rfl
 | _::_,[],_=>rfl
 | x::xs,y::ys,h=>by
   show(eqV x y&&eqVs xs ys)=false
   rw[bH (λe=>h (by simp[e])),Bool.and_false]
def rEqL(K:am):R2:=λx y H Q=>∃a b xs ys,x=.ref a/\y=.ref b/\SqL K H a xs/\SqL K H b ys/\xs.all zcd=true/\ys.all zcd=true/\Q (.bl (eqVs xs ys)) H
def zhv(hu:X.A.units<cLine):OpR X (compareOp .Eq) (rEqL X.K):=by
 intro ai s σ H x y v u Q I rx ry h
 obtain⟨a,b,xs,ys,rfl,rfl,hx,hy,fx,fy,q⟩:=h
 cases rx
 cases ry
 obtain⟨its,r,pl,hz⟩:=I.list hx
 obtain⟨its2,r2,pl2,hz2⟩:=I.list hy
 have e1:its.toArray.size=xs.length:=by simp[r.length]
 have e2:its2.toArray.size=ys.length:=by simp[r2.length]
 by_cases hl:xs.length=ys.length
 ·refine SeqAt.eq_listAt (e:=eqJ xs ys) pl.isList pl2.isList (by omega) hu (λj h1 h2=>zoi r r2 fx fy j h1 h2) ⟨.bl _,H,I,rfl,?_⟩
  have z:=zfp xs ys
  rw[<-hl,Nat.min_self]at z
  rw[e1]
  have z':(List.range xs.length).all (eqJ xs ys)=eqVs xs ys:=by
   rw[<-z]
   simp
  rw[z']
  exact q
 ·refine SeqAt.eq_list_lengthsAt pl.isList pl2.isList ?_ hu ⟨.bl _,H,I,rfl,?_⟩
  ·rw[e1,e2]
   simpa using hl
  ·rw[bH hl]at q
   exact q
theorem zem:∀ns:List Int,eqVs (ns.map V.int) (ns.map V.int)=true
 | []=>rfl
 | n::ns=>by
   show((n==n)&&eqVs (ns.map V.int) (ns.map V.int))=true
   rw[zem ns]
   simp
end
def zbs{H:Hp}{p:Addr}(h:H p=none)(o:HO):Same H (upd H p o):=λb u q=>by rw[zaw (zaA q h)];exact q
section
variable{X:Cx}{es:List Expr}{t:TA}{pos:Pos}
def zvz(t:TA):TE:=λσ H Q=>t σ H λxs H1=>xs.length<=sizeLine/\∀p H2,Same H1 H2->H1 p=none->H2 p=some (.tup xs)->Q (.ref p) H2
def zvA(t:TA):TE:=λσ H Q=>t σ H λxs H1=>xs.length<=sizeLine/\∀p H2,Same H1 H2->H1 p=none->H2 p=some (.lst xs)->Q (.ref p) H2
def zaK {x1} (h:PA X es t):PE X (.Tuple es x1 pos) (zvz t):=by
 with_unfolding_all
  intro ai s σ H Q I hq
  refine wpAny_Tuple_spliced (thn (h pos ai s σ H _ I hq) λus s1 ⟨xs,H1,I1,r,z,q⟩=>⟨by rw[<-r.length];exact z,?_⟩)
  have hf:H1 s1.heap.objs.size=none:=I1.hok.fresh (tF _)
  refine⟨.ref s1.heap.objs.size,upd H1 s1.heap.objs.size (.tup xs),I1.laid (t':=s1.toks) (λb u e=>tz _ e) (tF _) ?_,rfl,q _ _ (zbs hf _) hf zar⟩
  exact⟨z,us,r,⟨_,tJ _ rfl,rfl,_,rfl⟩⟩
def az(h:PA X es t):PE X (.List es pos) (zvA t):=by
 with_unfolding_all
  intro ai s σ H Q I hq
  refine wpAny_List_spliced (thn (h pos ai s σ H _ I hq) λus s1 ⟨xs,H1,I1,r,z,q⟩=>⟨by rw[<-r.length];exact z,?_⟩)
  have hf:H1 s1.heap.objs.size=none:=I1.hok.fresh (tF _)
  refine⟨.ref s1.heap.objs.size,upd H1 s1.heap.objs.size (.lst xs),I1.laid (t':=s1.toks) (λb u e=>tz _ e) (tF _) ?_,rfl,q _ _ (zbs hf _) hf zar⟩
  exact⟨z,us,0,r,tJ _ rfl⟩
end
section
variable{X:Cx}{st:Stmt}{rest:List Stmt}{t u:TS}
def tMid(t u:TS):TS:=λD σ H=>∃M:St->Hp->Prop,t { D with nx:=M } σ H/\∀ σ' H',M σ' H'->u D σ' H'
theorem bI(h1:PS X st t)(h2:PSs X rest u):PSs X (st::rest) (tMid t u):=by
 with_unfolding_all
  intro ai s σ H D I h
  obtain⟨M,h,hm⟩:=h
  refine pO (thn (h1 ai s σ H { D with nx:=M } I h) λf s1 q=>?_)
  cases f with
  | next=>
    obtain⟨σ',H',I',q⟩:=q
    exact h2 ai s1 σ' H' D I' (hm σ' H' q)
  | ret v=>exact q
  | brk=>exact q
  | cont=>exact q
end
def sz(n:Nat)(h:n<=1000):n<=sizeLine:=pi (zax h)
def dint(a b:Int):decide (V.int a=V.int b)=decide (a=b):=by
 rw[sF]
 simp
def zug{a b:Int}(h:(!decide (V.int a=V.int b))=true):a≠b:=by
 rw[dint]at h
 simpa using h
def zol(K:am):Sp:=λvs H Q _=>∃(a:Addr)(ns:List Int),vs=[.ref a]/\SqL K H a (ns.map V.int)/\ns.length<=63/\∀H',Q (.bl true) H'
section
variable{X:Cx}
def zvB:R2:=λx y H Q=>∃l b xs zs,x=.ref l/\y=.ref b/\H l=some (.lst xs)/\H b=some (.lst zs)/\xs.length+zs.length<=sizeLine/\∀p H2,Same H H2->H p=none->H2 p=some (.lst (xs++zs))->Q (.ref p) H2
def zsH:OpR X (binaryOp .Add) zvB:=by
 intro ai s σ H x y v u Q I rx ry h
 obtain⟨l,b,xs,zs,e1,e2,h1,h2,hz,q⟩:=h
 exact zua ai s σ H x y v u Q I rx ry ⟨l,b,xs,zs,e1,e2,h1,h2,hz,λp hp=>q p _ (zbs hp _) hp zar⟩
end
def iteD{c A B:Prop} [Decidable c] (hc:c) (h:A):if decide c=true then A else B:=by
 rw[decide_eq_true hc]
 exact iteT h
def aA{c A B:Prop} [Decidable c] (hc:¬c) (h:B):if decide c=true then A else B:=by
 rw[tS hc]
 exact iteF h
end L2
set_option maxHeartbeats 4000000
namespace PySem
def zfT(env:Env)(x:Str × NameKind)(cs:List (Str × Addr)):Sem (ForInStep (List (Str × Addr))):=
 if(x.2==NameKind.free)=true then do let c <-cellOf env x.1;pure (ForInStep.yield ((x.1,c)::cs))else pure (ForInStep.yield cs)
def zrH(scope:Scope)(env:Env):closureFor scope env=(forIn scope.names ([]:List (Str × Addr)) (zfT env) >>= λcs=>pure cs):=by
 unfold closureFor
 rfl
theorem zmc{env:Env}:∀(l:List (Str × NameKind))(acc:List (Str × Addr)),(∀y∈l,y.2=.free->∃c,env.cells.lookup y.1=some c)->(∀x c,acc.lookup x=some c->env.cells.lookup x=some c)->
  ∃cl,(forIn l acc (zfT env):Sem _)=pure cl/\(∀x c,cl.lookup x=some c->env.cells.lookup x=some c)/\(∀x,(x,NameKind.free)∈l->∃c,cl.lookup x=some c)/\(∀x c,acc.lookup x=some c->∃c,cl.lookup x=some c)/\(∀x c,cl.lookup x=some c->(x,NameKind.free)∈l\/∃c',acc.lookup x=some c')
 | [],acc,_,ha=>⟨acc,rfl,ha,λx h=>(by cases h),λx c h=>⟨c,h⟩,λx c h=>.inr ⟨c,h⟩⟩
 | (n,k)::l,acc,h,ha=>by
   by_cases hk:k=.free
   ·subst hk
    obtain⟨c,hc⟩:=h (n,.free) tN rfl
    have ha':∀x c',((n,c)::acc).lookup x=some c'->env.cells.lookup x=some c':=λx c' e=>by
     rw[lookup_cons]at e
     by_cases q:x=n
     ·subst q
      simp at e
      rw[hc,e]
     ·have:(x==n)=false:=by simpa using q
      rw[this]at e
      exact ha x c' e
    obtain⟨cl,e1,e2,e3,e4,e5⟩:=zmc l ((n,c)::acc) (λy hy=>h y (tO _ hy)) ha'
    refine⟨cl,?_,e2,λx hx=>?_,λx c' hx=>?_,λx c' hx=>?_⟩
    ·rw[List.forIn_cons]
     have:zfT env (n,.free) acc=pure (ForInStep.yield ((n,c)::acc)):=by
      simp only[zfT,cellOf,hc]
      rfl
     rw[this,pure_bind]
     exact e1
    ·rcases mem_cons.mp hx with q | q
     ·cases q
      exact e4 n c (by simp)
     ·exact e3 x q
    ·by_cases q:x=n
     ·subst q
      exact e4 x c (by simp)
     ·have:(x==n)=false:=by simpa using q
      exact e4 x c' (by rw[lookup_cons,this];exact hx)
    ·rcases e5 x c' hx with z | ⟨d,z⟩
     ·exact .inl (tO _ z)
     ·by_cases q:x=n
      ·subst q
       exact .inl tN
      ·have:(x==n)=false:=by simpa using q
       rw[lookup_cons,this]at z
       exact .inr ⟨d,z⟩
   ·obtain⟨cl,e1,e2,e3,e4,e5⟩:=zmc l acc (λy hy=>h y (tO _ hy)) ha
    refine⟨cl,?_,e2,λx hx=>?_,e4,λx c' hx=>(e5 x c' hx).imp (tO _) id⟩
    ·rw[List.forIn_cons]
     have:zfT env (n,k) acc=pure (ForInStep.yield acc):=by
      have z:(k==NameKind.free)=false:=by simpa using hk
      simp only[zfT,z]
      rfl
     rw[this,pure_bind]
     exact e1
    ·rcases mem_cons.mp hx with q | q
     ·cases q
      exact absurd rfl hk
     ·exact e3 x q
def fc{scope:Scope}{env:Env}(h:∀y∈scope.names,y.2=.free->∃c,env.cells.lookup y.1=some c):
    ∃cl,closureFor scope env=pure cl/\(∀x c,cl.lookup x=some c->env.cells.lookup x=some c)/\(∀x,(x,NameKind.free)∈scope.names->∃c,cl.lookup x=some c):=by
 obtain⟨cl,e1,e2,e3,_⟩:=zmc scope.names [] h (λx c e=>by simp at e)
 exact⟨cl,by rw[zrH,e1];rfl,e2,e3⟩
def fe{scope:Scope}{env:Env}(h:∀y∈scope.names,y.2=.free->∃c,env.cells.lookup y.1=some c):
    ∃cl,closureFor scope env=pure cl/\(∀x c,cl.lookup x=some c->env.cells.lookup x=some c)/\(∀x,(x,NameKind.free)∈scope.names->∃c,cl.lookup x=some c)/\(∀x c,cl.lookup x=some c->(x,NameKind.free)∈scope.names):=by
 obtain⟨cl,e1,e2,e3,_,e5⟩:=zmc scope.names [] h (λx c e=>by simp at e)
 exact⟨cl,by rw[zrH,e1];rfl,e2,e3,λx c e=>(e5 x c e).elim id λ⟨_,z⟩=>by simp at z⟩
end PySem
namespace L2
open PySem PySem.Spec PyProof.Rows
abbrev av(X:Cx)(N:List Str)(scope:Scope)(cl:List (Str × Addr))(C:Addr)(s₀:Shared)(H₀:Hp)(ex:List Addr):Cx where
 prog:=X.prog
 w:=X.w
 K:=X.K
 mg:=X.mg
 bj:=X.bj
 A:=X.A
 N:=N
 s₀:=s₀
 H₀:=H₀
 env:=compEnvC scope cl C X.env
 outer:=X.stack
 stack:=X.stack
 ex:=ex
 fn:=λ_=>false
 calm:=X.calm
 pn:=[]
 xe:=λ_ _=>False
def zhw(Y:Cx)(ifs:List Expr)(t:TT):Prop:=
 ∀(ai:ae)(s:Shared)(σ:St)(H:Hp)(Q:Bool->Hp->Prop),Inv Y ai σ H s->t σ H Q->
  wpAny (model Y.prog Y.w) Y.A (forIn ifs true λc r=>if r=true then do let ok <-isTrue c Y.env (eval c Y.env);pure (ForInStep.yield ok)else pure (ForInStep.yield r)) (TP Y ai σ Q) Y.xe s
def tYes:TT:=λ_ H Q=>Q true H
def zbx{Y:Cx}:zhw Y [] tYes:=λ_ _ _ H _ I h=>wpAny_tests_nil ⟨H,I,h⟩
theorem zcN{Y:Cx}{c:Expr}{t:TT}(h:PT Y c t):zhw Y [c] t:=by
 with_unfolding_all
  exact λai s σ H Q I q=>wpAny_tests_one (h ai s σ H Q I q)
def caps(σ:St)(js:List Nat):St:=js.map λj=>(σ[j]?).join
def zdK(J:It)(js:List Nat)(tc:TT)(te:TE)(σ:St)(H1:Hp)(Q:VK):Prop:=
 ∀D H2,Same H1 H2->H1 D=none->H2 D=some (.lst [])->∃W:Nat->Nat->List V->Hp->Prop,(∃m,W 0 m [] H2)/\∀i m acc H3,W i m acc H3->
  H3 D=some (.lst acc)/\acc.length<sizeLine/\((J.stop i H3/\Q (.ref D) H3)\/(J.go i H3/\∀x H4,J.yld i H3 x H4->
   tc (some x::caps σ js) H4 λb H5=>if b=true then te (some x::caps σ js) H5 λv H6=>H6 D=some (.lst acc)/\
       ∀H7,(∀b o,b≠D->H6 b=some o->H7 b=some o)->H7 D=some (.lst (acc++[v]))->∃m',m'<m/\W (i+1) m' (acc++[v]) H7
    else ∃m',m'<m/\W (i+1) m' acc H5))
def zsI(wi:TI)(js:List Nat)(tc:TT)(te:TE):TE:=λσ H Q=>wi σ H λJ H1=>zdK J js tc te σ H1 Q
structure CompScope(X:Cx)(scope:Scope)(x:Str)(N:List Str)(js:List Nat):Prop where
 kind:scope.kind=.function
 nocell:∀y∈scope.names,y.2≠.cell
 loc:∀y∈scope.names,y.2=.local->scope.names.lookup y.1=some .local
 own:scope.names.lookup x=some .local
 free:∀y∈scope.names,y.2=.free->X.env.kindOf y.1=some .cell
 nd:N.Nodup
 head:N[0]?=some x
 len:N.length=js.length+1
 apart:∀y,scope.names.lookup y=some .local->(y,NameKind.free)∉scope.names
 cap:∀(k j:Nat)(y:Str),N[k+1]?=some y->js[k]?=some j->X.N[j]?=some y/\Vis X.env.scope y/\X.env.kindOf y=some .cell/\(y,NameKind.free)∈scope.names
def CompScope.of{X:Cx}{scope:Scope}{x:Str}{N:List Str}{js:List Nat}(c1:scope.kind=.function)(c2:(scope.names.all λy=>y.2 != .cell)=true)
    (c3:(scope.names.all λy=>y.2 != .local||scope.names.lookup y.1==some .local)=true) (c4:scope.names.lookup x=some .local) (c5:(scope.names.all λy=>y.2 != .free||X.env.kindOf y.1==some .cell)=true)
    (nd:N.Nodup) (hd:N[0]?=some x) (len:N.length=js.length+1) (c6:(scope.names.all λy=>y.2 != .free||scope.names.lookup y.1 != some .local)=true)
    (c7:(((N.drop 1).zip js).all λp=>X.N[p.2]?==some p.1&&X.env.scope.names.lookup p.1==some .cell&&scope.names.contains (p.1,NameKind.free))=true):CompScope X scope x N js where
 kind:=c1
 nocell:=λy hy e=>by
  have:=all_eq_true.mp c2 y hy
  rw[e]at this
  exact absurd this (by decide)
 loc:=λy hy e=>by
  have:=all_eq_true.mp c3 y hy
  rw[e]at this
  simpa using this
 own:=c4
 free:=λy hy e=>by
  have:=all_eq_true.mp c5 y hy
  rw[e]at this
  simpa using this
 nd:=nd
 head:=hd
 len:=len
 apart:=λy hl hm=>by
  have:=all_eq_true.mp c6 _ hm
  rw[hl]at this
  simp at this
 cap:=λk j y h1 h2=>by
  have hz:((N.drop 1).zip js)[k]?=some (y,j):=by
   rw[qc]
   exact⟨by rw[List.getElem?_drop,Nat.add_comm];exact h1,h2⟩
  have:=all_eq_true.mp c7 _ (tE hz)
  simp only[Bool.and_eq_true,beq_iff_eq]at this
  obtain⟨⟨a,b⟩,c⟩:=this
  exact⟨a,.inr (.inl b),b,by simpa using c⟩
def zgP{scope:Scope}{env:Env}{y:Str}{k:NameKind}(h:(relabel scope env).names.lookup y=some k)(hk:k=.cell\/k=.free)(nocell:∀z∈scope.names,z.2≠.cell):(y,NameKind.free)∈scope.names:=by
 have hm:=sk h
 obtain⟨⟨n,k'⟩,hn,e⟩:=mem_map.mp hm
 dsimp only at e
 by_cases c:(k'==NameKind.free&&env.scope.kind==.function&&env.kindOf n==some .cell)=true
 ·rw[if_pos c]at e
  have ek:k'=.free:=by
   simp only[Bool.and_eq_true,beq_iff_eq]at c
   exact c.1.1
  cases e
  rw[<-ek]
  exact hn
 ·rw[if_neg c]at e
  cases e
  rcases hk with rfl | rfl
  ·exact absurd rfl (nocell _ hn)
  ·exact hn
def bJ(J:It)(nk:Nat)(g:TG)(js:List Nat)(tc:TT)(te:TE)(σ:St)(H1:Hp)(Q:VK):Prop:=
 ∀D H2,Same H1 H2->H1 D=none->H2 D=some (.lst [])->∃W:Nat->Nat->List V->Hp->Prop,(∃m,W 0 m [] H2)/\∀i m acc H3,W i m acc H3->
  H3 D=some (.lst acc)/\acc.length<sizeLine/\((J.stop i H3/\Q (.ref D) H3)\/(J.go i H3/\∀os:St,os.length=nk->∀x H4,J.yld i H3 x H4->
   g x (os++caps σ js) H4 λσ5 H5=>∃o5:St,o5.length=nk /\ σ5=o5++caps σ js/\
   tc (o5++caps σ js) H5 λb H5=>if b=true then te (o5++caps σ js) H5 λv H6=>H6 D=some (.lst acc)/\
       ∀H7,(∀b o,b≠D->H6 b=some o->H7 b=some o)->H7 D=some (.lst (acc++[v]))->∃m',m'<m/\W (i+1) m' (acc++[v]) H7
    else ∃m',m'<m/\W (i+1) m' acc H5))
def zuh(wi:TI)(nk:Nat)(g:TG)(js:List Nat)(tc:TT)(te:TE):TE:=λσ H Q=>wi σ H λJ H1=>bJ J nk g js tc te σ H1 Q
structure CompScopeN(X:Cx)(scope:Scope)(nk:Nat)(N:List Str)(js:List Nat):Prop where
 kind:scope.kind=.function
 nocell:∀y∈scope.names,y.2≠.cell
 loc:∀y∈scope.names,y.2=.local->scope.names.lookup y.1=some .local
 own:∀(i:Nat)(x:Str),N[i]?=some x->i<nk->scope.names.lookup x=some .local
 free:∀y∈scope.names,y.2=.free->X.env.kindOf y.1=some .cell
 nd:N.Nodup
 len:N.length=js.length+nk
 apart:∀y,scope.names.lookup y=some .local->(y,NameKind.free)∉scope.names
 cap:∀(k j:Nat)(y:Str),N[k+nk]?=some y->js[k]?=some j->X.N[j]?=some y/\Vis X.env.scope y/\X.env.kindOf y=some .cell/\(y,NameKind.free)∈scope.names
def CompScope.n{X:Cx}{scope:Scope}{x:Str}{N:List Str}{js:List Nat}(S:CompScope X scope x N js):CompScopeN X scope 1 N js:=⟨S.kind,S.nocell,S.loc,λi y e h=>by
 have:i=0:=by omega
 subst this
 rw[S.head]at e
 cases e
 exact S.own,S.free,S.nd,S.len,S.apart,S.cap⟩
def ziH{X:Cx}{ai:ae}{s:Shared}{σ:St}{H:Hp}{Q:VK}{use:Option (Value->Sem Unit)}{QQ:ac}{iter elt tg:Expr}{nk:Nat}{g:TG}{ifs:List Expr}{scope:Scope}{pos pos':Pos}{wi:TI}{N:List Str}{js:List Nat}{tc:TT}{te:TE}{R:It->Hp->Prop}
    (hc:X.calm=true) (S:CompScopeN X scope nk N js) (hg:∀cl C s₀ H₀ ex,(∀(i:Nat)(x:Str)(px:Pos),N[i]?=some x->i<nk->PG (av X N scope cl C s₀ H₀ ex) (.Name x px) (zjD i))->PG (av X N scope cl C s₀ H₀ ex) tg g) (hi:PI X tg iter wi)
    (ht:∀cl C s₀ H₀ ex,zhw (av X N scope cl C s₀ H₀ ex) ifs tc) (he:∀cl C s₀ H₀ ex,PE (av X N scope cl C s₀ H₀ ex) elt te)
    (hs:∀x,foldedSetIterable iter X.env x=pure x) (I:Inv X ai σ H s) (h:wi σ H R) (hR:∀J H1,R J H1->bJ J nk g js tc te σ H1 Q)
    (fin:∀{cl:List (Str × Addr)}{C D:Addr}{s2 s5:Shared}{H2 H4:Hp}{fp:List Addr}{o:St},o.length=nk->C=s2.heap.objs.size+1->D=s2.heap.objs.size->(∀b,b<s2.heap.objs.size->b≠C/\b≠D)->Inv X ai σ H2 s2->(∀b∈fp,FpOk X ai H2 b)->Inv (av X N scope cl C s2 H2 fp) [] (o++caps σ js) H4 s5->Q (.ref D) H4->∀a,compPost (model X.prog X.w) X.A X.xe use QQ (.ref D) C (.ok a) s5):
    wpAny (model X.prog X.w) X.A (comprehension (.ListComp elt [⟨tg,iter,ifs,0⟩] scope pos) scope X.env pos' (newList []) false (eval iter X.env) use) QQ X.xe s:=by
 with_unfolding_all
  have hcells:∀y∈scope.names,y.2=.free->∃c,X.env.cells.lookup y.1=some c:=λy hy hf=>I.ok.has y.1 (.inl (S.free y hy hf))
  obtain⟨cl,ecl,cl1,cl2⟩:=fc hcells
  refine wpAny_comprehension_free (use:=use) rfl hs ecl S.kind S.loc (thn (hi ai s σ H _ I h) λv s1 h1=>thn h1 λitv s2 h2=>?_)
  obtain⟨it,fp,tn,J,H2,e,I2,T,st2,f2,q2⟩:=h2
  replace q2:=hR _ _ q2
  subst e
  refine rF (wpAny_newFunctionEnv S.nocell (by intro y hy;simp at hy) (λh₁ hns₁ hsb₁=>?_) S.kind)
  dsimp only at hns₁ hsb₁ ⊢
  generalize hP2:s2.heap.push { cls:=.type "list",dict:=none,data:=.seq ([]:aj).toArray }=P2 at hns₁ hsb₁ ⊢
  have hC:P2.objs.size=s2.heap.objs.size+1:=by rw[<-hP2,pD]
  have below:∀b,b<s2.heap.objs.size->b≠P2.objs.size/\b≠s2.heap.objs.size:=λb hb=>⟨by rw[hC];exact tM (pG hb),tM hb⟩
  have hDC:s2.heap.objs.size≠P2.objs.size:=by rw[hC];exact tM (re _)
  have old:∀b o,s2.heap.get? b=some o->h₁.get? b=some o:=λb o e=>hsb₁.extBut b o (below b (tI e)).1 (tz _ (hP2▸tz _ e))
  have hD:h₁.get? s2.heap.objs.size=some { cls:=.type "list",dict:=none,data:=.seq ([]:aj).toArray }:=hsb₁.extBut _ _ hDC (tz _ (hP2▸tJ _ rfl))
  have hDn:H2 s2.heap.objs.size=none:=I2.hok.fresh (tF _)
  have hCn:H2 P2.objs.size=none:=I2.hok.fresh (by rw[hC];exact rn _)
  obtain⟨W,⟨m0,w0⟩,turn⟩:=q2 s2.heap.objs.size _ (zbs hDn (.lst [])) hDn zar
  have fpl:∀b∈fp,b<s2.heap.objs.size:=λb hb=>by
   obtain⟨o,e,_⟩:=T.obj 0 _ st2 b hb
   exact tI e
  have yok:(av X N scope cl P2.objs.size s2 H2 fp).Ok:=
   { mod:=I2.ok.mod
     kind:=S.kind
     glob:=I2.ok.glob
     blt:=I2.ok.blt
     above:=by show s2.heap.objs.size<=P2.objs.size;rw[hC];exact rn _
     inj:=λy z c h1 h2=>I2.ok.inj y z c (cl1 y c h1) (cl1 z c h2)
     has:=λy hy=>by
      have hy':(y,NameKind.free)∈scope.names:=by
       rcases hy with hy | hy
       ·exact zgP (env:=X.env) hy (.inl rfl) S.nocell
       ·exact zgP (env:=X.env) hy (.inr rfl) S.nocell
      exact cl2 y hy'
     cab:=λy c hf _=>by cases hf
     hd:=λhc'=>I2.ok.hd hc'
     frames:=I2.ok.frames
     stk:=.inl rfl
     exf:=λb hb=>⟨(below b (fpl b hb)).1,λy c e=>(f2 b hb).2.2.2.2.1 y c (cl1 y c e)⟩
     bs:=I2.bs
     bsz:=tU I2.ok.bsz I2.sz
     noex:=λb o e hb=>by
      rcases(f2 b hb).2.2.2.1 with z | z
      ·exact I2.ok.noex b o e z
      ·exact absurd (tQ (tQ (tI e) I2.ok.bsz) z) (rZ _)
     exfs:=λb hb hf=>by
      rcases mem_cons.mp (I2.stkSub b hf)with z | z
      ·exact(f2 b hb).2.1 z
      ·exact(f2 b hb).2.2.1 z
     funs:=I2.stack
     frf:=I2.stkFree }
  have hokD:HOk X.prog X.w (upd H2 s2.heap.objs.size (.lst [])) h₁:=I2.hok.laid old (tF _) ⟨tV _,[],0,.nil,hD⟩
  have I3:Inv (av X N scope cl P2.objs.size s2 H2 fp) [] (List.replicate nk none++caps σ js) (upd H2 s2.heap.objs.size (.lst [])) { s2 with heap:=h₁,toks:=s2.toks+([]:List (Str × Value)).length }:=
   { ok:=yok
     os:=rfl
     bare:=I2.bare
     bj:=Un.laid old (tF _) hDn
     loc:=by
      refine⟨_,hns₁,λi y v e1 e2 e3=>?_⟩
      by_cases ik:i<nk
      ·rw[sR (by simpa using ik),List.getElem?_replicate,if_pos ik]at e2
       cases e2
      ·obtain⟨k,rfl⟩:∃k,i=k+nk:=⟨i-nk,by omega⟩
       have e2':(caps σ js)[k]?=some (some v):=by
        rw[sN (by simp)]at e2
        simpa using e2
       unfold caps at e2'
       rw[getElem?_map]at e2'
       cases ej:js[k]? with
       | none=>rw[ej]at e2';cases e2'
       | some j=>
         rw[ej]at e2'
         have e4:(σ[j]?).join=some v:=tL e2'
         have e5 : σ[j]?=some (some v):=by
          cases eσ : σ[j]? with
          | none=>rw[eσ]at e4;cases e4
          | some o=>rw[eσ]at e4;exact tW some e4
         obtain⟨n1,n2,n3,n4⟩:=S.cap k j y e1 ej
         obtain⟨mX,_,lX⟩:=I2.loc
         obtain⟨u,ru,lk⟩:=lX j y v n1 e5 n2
         refine⟨u,ru,?_⟩
         rcases lk with⟨lk,_⟩ | ⟨_,c,ec,cell⟩
         ·rw[n3]at lk;cases lk
         ·obtain⟨c',ec'⟩:=cl2 y n4
          have:c'=c:=tL ((cl1 y c' ec').symm.trans ec)
          subst this
          obtain⟨o,ho,hd⟩:=cell
          refine .inr ⟨?_,c',ec',⟨o,old _ _ ho,hd⟩⟩
          have e3':(relabel scope X.env).names.lookup y=some .local\/(relabel scope X.env).names.lookup y=some .cell\/(relabel scope X.env).names.lookup y=some .free:=e3
          rcases e3' with z | z | z
          ·exfalso
           have hm:=sk z
           obtain⟨⟨n,k'⟩,hn,e⟩:=mem_map.mp hm
           dsimp only at e
           by_cases cc:(k'==NameKind.free&&X.env.scope.kind==.function&&X.env.kindOf n==some .cell)=true
           ·rw[if_pos cc]at e
            cases e
           ·rw[if_neg cc]at e
            cases e
            have l1:=S.loc _ hn rfl
            have l2:=qQ (env:=X.env) l1
            have f1:=S.free _ n4 rfl
            exact S.apart y l1 n4
          ·exact .inl z
          ·exact .inr z
     cell:=λy c e=>by
      obtain⟨v,o,ho,hd⟩:=I2.cell y c (cl1 y c e)
      exact⟨v,o,old _ _ ho,hd⟩
     free:=by show upd H2 s2.heap.objs.size (.lst []) P2.objs.size=none;rw[zaw (Ne.symm hDC)];exact hCn
     freeC:=λy c e=>by
      obtain⟨v,o,ho,hd⟩:=I2.cell y c (cl1 y c e)
      rw[zaw (below c (tI ho)).2]
      exact I2.freeC y c (cl1 y c e)
     pin:=λp hp=>by simp at hp
     hok:=hokD
     len:=by show(List.replicate nk none++caps σ js).length=N.length;rw[S.len];simp[caps,Nat.add_comm] }
  have st3:tn 0 h₁:=T.keep 0 _ _ st2 λb _ o e=>old b o e
  have fr3:∀b∈fp,(upd H2 s2.heap.objs.size (.lst [])) b=none:=λb hb=>by
   rw[zaw (below b (fpl b hb)).2]
   exact(f2 b hb).1
  have stat:∀{H':Hp},(∀b∈fp,H' b=none)->∀b∈fp,FpOk (av X N scope cl P2.objs.size s2 H2 fp) [] H' b:=λhn b hb=>
   ⟨hn b hb,(below b (fpl b hb)).1,yok.exfs b hb,.inl hb,λy c e=>(f2 b hb).2.2.2.2.1 y c (cl1 y c e),λp hp=>by simp at hp⟩
  have pgn:PG (av X N scope cl P2.objs.size s2 H2 fp) tg g:=hg cl _ s2 H2 fp λi x px e1 e2=>ay S.nd e1 (.inl (qQ (S.own i x e1 e2))) (.inr (qQ (S.own i x e1 e2)))
  have loop:∀s₃:Shared,s₃ = { s2 with heap:=h₁,toks:=s2.toks+([]:List (Str × Value)).length }->
    codeAny (model X.prog X.w) X.A (.compLoop (.ListComp elt [⟨tg,iter,ifs,0⟩] scope pos) 0 (.ref it) (.ref s2.heap.objs.size) (compEnvC scope cl P2.objs.size X.env))
     (compPost (model X.prog X.w) X.A X.xe use QQ (.ref s2.heap.objs.size) P2.objs.size) s₃:=by
   rintro s₃ rfl
   refine codeAny_loop rfl (λn s'=>∃i,∃o:St,∃acc H',o.length=nk/\Inv (av X N scope cl P2.objs.size s2 H2 fp) [] (o++caps σ js) H' s'/\tn i s'.heap/\(∀b∈fp,H' b=none)/\W i n acc H') ?_ m0 ⟨0,List.replicate nk none,[],_,List.length_replicate,I3,st3,fr3,w0⟩
   rintro n s4 ⟨i,o,acc,H4,ol,I4,st4,fr4,w4⟩
   show wpAny _ X.A ((compTurn (.ListComp elt [⟨tg,iter,ifs,0⟩] scope pos) 0 (.ref it) (.ref s2.heap.objs.size) (compEnvC scope cl P2.objs.size X.env)).onRaise (λx=>do noteFrame x (compEnvC scope cl P2.objs.size X.env);theTreesLotGoes x)) _ _ s4
   refine wpAny_noted ?_
   rw[compTurn_list]
   refine tD (wpAny_standAt (tD ?_))
   obtain⟨hD4,hz4,alt⟩:=turn i n acc H4 w4
   rcases alt with⟨stop,qn⟩ | ⟨go,step⟩
   ·refine thn (T.done (av X N scope cl P2.objs.size s2 H2 fp) rfl rfl rfl hc i [] s4 _ H4 _ I4 (stat fr4) st4 stop) λr s5 ⟨hr,I5⟩=>?_
    subst hr
    refine tH ?_
    exact fin ol hC rfl below I2 f2 I5 qn _
   ·refine thn (T.item (av X N scope cl P2.objs.size s2 H2 fp) rfl rfl rfl hc i [] s4 _ H4 _ I4 (stat fr4) st4 go) λr s5 ⟨u,hr,h5⟩=>?_
    subst hr
    refine tD (thn h5 λ_ s6 ⟨y,H6,I6,r6,y6,st6,fr6⟩=>?_)
    have I6':=I6.pinned (stat fr6) (T.obj _ _ st6)
    refine tD (sP (pgn _ s6 (o++caps σ js) H6 y u _ I6' r6 (step o ol y _ y6)) (λ_ s7 ⟨σ7,H7,I7,o7,l7,e7,q7⟩=>?_) λ_ _ z=>z.elim)
    subst e7
    have back:∀{s9:Shared}{H9:Hp}{acc9:List V}{m9:Nat},Inv (av X N scope cl P2.objs.size s2 H2 fp) ([]++zjG fp s6.heap) (o7++caps σ js) H9 s9->m9<n->W (i+1) m9 acc9 H9->
      ∃m,m<n/\∃i,∃o:St,∃acc H',o.length=nk/\Inv (av X N scope cl P2.objs.size s2 H2 fp) [] (o++caps σ js) H' s9/\tn i s9.heap/\(∀b∈fp,H' b=none)/\W i m acc H':=λ{s9 H9 acc9 m9} I9 hm w9=>by
     refine⟨m9,hm,i+1,o7,acc9,H9,l7,I9.unpinned,T.keep _ _ _ st6 λb hb o e=>(I9.pin (b,o) (tX _ (tX _ (bA hb e)))).1,λb hb=>?_,w9⟩
     obtain⟨o,e,d⟩:=T.obj _ _ st6 b hb
     exact(I9.pin (b,o) (tX _ (tX _ (bA hb e)))).2.1
    refine tD (sP (ht cl _ s2 H2 fp _ s7 _ _ _ I7 q7) (λok s8 ⟨H8,I8,q8⟩=>?_) λ_ _ z=>z.elim)
    cases ok with
    | false=>
      obtain⟨m9,hm,w9⟩:=q8
      exact tH ⟨rfl,back I8 hm w9⟩
    | true=>
      refine tD (tD (sP (he cl _ s2 H2 fp _ s8 _ _ _ I8 q8) (λxv s9 ⟨v9,H9,I9,r9,hD9,q9⟩=>?_) λ_ _ z=>z.elim))
      refine tD (sP (zjV (X:=av X N scope cl P2.objs.size s2 H2 fp) _ s9 _ H9 (.ref s2.heap.objs.size) [v9] (.ref s2.heap.objs.size) [xv] (λ_ H'=>H'=upd H9 s2.heap.objs.size (.lst (acc++[v9]))) I9 rfl (.cons r9 .nil) ⟨_,acc,v9,rfl,rfl,hD9,hz4,rfl⟩) (λ_ s10 ⟨v10,H10,I10,_,e10⟩=>?_) λ_ _ z=>z.elim)
      subst e10
      obtain⟨m9,hm,w9⟩:=q9 _ (λb o hb e=>by rw[zaw hb];exact e) zar
      exact tH (tH ⟨rfl,back I10 hm w9⟩)
  exact codeAny_compStart_list (loop _ rfl) (T.self _ 0 _ _ _ st3 (loop _ rfl))
theorem zjX{X:Cx}{ai:ae}{s:Shared}{σ:St}{H:Hp}{Q:VK}{use:Option (Value->Sem Unit)}{QQ:ac}{iter elt:Expr}{x:Str}{px:Pos}{ifs:List Expr}{scope:Scope}{pos pos':Pos}{wi:TI}{N:List Str}{js:List Nat}{tc:TT}{te:TE}
  (hc:X.calm=true) (S:CompScope X scope x N js) (hi:PI X (.Name x px) iter wi)
  (ht:∀cl C s₀ H₀ ex,zhw (av X N scope cl C s₀ H₀ ex) ifs tc) (he:∀cl C s₀ H₀ ex,PE (av X N scope cl C s₀ H₀ ex) elt te)
  (hs:∀x,foldedSetIterable iter X.env x=pure x) (I:Inv X ai σ H s) (h:zsI wi js tc te σ H Q)
  (fin:∀{cl:List (Str × Addr)}{C D:Addr}{s2 s5:Shared}{H2 H4:Hp}{fp:List Addr}{o:Option V},C=s2.heap.objs.size+1->D=s2.heap.objs.size->(∀b,b<s2.heap.objs.size->b≠C/\b≠D)->Inv X ai σ H2 s2->(∀b∈fp,FpOk X ai H2 b)->Inv (av X N scope cl C s2 H2 fp) [] (o::caps σ js) H4 s5->Q (.ref D) H4->∀a,compPost (model X.prog X.w) X.A X.xe use QQ (.ref D) C (.ok a) s5):
  wpAny (model X.prog X.w) X.A (comprehension (.ListComp elt [⟨.Name x px,iter,ifs,0⟩] scope pos) scope X.env pos' (newList []) false (eval iter X.env) use) QQ X.xe s:=by
 refine ziH (Q:=Q) (nk:=1) (g:=zjD 0) (tg := .Name x px) hc S.n (λcl C s₀ H₀ ex p=>p 0 x px S.head (by decide)) hi ht he hs I h (λJ H1 go D H2 s2 hD h2=>?_) λ{cl C D s2 s5 H2 H4 fp o} ol hC hD below I2 f2 I5 qn a=>?_
 ·obtain⟨W,w0,step⟩:=go D H2 s2 hD h2
  refine⟨W,w0,λi m acc H3 w3=>?_⟩
  obtain⟨b1,b2,b3⟩:=step i m acc H3 w3
  refine⟨b1,b2,b3.imp id λ⟨g1,g2⟩=>⟨g1,λos ol x H4 y=>?_⟩⟩
  match os,ol with
  | [o],_=>exact⟨[some x],rfl,rfl,g2 x H4 y⟩
 ·match o,ol with
  | [o],_=>exact fin hC hD below I2 f2 I5 qn a
def zmd{X:Cx}{ai:ae}{σ τ:St}{Q:VK}{scope:Scope}{N:List Str}{cl:List (Str × Addr)}{C D:Addr}{s2 s5:Shared}{H2 H4:Hp}{fp:List Addr}{a:Flow}(below:∀b,b<s2.heap.objs.size->b≠C/\b≠D)(I2:Inv X ai σ H2 s2)(f2:∀b∈fp,FpOk X ai H2 b)(I5:Inv (av X N scope cl C s2 H2 fp) [] τ H4 s5)(qn:Q (.ref D) H4):compPost (model X.prog X.w) X.A X.xe none (EP X ai σ Q) (.ref D) C (.ok a) s5:=by
 with_unfolding_all
  obtain⟨m5,n5,_⟩:=I5.loc
  refine⟨m5,n5,λh' sb=>⟨.ref D,H4,?_,rfl,qn⟩⟩
  have k5:∀b o,b≠C->s5.heap.get? b=some o->h'.get? b=some o:=λb o hb e=>sb.extBut b o hb e
  have u5:=I5.bj
  have nC:∀b o,s2.heap.get? b=some o->b≠C:=λb o e=>(below b (tI e)).1
  refine I2.call' (s' := { s5 with heap:=h' }) (ch:=fp) I5.os ?_ ?_ I5.bare λb hb=>⟨(f2 b hb).2.2.2.1,(f2 b hb).2.1,(f2 b hb).2.2.2.2.1,(f2 b hb).2.2.2.2.2⟩
  ·refine⟨λb o e n1 n2 n3=>k5 b o (nC b o e) (u5.keep b o e n1 n2 n3),λb o e n1 n2 n3=>?_,u5.free,λb o e n3=>?_,u5.tups,u5.frzs,u5.tbls⟩
   ·obtain⟨sl,z⟩:=u5.slot b o e n1 n2 n3
    exact⟨sl,k5 b _ (nC b o e) z⟩
   ·obtain⟨o',z⟩:=u5.there b o e n3
    exact⟨o',k5 b o' (nC b o e) z⟩
  ·intro b u e
   refine(I5.hok b u e).stay (λc v hc q=>k5 c v ?_ q) (λ_ q=>q) (λ_ _ q=>q) λ_ _ _ q=>q
   rintro rfl
   rcases hc with z | z
   ·rw[<-z,show H4 c=none from I5.free]at e;cases e
   ·have:=I5.free
    rw[show H4 c=none from I5.free]at z
    cases z
def zaN{X:Cx}{iter elt:Expr}{x:Str}{px:Pos}{ifs:List Expr}{scope:Scope}{pos:Pos}{wi:TI}{N:List Str}{js:List Nat}{tc:TT}{te:TE}
    (hc:X.calm=true) (S:CompScope X scope x N js) (hi:PI X (.Name x px) iter wi)
    (ht:∀cl C s₀ H₀ ex,zhw (av X N scope cl C s₀ H₀ ex) ifs tc) (he:∀cl C s₀ H₀ ex,PE (av X N scope cl C s₀ H₀ ex) elt te)
    (hs:∀x,foldedSetIterable iter X.env x=pure x:=by intro _;rfl):
    PE X (.ListComp elt [⟨.Name x px,iter,ifs,0⟩] scope pos) (zsI wi js tc te):=by
 with_unfolding_all
  intro ai s σ H Q I h
  rw[eval_ListComp]
  exact zjX hc S hi ht he hs I h λhC hD below I2 f2 I5 qn a=>zmd below I2 f2 I5 qn
end L2
namespace M1
def gd(x y:Int):Int:=((Int.gcd x y:Nat):Int)
def gd_zero{x:Int}(h:0<=x):gd x 0=x:=by
 unfold gd
 rw[Int.gcd_zero_right]
 omega
def gd_step{x y:Int}:gd y (x % y)=gd x y:=by
 unfold gd
 have e:x % y=x+y*(-(x / y)):=by
  rw[Int.mul_neg,Int.emod_def]
  omega
 rw[Int.gcd_comm y,e,Int.gcd_add_mul_left_left]
def gd_abs(x y:Int):gd (if x<0 then -x else x) y=gd x y:=by
 unfold gd
 split
 ·rw[Int.neg_gcd]
 ·rfl
def gd_pos{x y:Int}(h:0<y):0<gd x y:=by
 have:0<Int.gcd x y:=Int.gcd_pos_of_ne_zero_right x (by omega)
 unfold gd
 omega
def gd_dvd_left(x y:Int):gd x y∣x:=Int.gcd_dvd_left x y
def gd_dvd_right(x y:Int):gd x y∣y:=Int.gcd_dvd_right x y
def gd_le{x y:Int}(h:0<y):gd x y<=y:=Int.le_of_dvd h (gd_dvd_right x y)
def low_bot{t b:Int}(h:0<b):1<=b / gd t b:=by
 have g:=gd_pos (x:=t) h
 have d:=so (gd_dvd_right t b)
 by_cases q:b / gd t b<1
 ·have:=Int.mul_le_mul_of_nonneg_right (a:=b / gd t b) (b:=0) (c:=gd t b) (by omega) (by omega)
  omega
 ·omega
def low_bot_le{t b:Int}(h:0<b):b / gd t b<=b:=qM (gd t b) (by omega)
def low_cross(t b:Int):t / gd t b*b=t*(b / gd t b):=by
 have h1:=so (gd_dvd_left t b)
 have h2:=so (gd_dvd_right t b)
 calc t / gd t b*b=t / gd t b*(b / gd t b*gd t b):=by rw[h2]
  _=(t / gd t b*gd t b)*(b / gd t b):=by
   rw[pU (b / gd t b),pI]
  _=t*(b / gd t b):=by rw[h1]
end M1
namespace M2
open PySem
end M2
namespace L2
open PySem PySem.Spec PyProof.Rows
def Its(x:Str):It:=⟨λi _=>i<x.cps.size,λi H v H'=>H'=H/\∃c,x.cps[i]?=some c/\v=.str ⟨#[c]⟩,λi _=>x.cps.size<=i⟩
def zom{P:Program}{w:World}{K:am}{tg:Expr}(x:Str)(t:Tok)(it:Addr):Turn P w K tg (Its x) [it] it (λi h=>h.IsStrIter it "str_ascii_iterator" x t i) where
 mem:=by simp
 obj:=λi h st b hb=>by
  have e:b=it:=by simpa using hb
  subst e
  obtain⟨o,e,c,d⟩:=st
  exact⟨o,e,λv z=>by rw[d]at z;cases z⟩
 keep:=λi h h' st k=>let ⟨o,ho,r⟩:=st;⟨o,k it (by simp) o ho,r⟩
 item:=by
  intro X hP hw hK hc i ai s σ H E I hf st hg
  subst hP hw hK
  have hg:i<x.cps.size:=hg
  obtain⟨f0,f1,f2,f3,f4,f5⟩:=hf it (by simp)
  refine wpAny_pyNext_ascii_item st (c:=x.cps[i]) (by simp[hg]) λh' st' sb=>?_
  have I1:Inv X ai σ H { s with heap:=h',toks:=s.toks+1 }:=I.turned (λb o hb e=>(sb.2 b hb).trans e) f0 f1 f3 f4 f5
  obtain⟨o,e,c,d⟩:=id st'
  exact⟨_,rfl,zmX (s := { s with heap:=h',toks:=s.toks+1 }) e c d (by decide) ⟨.str ⟨#[x.cps[i]]⟩,H,I1,⟨_,rfl⟩,⟨rfl,_,by simp[hg],rfl⟩,st',λb hb=>(hf b hb).1⟩⟩
 done:=by
  intro X hP hw hK hc i ai s σ H E I hf st hg
  subst hP hw hK
  have hg:x.cps.size<=i:=hg
  obtain⟨f0,f1,f2,f3,f4,f5⟩:=hf it (by simp)
  exact wpAny_pyNext_ascii_end (I.ok.hd hc) st (by simp;omega) λh' eb=>⟨rfl,I.turned (t':=s.toks) (λb o hb e=>eb b o hb e) f0 f1 f3 f4 f5⟩
 self:=λ_ _ _ _ _ st h=>wpAny_pyIter_striter_ascii st h
def zon{P:Program}{w:World}{K:am}{tg:Expr}(x:Str)(t:Tok)(it:Addr):Turn P w K tg (Its x) [it] it (λi h=>h.IsStrIter it "str_iterator" x t i) where
 mem:=by simp
 obj:=λi h st b hb=>by
  have e:b=it:=by simpa using hb
  subst e
  obtain⟨o,e,c,d⟩:=st
  exact⟨o,e,λv z=>by rw[d]at z;cases z⟩
 keep:=λi h h' st k=>let ⟨o,ho,r⟩:=st;⟨o,k it (by simp) o ho,r⟩
 item:=by
  intro X hP hw hK hc i ai s σ H E I hf st hg
  subst hP hw hK
  have hg:i<x.cps.size:=hg
  obtain⟨f0,f1,f2,f3,f4,f5⟩:=hf it (by simp)
  refine wpAny_pyNext_wide_item st (c:=x.cps[i]) (by simp[hg]) λh' st' sb=>?_
  have I1:Inv X ai σ H { s with heap:=h',toks:=s.toks+1 }:=I.turned (λb o hb e=>(sb.2 b hb).trans e) f0 f1 f3 f4 f5
  obtain⟨o,e,c,d⟩:=id st'
  exact⟨_,rfl,zmX (s := { s with heap:=h',toks:=s.toks+1 }) e c d (by decide) ⟨.str ⟨#[x.cps[i]]⟩,H,I1,⟨_,rfl⟩,⟨rfl,_,by simp[hg],rfl⟩,st',λb hb=>(hf b hb).1⟩⟩
 done:=by
  intro X hP hw hK hc i ai s σ H E I hf st hg
  subst hP hw hK
  have hg:x.cps.size<=i:=hg
  obtain⟨f0,f1,f2,f3,f4,f5⟩:=hf it (by simp)
  exact wpAny_pyNext_wide_end (I.ok.hd hc) st (by simp;omega) λh' eb=>⟨rfl,I.turned (t':=s.toks) (λb o hb e=>eb b o hb e) f0 f1 f3 f4 f5⟩
 self:=λ_ _ _ _ _ st h=>wpAny_pyIter_striter_wide st h
section
variable{X:Cx}{tg:Expr}
def iStr(tl:TE):TI:=λσ H R=>tl σ H λv H1=>∃x,v=.str x/\R (Its x) H1
theorem zui{l:Expr}{tl:TE}(hl:PE X l tl):PI X tg l (iStr tl):=by
 with_unfolding_all
  intro ai s σ H R I h
  refine thn (hl ai s σ H _ I h) λv s1 ⟨y,H1,I1,r1,q1⟩=>?_
  obtain⟨x,e,q⟩:=q1
  subst e
  obtain⟨t,rfl⟩:=r1
  have fin:∀b,b∈[s1.heap.objs.size]->FpOk X ai H1 b:=λb hb=>by
   have e:b=s1.heap.objs.size:=by simpa using hb
   subst e
   exact I1.fpOk (tF _) (I1.hok.fresh (tF _))
  cases ha:x.cps.all (· < 128) with
  | true=>exact wpAny_pyIter_ascii ha ⟨s1.heap.objs.size,[s1.heap.objs.size],_,_,H1,rfl,I1.kept (t':=s1.toks) λb o e=>tz _ e,zom x t _,⟨_,tJ _ rfl,rfl,rfl⟩,fin,q⟩
  | false=>exact wpAny_pyIter_wide ha ⟨s1.heap.objs.size,[s1.heap.objs.size],_,_,H1,rfl,I1.kept (t':=s1.toks) λb o e=>tz _ e,zon x t _,⟨_,tJ _ rfl,rfl,rfl⟩,fin,q⟩
theorem zqD{x:Str}{js:List Nat}{tc:TT}{te:TE}{σ:St}{H1:Hp}{Q:VK}(p:Nat->Bool)(f:Nat->V)
  (ht:∀c Hh (Q':Bool->Hp->Prop),Q' (p c) Hh->tc (some (.str ⟨#[c]⟩)::caps σ js) Hh Q') (he:∀c Hh (Q':VK),Q' (f c) Hh->te (some (.str ⟨#[c]⟩)::caps σ js) Hh Q')
  (hz:x.length<sizeLine) (q:∀D H2,Same H1 H2->H2 D=some (.lst ((x.cps.toList.filter p).map f))->Q (.ref D) H2):
  zdK (Its x) js tc te σ H1 Q:=by
 intro D H2 s2 hD h2
 refine⟨λi m acc H3=>m=x.cps.size-i/\i<=x.cps.size/\acc=((x.cps.toList.take i).filter p).map f/\Same H1 H3/\H3 D=some (.lst acc),⟨_,rfl,tV _,by simp,s2,h2⟩,?_⟩
 rintro i m acc H3 ⟨rfl,hi,ea,s3,h3⟩
 have hl:acc.length<=x.length:=by
  rw[ea,tm]
  refine tU (sf _ _) ?_
  rw[sj]
  exact tU (Nat.min_le_right _ _) (pS Array.length_toList)
 refine⟨h3,by omega,?_⟩
 by_cases hlt:i<x.cps.size
 ·refine .inr ⟨hlt,λy H4 z=>?_⟩
  obtain⟨e,c,hc,ey⟩:=z
  subst e ey
  have hc':x.cps.toList[i]?=some c:=by rw[Array.getElem?_toList];exact hc
  refine ht c _ _ ?_
  have tk:(x.cps.toList.take (i+1)).filter p=(x.cps.toList.take i).filter p++(if p c=true then[c]else[]):=take_succ_filter p _ i c hc'
  cases hp:p c with
  | true=>
    refine iteT (he c _ _ ⟨h3,λH7 k7 h7=>⟨x.cps.size-(i+1),by omega,rfl,hlt,?_,λb o e=>?_,h7⟩⟩)
    ·rw[tk,hp,if_pos rfl,t4,<-ea]
     rfl
    ·by_cases hb:b=D
     ·subst hb
      rw[hD]at e
      cases e
     ·exact k7 b o hb (s3 b o e)
  | false=>
    refine iteF ⟨x.cps.size-(i+1),by omega,rfl,hlt,?_,s3,h3⟩
    rw[tk,hp,if_neg tG,rE]
    exact ea
 ·have e:i=x.cps.size:=by omega
  subst e
  refine .inl ⟨tF _,?_⟩
  have et:x.cps.toList.take x.cps.size=x.cps.toList:=sW (pS Array.length_toList)
  rw[et]at ea
  rw[ea]at h3
  exact q D _ s3 h3
def zjY:OpR X (compareOp .LtE) (λx y H Q=>∃i j,x=.str i/\y=.str j/\Q (.bl (!decide (j.cps.toList<i.cps.toList))) H):=by
 intro ai s σ H x y v u Q I rx ry h
 obtain⟨i,j,rfl,rfl,q⟩:=h
 obtain⟨t,rfl⟩:=rx
 obtain⟨t',rfl⟩:=ry
 exact PySem.P.le_str (zaX I q rfl)
theorem zoo(bs:List Bool):(List.range bs.length).all (λi=>(bs[i]?).getD true)=bs.all id:=by
 induction bs with
 | nil=>rfl
 | cons b r ih=>
   rw[length_cons,sV,pY,List.all_map,pY,<-ih]
   rfl
theorem zjZ(hc:X.calm=true):zdH X (.builtin "all") (λxs H Q=>∃(p:Addr)(bs:List Bool),xs=[.ref p]/\SqL X.K H p (bs.map V.bl)/\Q (.bl (bs.all id)) H):=by
 intro ai s σ H xs us Q I r h
 obtain⟨p,bs,rfl,hq,q⟩:=h
 obtain⟨u,rfl,ru⟩:=zgU r
 cases ru
 obtain⟨its,rv,pl,hz⟩:=I.list hq
 have lt:p<s.heap.objs.size:=by
  obtain⟨o,ho,_⟩:=pl.isList
  exact tI ho
 have hl:its.toArray.size=bs.length:=by
  have:=rv.length
  simp at this ⊢
  omega
 refine call_all_walk (r8 pl.isList ?_)
 refine⟨s.heap.objs.size,_,_,_,_,_,λi=>(bs[i]?).getD true,rfl,Walks.list (prog:=X.prog) (w:=X.w) (A:=X.A.in1) (show X.A.in1.handled=none from I.ok.hd hc) _ p (tM lt) its.toArray,⟨⟨_,tJ _ rfl,rfl,rfl⟩,pl.isList.at λo e=>tz _ e⟩,λi v s' Q' E' hP hQ'=>?_,λh' tk kk=>?_⟩
 ·have hP':its[i]?=some v:=by simpa using hP
  cases e:bs[i]? with
  | none=>
    have h1:its.length<=i:=by
     have h2:=List.getElem?_eq_none_iff.mp e
     simp at hl
     omega
    rw[rf h1]at hP'
    cases hP'
  | some b=>
    dsimp only at hQ'
    rw[e]at hQ'
    obtain⟨u,hu,ru⟩:=rv.get (i:=i) (x:=.bl b) (by rw[getElem?_map,e];rfl)
    rw[hP']at hu
    cases hu
    cases(show v=Value.bool b from ru)
    exact ss hQ'
 ·rw[hl,zoo]
  refine⟨.bl _,H,I.kept (t':=tk) (h':=h') λb o e=>kk b o ?_ (tz _ e),rfl,q⟩
  intro z
  have z:b=s.heap.objs.size:=by simpa using z
  exact tM (tI e) z
def zop(hu:X.A.units<cLine):OpR X (compareOp .NotEq) (λx y H Q=>∃a b xs ys,x=.ref a/\y=.ref b/\SqL X.K H a xs/\SqL X.K H b ys/\xs.all zcd=true/\ys.all zcd=true/\Q (.bl (!eqVs xs ys)) H):=by
 intro ai s σ H x y v u Q I rx ry h
 obtain⟨a,b,xs,ys,rfl,rfl,hx,hy,fx,fy,q⟩:=h
 cases rx
 cases ry
 obtain⟨its,r,pl,hz⟩:=I.list hx
 obtain⟨its2,r2,pl2,hz2⟩:=I.list hy
 have e1:its.toArray.size=xs.length:=by simp[r.length]
 have e2:its2.toArray.size=ys.length:=by simp[r2.length]
 by_cases hl:xs.length=ys.length
 ·refine SeqAt.RcNeAt.lists (e:=eqJ xs ys) pl.isList pl2.isList (by omega) hu (λj h1 h2=>zoi r r2 fx fy j h1 h2) X.prog X.w X.xe _ ⟨.bl _,H,I,rfl,?_⟩
  have z:=zfp xs ys
  rw[<-hl,Nat.min_self]at z
  rw[e1]
  have z':(List.range xs.length).all (eqJ xs ys)=eqVs xs ys:=by
   rw[<-z]
   simp
  rw[z']
  exact q
 ·refine SeqAt.RcNeAt.lists_lengths pl.isList pl2.isList ?_ hu X.prog X.w X.xe _ ⟨.bl _,H,I,rfl,?_⟩
  ·rw[e1,e2]
   simpa using hl
  ·rw[bH hl]at q
   exact q
end
def zsJ(x:Str):x.cps.toList.length=x.length:=Array.length_toList
def lt_1(c a:Nat):decide ([c]<[a])=decide (c<a):=by
 rw[sF,tZ,tZ,List.cons_lt_cons_iff]
 simp
def le_1{x y:Str}{c a:Nat}(hx:x.cps.toList=[c])(hy:y.cps.toList=[a]):(!decide (y.cps.toList<x.cps.toList))=decide (c<=a):=by
 rw[hx,hy,lt_1]
 rw[sF]
 simp
def zuj{n:Nat}(h:n<=1000):n<=sizeLine:=sz n h
abbrev TJ:=Str->St->Hp->VK->Prop
section
variable{X:Cx}{e:Expr}{es:List Expr}{te:TE}{t:TJ}{pos:Pos}
structure Box(P:Prop):Prop where
 un:P
end
end L2
namespace PySem
open Sem (wp)
section
variable{prog:Program}{w:World}{A:Around}{E:ac}{h:Heap}{g:Array GenState}{d:Drawn}{t:Nat}{os:OsState}
variable{nm q:Str}{C N:Addr}{bs bm bmB:aj}{hdct:Bool}{sn:List Str}{sub:aj}{ab:Bool}{col:Option Bool}{dd:ak}{k0 k1 k2 k3 k5:Option Value}{B newId initId:String}
end
end PySem
namespace PySem.W
open PySem PySem.Spec PySem.Calls PyProof.Rows Builtin Builtin.ObjectAttr
def bmVE:List Value:=[.type "ValueError",.type "Exception",.type "BaseException",.type "object"]
def zoq:List Value->Bool
 | .ref _::r=>zoq r
 | l=>l==bmVE
def xcIn(K:Frag)(C:Addr)(ini:ak):Bool:=match K.lookup C with
 | some ⟨.type "type",_,.cls cd,sl⟩=>(match cd.mro,sl.toList with
   | .ref C'::bm,[_,_,_,_,some (.builtin n),_]=>C'==C&&n == "ValueError.__new__" && !cd.hasDel&&cd.hasDict&&tailIn K bmVE bm&&zoq bm&&nsOkIn K cd.ns&&nsIn K cd.ns "__init__" == some (ini.map .ref)
   | _,_=>false)
 | _=>false
structure XcAt(h:Heap)(C:Addr)(ini:ak):Prop where
 ex:∃nm q N bs bm sn sub ab col dd k0 k1 k2 k3 k5 mN,h.get? C=some (excClassObj nm q C N bs bm true sn sub ab col dd k0 k1 k2 k3 k5 "ValueError.__new__")/\h.Ns N mN/\mN "__init__" = ini.map .ref/\OwnTail h bmVE bm/\zoq bm=true
def zgX{K:Frag}{h:Heap}{N:Addr}{x:Str}{v:Value}(X:K.In h)(e:nsOkIn K N=true)(q:nsIn K N x=some (some v)):h.nsMap N x=some v:=by
 have G:h.Ns N (h.nsMap N):=.of_isNs (isNs_of_in X e)
 obtain⟨o,es,ep,ho,hd,_,hf⟩:=G
 unfold nsIn at q
 split at q
 ·rename_i c d es' n' sl q'
  have:=X _ _ q'
  rw[ho]at this
  cases this
  cases hd
  split at q
  ·rename_i en he
   cases q
   rw[<-hf]
   unfold nsFind findBy
   rw[<-Array.find?_toList,he]
   rfl
  ·split at q<;>cases q
 ·cases q
def zvC{K:Frag}{h:Heap}{C:Addr}{ini:ak}(X:K.In h)(q:xcIn K C ini=true):XcAt h C ini:=by
 unfold xcIn at q
 split at q
 ·rename_i dd cd sl ho
  split at q
  ·rename_i C' bm k0 k1 k2 k3 n k5 hm hs
   simp only[Bool.and_eq_true,beq_iff_eq,Bool.not_eq_true']at q
   obtain⟨⟨⟨⟨⟨⟨⟨rfl,rfl⟩,hdel⟩,hdc⟩,ht⟩,hr⟩,hok⟩,hni⟩:=q
   obtain⟨nm,bs,mro,ns,qn,hd,sn,sub,ab,col,del⟩:=cd
   dsimp only at hm hdel hok hni hdc
   subst hm hdel hdc
   have hsl:sl = #[k0,k1,k2,k3,some (.builtin "ValueError.__new__"),k5]:=by
    obtain⟨l⟩:=sl
    simp only at hs
    rw[hs]
   subst hsl
   refine⟨nm,qn,ns,bs,bm,sn,sub,ab,col,dd,k0,k1,k2,k3,k5,_,X _ _ ho,.of_isNs (isNs_of_in X hok),?_,tail_of_in X ht,hr⟩
   cases ini with
   | none=>exact nsMap_none_of_in X hok hni
   | some f=>exact zgX X hok hni
  ·cases q
 ·cases q
end PySem.W
namespace PySem.W
open PySem PySem.Spec PySem.Calls PyProof.Rows Builtin Builtin.ObjectAttr
section
variable{prog:Program}{w:World}{A:Around}{K:Frag}{C x:Addr}{s:Shared}{R:Result->Shared->Prop}
end
end PySem.W
namespace PySem.W
open PySem PySem.Spec PySem.Calls PyProof.Rows Builtin Builtin.ObjectAttr
def zqE:builtinKind "BaseException.__getattribute__" = some .slot:=by decide +kernel
def zor:splitId "BaseException.__getattribute__" = some ("BaseException","__getattribute__"):=by decide +kernel
def zos:plainId "BaseException.__getattribute__" = true:=PySem.F.excAttr_ValueError.ga.plain
theorem zuk0(self:Value)(name:Str)(tk:Tok):∃ f:Value→_,Builtin.«object.__getattribute__» ⟨[self,.str name tk],[]⟩=(typeOf self >>= λtp=>find self tp name >>= λr=>match r with
 | .value v=>ret v
 | .bind g a=>bindTo g a self tp
 | .missing=>f tp):=⟨_,rfl⟩
theorem zuk(self:Value)(name:Str)(tk:Tok):Builtin.«object.__getattribute__» ⟨[self,.str name tk],[]⟩=(typeOf self >>= λtp=>find self tp name >>= λr=>match r with
 | .value v=>ret v
 | .bind g a=>bindTo g a self tp
 | .missing=>(zuk0 self name tk).choose tp):=(zuk0 self name tk).choose_spec
section
variable{prog:Program}{w:World}{A:Around}{K:Frag}{C x:Addr}{s:Shared}{ox:Obj}{od:Option Obj}{name:Str}{ini:ak}
def zvD(X:K.In s.heap)(I:InstAt s.heap x ox C od)(hi:xcIn K C ini=true):Looks (model prog w) s.heap (isInstance (.ref x) (.type "BaseException")) true:=by
 obtain⟨nm,q,N,bs,bm,sn,sub,ab,col,dd,k0,k1,k2,k3,k5,mN,hC,_,_,T,hr⟩:=(zvC X hi).ex
 have hob:(Value.ref C::bm).contains (.type "BaseException")=true:=by rw[List.contains_cons,T.hasType (X := "BaseException") (b:=true) (by decide +kernel),Bool.or_true]
 exact I.type.andThen (λA' Q' E' s' k z=>by
  obtain⟨h0,g,d,t,os⟩:=s'
  exact wpAny_isSubtype_exc (k _ _ hC) (by rw[hob];exact z))
theorem zqF{R:Result->Shared->Prop}{tk:Tok}{r:Found}(X:K.In s.heap)(I:InstAt s.heap x ox C od)(hi:xcIn K C ini=true)(hf:findObj K C od name=some r)
  (h:wpAny (model prog w) A.in1 (match r with | .value v=>ret v | .bind g a=>bindTo g a (.ref x) (.ref C) | .missing=>noSuchAttribute (.ref x) name) (λfin s'=>match fin with | .done f=>R (.ok f) s' | .again c'=>c'.quiet=true/\codeAny (model prog w) A c' R s') (λe s'=>R (.error e) s') s)
  (hm:r≠.missing):
  codeAny (model prog w) A (.call (.builtin "BaseException.__getattribute__") ⟨[.ref x,.str name tk],[]⟩) R s:=by
 refine codeAny_call_builtin zos PySem.F.entry_bexc_ga (@check_slot (model prog w) _ _ s "BaseException.__getattribute__" "BaseException" "__getattribute__" (.ref x) [.str name tk] [] _ zqE zor (zvD X I hi) (PySem.F.args_bexc_ga (.ref x) (.str name tk)) ?_)
 rw[zuk]
 refine tD (I.type.here (tD ((looks_find X I hf).here ?_)))
 cases r with
 | value v=>exact h
 | bind g a=>exact h
 | missing=>exact absurd rfl hm
def zsK{E:ac}{tk:Tok}{fill expr:Bool}{Q:ac}(X:K.In s.heap)(I:InstAt s.heap x ox C od)
    (hga:findIn K (.ref C) "__getattribute__" = some (some (.builtin "BaseException.__getattribute__"))) (hgn:findIn K (.ref C) "__getattr__" = some none)
    (h:codeAny (model prog w) A (.call (.builtin "BaseException.__getattribute__") ⟨[.ref x,.str name tk],[]⟩) (λr s'=>match r with | .ok (.ret v)=>wpAny (model prog w) A (handedOut v) Q E s' | _=>False) s):
    wpAny (model prog w) A (getAttrBy (.ref x) (.str name tk) fill expr) Q E s:=by
 have f3:=PySem.F.excAttr_ValueError.ga.bind (.ref x)
 have hx0:(expr&&onTheHeap (Value.builtin "BaseException.__getattribute__"))=false:=by cases expr<;>rfl
 have hx2:(Value.builtin "BaseException.__getattribute__" == Value.builtin "object.__getattribute__")=false:=by decide +kernel
 have hx1:(onTheHeap (Value.ref C)&&Value.builtin "BaseException.__getattribute__" == Value.builtin "object.__getattribute__")=false:=by rw[hx2];rfl
 unfold getAttrBy
 refine t7 (tD (I.type.here (tD ((looks_findIn X hga).here ?_))))
 dsimp only
 rw[hx1,if_neg tG]
 unfold getAttrByItsOwn hookBefore
 refine tD ?_
 rw[if_pos (show onTheHeap (Value.ref C)=true from rfl)]
 refine(looks_findIn X hgn).here (tD (wpAny_attempt (t7 ?_)))
 unfold callGetattribute
 rw[hx0,if_neg tG]
 unfold boundAndCalled
 rw[f3]
 refine tD (tH (qU (rG h λr s' z=>?_)))
 rcases r with e | (v | _ | _ | _)<;>first | exact z | exact z.elim
def zul{E:ac}{Q:Option Value->Shared->Prop}(X:K.In s.heap)(I:InstAt s.heap x ox C od)(hi:xcIn K C ini=true)
    (hga:findIn K (.ref C) "__getattribute__" = some (some (.builtin "BaseException.__getattribute__"))) (hgn:findIn K (.ref C) "__getattr__" = some none)
    (hdct:hasDictIn K C=true) (ha:findIn K (.ref C) "__class__" = some (some (.builtin "object.__class__")))
    (hn:specialIn K (.builtin "object.__class__") "__get__" = some (some (.builtin "getset_descriptor.__get__"))) (htk:takesIn K (.builtin "object.__class__")=some true) (hm:mroIn K C (.type "object")=some true)
    (h:Q (some (.ref C)) { s with toks:=s.toks+1 }):wpAny (model prog w) A (getAttr? (.ref x) "__class__") Q E s:=by
 have hf:findObj K C od "__class__" = some (.bind (.builtin "getset_descriptor.__get__") (.builtin "object.__class__")):=by
  obtain⟨cd,hc,_⟩:=any_some hdct
  unfold findObj
  rw[hc,qN,ha,qN]
  dsimp only
  rw[hn,qN]
  dsimp only
  rw[htk,qN]
 unfold getAttr?
 refine tD (wpAny_mkText ?_)
 unfold getAttrBy?
 refine tD (wpAny_attempt (zsK (s := { s with toks:=s.toks+1 }) X I hga hgn (zqF (s := { s with toks:=s.toks+1 }) X I hi hf ?_ (by intro z;cases z))))
 show wpAny _ _ (holding [_] (call (.builtin "getset_descriptor.__get__") [.builtin "object.__class__",.ref x,.ref C]) >>= ret) _ _ _
 refine tD (t7 (qU (class_get (s := { s with toks:=s.toks+1 }) X I hm (tH ?_))))
 show wpAny _ _ (handedOut (.ref C)) _ _ _
 rw[handedOut_of rfl]
 exact tH (tH h)
def kitx_exc(hi:xcIn K C ini=true)
    (hga:findIn K (.ref C) "__getattribute__" = some (some (.builtin "BaseException.__getattribute__"))) (hgn:findIn K (.ref C) "__getattr__" = some none)
    (hdct:hasDictIn K C=true) (ha:findIn K (.ref C) "__class__" = some (some (.builtin "object.__class__")))
    (hn:specialIn K (.builtin "object.__class__") "__get__" = some (some (.builtin "getset_descriptor.__get__"))) (htk:takesIn K (.builtin "object.__class__")=some true) (hm:mroIn K C (.type "object")=some true):
    KitX K (.ref x) (.ref C) (λh=>InstAt h x ox C od) where
 ty:=λ_ _ _ I=>I.type
 it:=λ_ _ X _=>by
  obtain⟨cdD,hcD,_⟩:=any_some hdct
  unfold clsIn at hcD
  split at hcD
  ·rename_i c' d' cd' sl' ho
   intro A' Q' E' s' k q
   unfold isType loadHead
   exact tD (wpAny_loadPart (k _ _ (X _ _ ho)) (tH q))
  ·cases hcD
 ne:=λh tp dd its n sl X htp=>by
  obtain⟨cdD,hcD,_⟩:=any_some hdct
  refine Bool.eq_false_iff.mpr λq=>?_
  have e:C=tp:=Value.ref.inj (beq_iff_eq.mp q)
  subst e
  unfold clsIn at hcD
  split at hcD
  ·rename_i c' d' cd' sl' ho
   have z:=(X _ _ ho).symm.trans htp
   cases z
  ·cases hcD
 ca:=λX I k=>zul X I hi hga hgn hdct ha hn htk hm k
end
end PySem.W
namespace L2
open PySem PySem.Spec PyProof.Rows
abbrev xobj(C:Addr)(dx:ak)(vs:Array Value):Obj := { cls:=.ref C,dict:=dx,data:=.fields vs }
def XcO(a C:Addr)(dx:ak)(vs:Array Value):HO:=.ext λh=>h.get? a=some (xobj C dx vs)
def zsL{P:Program}{w:World}{H:Hp}{h:Heap}{a C:Addr}{dx:ak}{vs:Array Value}(hok:HOk P w H h)(e:H a=some (XcO a C dx vs)):h.get? a=some (xobj C dx vs):=(show zbf P w H h a (XcO a C dx vs)from hok a _ e).1
structure XCls(K:am)(C:Addr):Prop where
 xc:∃ini,W.xcIn K C ini=true
 sa:W.findIn K (.ref C) "__setattr__" = some (some (.builtin "object.__setattr__"))
 ga:W.findIn K (.ref C) "__getattribute__" = some (some (.builtin "BaseException.__getattribute__"))
 gn:W.findIn K (.ref C) "__getattr__" = some none
 hd:W.hasDictIn K C=true
 cl:W.findIn K (.ref C) "__class__" = some (some (.builtin "object.__class__"))
 cg:W.specialIn K (.builtin "object.__class__") "__get__" = some (some (.builtin "getset_descriptor.__get__"))
 ct:W.takesIn K (.builtin "object.__class__")=some true
 mo:W.mroIn K C (.type "object")=some true
section
variable{X:Cx}{ai:ae}{σ:St}{H:Hp}{s:Shared}
theorem Inv.inst(I:Inv X ai σ H s){a C:Addr}{dx:ak}{vs:Array Value}(e:H a=some (XcO a C dx vs))(hd:∀d,dx=some d->∃fs,H d=some (.xd fs)):∃od,W.InstAt s.heap a (xobj C dx vs) C od:=by
 have g:=zsL I.hok e
 cases dx with
 | none=>exact⟨none,g,rfl,rfl,True.intro⟩
 | some d=>
   obtain⟨fs,hf⟩:=hd d rfl
   obtain⟨mA,⟨o,es,ep,ho,_⟩,_⟩:=(show zbf X.prog X.w H s.heap d (.xd fs)from I.hok d _ hf)
   exact⟨some o,g,rfl,rfl,ho⟩
structure IsX(K:am)(H:Hp)(a C:Addr):Prop where
 cls:XCls K C
 at_:∃dx vs,H a=some (XcO a C dx vs)/\∀d,dx=some d->∃fs,H d=some (.xd fs)
end
end L2
namespace PySem
open L2 (xobj)
def Heap.XFly(h bj:Heap)(e C:Addr)(dx:ak)(T:Addr)(fl:Value):Prop:=
 ∃vs oT ts,h.get? e=some (xobj C dx vs)/\vs[1]?=some (.ref T)/\bj.get? T=none/\T≠e/\h.get? T=some oT/\oT.data=.fields ts/\ts[3]?=some fl
def Heap.XAt(bj:Heap)(l:List Env)(e C:Addr)(dx:ak)(T:Addr)(fl:Value)(h:Heap):Prop:=
 bj.StaysIn h/\bj.get? e=none/\h.FunFrames bj l/\h.XFly bj e C dx T fl
section
variable{M:Model}{A:Around}{E:ac}{s:Shared}
end
end PySem
namespace L2
open PySem PySem.Spec PyProof.Rows
def apart(X:Cx)(h:Heap)(e:Addr)(T:List Addr):Heap:=W.hideAll h (e::(T++frs X.stack))
section
variable{X:Cx}{ai:ae}{σ:St}{H:Hp}{s:Shared}{e C T:Addr}{dx:ak}{vs:Array Value}
end
structure Flies(h:Heap)(H:Hp)(low:Nat)(a C T:Addr)(dx:ak)(vs:Array Value):Prop where
 at_:H a=some (XcO a C dx vs)
 tr:vs[1]?=some (.ref T)
 new:low<=T
 free:H T=none
 ne:T≠a
 dict:∀y,dx=some y->∃fs,H y=some (.xd fs)
 recd:∃oT ts,h.get? T=some oT/\oT.data=.fields ts/\ts[3]?=some .none
def CX1(P:Program)(w:World):CXT:=λouter H s E e s'=>∃(a T C:Addr)(dx:ak)(vs:Array Value)(H':Hp),e=.ref a/\s'.os=s.os/\AllBare s'.gens/\Un (frs outer) [] H H' s.heap s'.heap/\HOk P w H' s'.heap/\s.heap.objs.size<=s'.heap.objs.size/\
 Flies s'.heap H' s.heap.objs.size a C T dx vs/\∀vs',E (.ref C) (some a) (upd H' a (XcO a C dx vs'))
section
variable{X:Cx}{ai:ae}{σ:St}{H H1:Hp}{s s1:Shared}{a C T:Addr}{dx:ak}{vs:Array Value}
end
section
variable{P:Program}{w:World}{K:am}{mg:af}{bj:Heap}{N:List Str}{qual:Str}{scope:Scope}{f:Addr}{cd:Value}{A:Around}{outer:List Env}{s₀:Shared}{H₀:Hp}{E:XK}
end
section
variable{X:Cx}{ai:ae}{σ:St}{H:Hp}{s:Shared}
end
structure XMk(K:am)(C:Addr)(ini:ak):Prop where
 cls:XCls K C
 xc:W.xcIn K C ini=true
 kp:W.keepIn K (.ref C)=true
 fn:∀f,ini=some f->W.isFn K (.ref f)=true
def zsM(K:am)(C:Addr)(f:Str):Sp:=λvs H Q _=>∃a v ws,vs=[.ref a,v]/\XCls K C/\zal K C f/\H a=some (XcO a C none ws)/\
 ∀d H2,(∀b o,b≠a->H b=some o->H2 b=some o)->H d=none->H2 a=some (XcO a C (some d) ws)->H2 d=some (.xd [(f,v)])->Q .non H2
section
variable{X:Cx}{k:Nat}{fI C:Addr}{fd:FuncData}{ps:List Str}{x fn:Str}{p pos:Pos}{e:Expr}{es:List Expr}{t:TA}
end
section
variable{P:Program}{w:World}{K:am}{mg:af}{bj:Heap}{N:List Str}{qual:Str}{scope:Scope}{f:Addr}{cd:Value}{A:Around}{outer:List Env}{s₀:Shared}{H₀:Hp}{E:XK}
end
section
variable{X:Cx}{σ:St}
end
structure Aside(X:Cx)(ai:ae)(b:Addr):Prop where
 p:X.s₀.heap.objs.size<=b/\b≠X.env.locals/\(∀x c,X.env.cells.lookup x=some c->c≠b)/\∀p∈X.pn++ai,p.1≠b
section
variable{X:Cx}{ai pins':ae}{σ τ:St}{H:Hp}{s:Shared}{W:XK}
end
structure Cal1(P:Program)(w:World)(K:am)(mg:af)(bj:Heap)(x:Str)(k:Nat)(ps:List Str)(sp:Sp):Prop where
 ex:∃f fd,FnOk P w K mg bj (CX1 P w) k f fd ps sp/\zbq K fd ps []/\mg x=some (.ref f)/\W.keepIn K (.ref f)=true
section
variable{X:Cx}{k:Nat}{ps:List Str}{sp:Sp}{x:Str}{p pos:Pos}{e:Expr}{es:List Expr}{t:TA}
end
abbrev TH:=Addr->Addr->Hp->St->Ends->Prop
structure AtH(X:Cx)(ai:ae)(σ:St)(H:Hp)(a C:Addr)(dx:ak)(s:Shared):Prop where
 I:Inv X ai σ H s
 ex:∃T vs,Flies s.heap H 0 a C T dx vs/\Aside X ai T
section
variable{X:Cx}{Dc:Addr}{i:Nat}{n d:Str}{np pos:Pos}{b₀:Stmt}{suite:List Stmt}{rest:List ExceptHandler}{ts:TS}{tr:TH}
end
inductive TyX(K:am)(H:Hp):V->Value->Prop where
 | old {x:V} {t:Value} (h:TyOf K H x t):TyX K H x t
 | exc {a C:Addr} (h:IsX K H a C):TyX K H (.ref a) (.ref C)
section
variable{X:Cx}
theorem zot{ai:ae}{σ:St}{H:Hp}{s:Shared}{A:Around}{E:ac}{Q:ac}{c:Value}{b:Bool}{x:V}{u t:Value}(I:Inv X ai σ H s)(rx:RelV x u)(ty:TyX X.K H x t)(e:W.kitOne X.K t c=some b)(h:∀tk,Q (.bool b) { s with toks:=tk }):
  wpAny (model X.prog X.w) A (call (.builtin "isinstance") [u,c]) Q E s:=by
 cases ty with
 | old ty=>exact eM I rx ty e h
 | @exc a C z=>
   cases(show u=Value.ref a from rx)
   obtain⟨dx,vs,h1,h2⟩:=z.at_
   obtain⟨od,J⟩:=I.inst h1 h2
   obtain⟨ini,hi⟩:=z.cls.xc
   exact rS (W.kitx_exc hi z.cls.ga z.cls.gn z.cls.hd z.cls.cl z.cls.cg z.cls.ct z.cls.mo) I.kIn J e (λz=>nomatch z) h
def zby{n:String}:zdH X (.builtin "isinstance") (λxs H Q=>∃x t b,xs=[x,.ty n]/\TyX X.K H x t/\W.kitOne X.K t (.type n)=some b/\Q (.bl b) H):=by
 intro ai s σ H xs us Q I r h
 obtain⟨x,t,b,rfl,ty,e,q⟩:=h
 obtain⟨u,w',rfl,ru,rw'⟩:=aQ r
 cases(show w'=Value.type n from rw')
 exact zot I ru ty e λtk=>⟨.bl b,H,I.tok tk,rfl,q⟩
def zhx{C:Addr}:zdH X (.builtin "isinstance") (λxs H Q=>∃x t b,xs=[x,.ref C]/\TyX X.K H x t/\W.kitOne X.K t (.ref C)=some b/\Q (.bl b) H):=by
 intro ai s σ H xs us Q I r h
 obtain⟨x,t,b,rfl,ty,e,q⟩:=h
 obtain⟨u,w',rfl,ru,rw'⟩:=aQ r
 cases(show w'=Value.ref C from rw')
 exact zot I ru ty e λtk=>⟨.bl b,H,I.tok tk,rfl,q⟩
def clsV:V->Value
 | .ref a=>.ref a
 | .ty n=>.type n
 | _=>.none
def zum:V->Bool
 | .ref _=>true
 | .ty _=>true
 | _=>false
theorem zme:∀{xs:List V}{us:aj},Vals xs us->xs.all zum=true->us=xs.map clsV
 | _,_,.nil,_=>rfl
 | x::xs,u::us,.cons r t,h=>by
   rw[pY,Bool.and_eq_true]at h
   rw[t3,<-zme t h.2]
   congr 1
   cases x with
   | ref a=>exact r
   | ty n=>exact r
   | _=>exact absurd h.1 tG
end
structure XD(K:am)(C:Addr)(up:aj):Prop where
 cd:∃cd,W.clsIn K C=some cd/\cd.mro=.ref C::up
 ty:W.typeIn K (.ref C)=some (.type "type")
structure XCal(P:Program)(w:World)(K:am)(mg:af)(bj:Heap)(x:Str)(C:Addr)(f:Str):Prop where
 ex:∃fI fd ps,XMk K C (some fI)/\zal K C f/\FnOk P w K mg bj CX0 1 fI fd ps (zsM K C f)/\zbq K fd ps []/\mg x=some (.ref C)
structure XCal0(K:am)(mg:af)(x:Str)(C:Addr):Prop where
 made:XMk K C none
 m:mg x=some (.ref C)
section
variable{X:Cx}{C:Addr}{f x:Str}{p pos:Pos}{e:Expr}{es:List Expr}{t:TA}
end
section
variable{X:Cx}
end
section
variable{X:Cx}
theorem zou:zdH X (.builtin "isinstance") (λxs H Q=>∃x t b p cs,xs=[x,.ref p]/\H p=some (.tup cs)/\cs.all zum=true/\TyX X.K H x t/\W.kitAny X.K t (cs.map clsV)=some b/\Q (.bl b) H):=by
 intro ai s σ H xs us Q I r h
 obtain⟨x,t,b,p,cs,rfl,hp,hc,ty,e,q⟩:=h
 obtain⟨u,w',rfl,ru,rw'⟩:=aQ r
 cases(show w'=Value.ref p from rw')
 obtain⟨_,its,rv,o,ho,hcl,n,hd⟩:=(show zbf X.prog X.w H s.heap p (.tup cs)from I.hok p _ hp)
 have ei:=zme rv hc
 subst ei
 obtain⟨oc,od,oda,osl⟩:=o
 dsimp only at hcl hd
 subst hcl hd
 have fin:∀tk,EP X ai σ Q (.bool b) { s with toks:=tk }:=λtk=>⟨.bl b,H,I.tok tk,rfl,q⟩
 cases ty with
 | @exc a C z=>
   cases(show u=Value.ref a from ru)
   obtain⟨dx,vs,h1,h2⟩:=z.at_
   obtain⟨od,J⟩:=I.inst h1 h2
   obtain⟨ini,hi⟩:=z.cls.xc
   exact rT (W.kitx_exc hi z.cls.ga z.cls.gn z.cls.hd z.cls.cl z.cls.cg z.cls.ct z.cls.mo) I.kIn J ho e (λz=>nomatch z) fin
 | old ty=>
   cases ty with
   | non=>cases(show u=Value.none from ru);exact rT W.kitx_none I.kIn True.intro ho e (λz=>nomatch z) fin
   | bl y=>cases(show u=Value.bool y from ru);exact rT W.kitx_bool I.kIn True.intro ho e (λz=>nomatch z) fin
   | int i=>obtain⟨t,z⟩:=(show ∃t,u=Value.int i t from ru);cases z;exact rT W.kitx_int I.kIn True.intro ho e (λz=>nomatch z) fin
   | str y=>obtain⟨t,z⟩:=(show ∃t,u=Value.str y t from ru);cases z;exact rT W.kitx_str I.kIn True.intro ho e (λz=>nomatch z) fin
   | flt y=>obtain⟨t,z⟩:=(show ∃t,u=Value.float y t from ru);cases z;exact rT W.kitx_float I.kIn True.intro ho e (λz=>nomatch z) fin
   | @lst a xs ea=>
     cases(show u=Value.ref a from ru)
     obtain⟨_,_,n,_,h1⟩:=(show zbf X.prog X.w H s.heap a (.lst xs)from I.hok a _ ea)
     exact rT W.kitx_list I.kIn ⟨_,h1,rfl⟩ ho e (λz=>nomatch z) fin
   | @frz a ob xs ea=>
     cases(show u=Value.ref a from ru)
     obtain⟨_,_,_,n,_,h1⟩:=(show zbf X.prog X.w H s.heap a (.frz ob (.lst xs))from I.hok a _ ea)
     exact rT W.kitx_list I.kIn ⟨_,h1,rfl⟩ ho e (λz=>nomatch z) fin
   | @tup a xs ea=>
     cases(show u=Value.ref a from ru)
     obtain⟨_,_,_,p⟩:=(show zbf X.prog X.w H s.heap a (.tup xs)from I.hok a _ ea)
     obtain⟨o,h1,h2,_⟩:=p
     exact rT W.kitx_tuple I.kIn ⟨o,h1,h2⟩ ho e (λz=>nomatch z) fin
   | @dK a kvs ea=>
     cases(show u=Value.ref a from ru)
     obtain⟨_,_,vs,_,p⟩:=(show zbf X.prog X.w H s.heap a (.dK kvs)from I.hok a _ ea)
     obtain⟨o,es,ep,h1,h2,_⟩:=p
     exact rT W.kitx_dict I.kIn ⟨o,h1,h2.1⟩ ho e (λz=>nomatch z) fin
   | @dT a kvs ea=>
     cases(show u=Value.ref a from ru)
     obtain⟨_,_,xs,_,o,es,ep,h1,h2,_⟩:=(show zbf X.prog X.w H s.heap a (.dT kvs)from I.hok a _ ea)
     exact rT W.kitx_dict I.kIn ⟨o,h1,h2.1⟩ ho e (λz=>nomatch z) fin
   | @ins a C dx fs ea cl ha hn htk hm=>
     cases(show u=Value.ref a from ru)
     obtain⟨mA,O,_⟩:=zhp I.hok ea
     obtain⟨od,J,_⟩:=O.look
     exact rT (W.kitx_own (cl.get _) cl.hd ha hn htk hm) I.kIn J ho e (λz=>nomatch z) fin
end
structure Told(K:am)(H:Hp)(a C:Addr)(f:Str)(v:V):Prop where
 ex:∃d ws,H a=some (XcO a C (some d) ws)/\H d=some (.xd [(f,v)])
structure Cl where
 n:Int
 wt:Int
 wb:Int
 st:Int
 sb:Int
 came:Int
structure Cl.Ok(c:Cl):Prop where
 n0:0<=c.n
 w0:0<=c.wt
 w1:c.wt<=1000000
 w2:1<=c.wb
 w3:c.wb<=12
 s0:0<=c.st
 s1:c.st<=1000000
 s2:1<=c.sb
 s3:c.sb<=12
 c0:0<=c.came
 c1:c.came<=1000000000000000
structure IsCl(K:am)(H:Hp)(p:Addr)(c:Cl):Prop where
 ex:∃pw ps,H p=some (.tup [.int c.n,.ref pw,.ref ps,.int c.came])/\H pw=some (.tup [.int c.wt,.int c.wb])/\H ps=some (.tup [.int c.st,.int c.sb])
def IsCl.same{K:am}{H H':Hp}{p:Addr}{c:Cl}(s:Same H H')(h:IsCl K H p c):IsCl K H' p c:=let ⟨pw,ps,a,b,d⟩:=h.ex;⟨pw,ps,s _ _ a,s _ _ b,s _ _ d⟩
def But(p:Addr)(H H':Hp):Prop:=∀b o,b≠p->H b=some o->H' b=some o
def But.refl(p:Addr)(H:Hp):But p H H:=λ_ _ _ h=>h
def But.trans{p:Addr}{H H1 H2:Hp}(a:But p H H1)(b:But p H1 H2):But p H H2:=λc o hc h=>b c o hc (a c o hc h)
def Same.toBut{p:Addr}{H H':Hp}(s:Same H H'):But p H H':=λc o _ h=>s c o h
def Same.but{p:Addr}{H0 H H':Hp}(s:Same H0 H)(n:H0 p=none)(b:But p H H'):Same H0 H':=λc o h=>b c o (zaA h n) (s c o h)
def But.upd(p:Addr)(H:Hp)(o:HO):But p H (L2.upd H p o):=λc u hc h=>by rw[zaw hc];exact h
def IsCl.but{K:am}{H H':Hp}{p q:Addr}{c:Cl}{xs:List V}(b:But q H H')(hq:H q=some (.lst xs))(h:IsCl K H p c):IsCl K H' p c:=by
 obtain⟨pw,ps,e1,e2,e3⟩:=h.ex
 exact⟨pw,ps,b _ _ (zqm e1 hq (by intro z;cases z)) e1,b _ _ (zqm e2 hq (by intro z;cases z)) e2,b _ _ (zqm e3 hq (by intro z;cases z)) e3⟩
section
variable{X:Cx}
def zun:V->V->V->Hp->(Hp->Prop)->Prop:=λo i v H Q=>∃p xs k j,o=.ref p/\i=.int k/\H p=some (.lst xs)/\ixN xs.length k=some j/\∀H2,But p H H2->H2 p=some (.lst (xs.set j v))->Q H2
def dU:PSet X zun:=by
 intro ai s σ H o i v ov iv u Q I ro ri rv h
 obtain⟨p,xs,k,j,e1,e2,hp,hj,q⟩:=h
 exact zqB ai s σ H o i v ov iv u Q I ro ri rv ⟨p,xs,k,j,e1,e2,hp,hj,q _ (But.upd p H _) zar⟩
def zqG:V->List V->Hp->VK->Prop:=λx vs H Q=>∃l xs y,x=.ref l/\vs=[y]/\H l=some (.lst xs)/\xs.length<sizeLine/\∀H2,But l H H2->H2 l=some (.lst (xs++[y]))->Q .non H2
def zfU:MtR X "list.append" zqG:=by
 intro ai s σ H x vs v us Q I rx rv h
 obtain⟨l,xs,y,e1,e2,hp,hz,q⟩:=h
 exact zjV ai s σ H x vs v us Q I rx rv ⟨l,xs,y,e1,e2,hp,hz,q _ (But.upd l H _) zar⟩
def zhy:zdH X (.type "list") (λxs H Q=>∃p ys,xs=[.ref p]/\(SqL X.K H p ys\/SqT X.K H p ys)/\∀l H2,Same H H2->H l=none->H2 l=some (.lst ys)->Q (.ref l) H2):=by
 intro ai s σ H xs us Q I r h
 obtain⟨p,ys,e,h,q⟩:=h
 exact zjU ai s σ H xs us Q I r ⟨p,ys,e,h,λl n=>q l _ (zbs n _) n zar⟩
def zvE(K:am):V->Option Int->Option Int->Hp->VK->Prop:=λx lo hi H Q=>∃a xs,x=.ref a/\SqL K H a xs/\∀p H2,Same H H2->H p=none->H2 p=some (.lst (cutV xs lo hi))->Q (.ref p) H2
def zcO:SlR X (zvE X.K):=by
 intro ai s σ H v u vl vu lo hi sl Q I rx hs pl pu h
 obtain⟨a,xs,e,hx,q⟩:=h
 exact zsE ai s σ H v u vl vu lo hi sl Q I rx hs pl pu ⟨a,xs,e,hx,λp n=>q p _ (zbs n _) n zar⟩
end
structure IsW(H:Hp)(p:Addr)(t b:Int):Prop where
 at_:H p=some (.tup [.int t,.int b])
 t0:0<=t
 t1:t<=1000000
 b0:1<=b
 b1:b<=12
end L2
namespace L2
open PySem
def wtop(c:Cl)(t:Int):Int:=c.wt*c.sb+(t-c.came)*c.st*c.wb
def wbot(c:Cl):Int:=c.wb*c.sb
def ziI{c:Cl}(h:c.Ok){t:Int}(ht:c.came<=t):0<=wtop c t:=by
 have h1:0<=c.wt*c.sb:=sT h.w0 (by have:=h.s2;omega)
 have h2:0<=(t-c.came)*c.st*c.wb:=sT (sT (by omega) h.s0) (by have:=h.w2;omega)
 unfold wtop
 omega
def zbV{c:Cl}(h:c.Ok):0<wbot c:=sL (by have:=h.w2;omega) (by have:=h.s2;omega)
def zhz{c:Cl}(h:c.Ok):wbot c<=144:=by
 have:c.wb*c.sb<=12*12:=sy h.w3 h.s3 (by have:=h.s2;omega) (by decide)
 exact this
def gap(c d:Cl)(t:Int):Int:=wtop c t*wbot d-wtop d t*wbot c
def rate(c d:Cl):Int:=c.st*c.wb*wbot d-d.st*d.wb*wbot c
def zmf(c d:Cl)(t:Int):gap d c t = - gap c d t:=by unfold gap;omega
def zcP(c d:Cl)(t u:Int):gap c d u=gap c d t+(u-t)*rate c d:=by
 have e:∀x:Cl,wtop x u=wtop x t+(u-t)*(x.st*x.wb):=λx=>by
  unfold wtop
  rw[show u-x.came=(t-x.came)+(u-t) by omega,qZ,qZ,pI (u-t)]
  omega
 unfold gap rate
 rw[e c,e d,qZ,qZ,Int.mul_sub,pI (u-t),pI (u-t)]
 omega
def tie(c d:Cl):Bool:=decide (c.came<d.came\/(c.came=d.came/\c.n<d.n))
def ahd(c d:Cl)(t:Int):Bool:=if gap c d t=0 then tie c d else decide (0<gap c d t)
def zqH{c d:Cl}(h:c.n≠d.n):tie d c = !tie c d:=by
 unfold tie
 rw[sF,Bool.not_eq_true',tZ,sS]
 omega
def zbI{c d:Cl}(h:c.n≠d.n)(t:Int):ahd d c t = !ahd c d t:=by
 unfold ahd
 rw[zmf c d t]
 by_cases z:gap c d t=0
 ·rw[if_pos (by omega),if_pos z,zqH h]
 ·rw[if_neg (by omega),if_neg z,sF,Bool.not_eq_true',tZ,sS]
  omega
def bK{b l:Cl}{t u v:Int}(h0:ahd b l t=false)(h1:ahd b l u=true)(tu:t<=u)(uv:u<=v):ahd b l v=true:=by
 have g1:=zcP b l t u
 have g2:=zcP b l u v
 by_cases e:u=t
 ·subst e
  rw[h0]at h1
  cases h1
 have rp:0<rate b l:=by
  refine Int.lt_of_not_ge λnp=>?_
  have le:(u-t)*rate b l<=0:=rc (by omega) np
  unfold ahd at h0 h1
  by_cases z0:gap b l t=0
  ·rw[if_pos z0]at h0
   by_cases z1:gap b l u=0
   ·rw[if_pos z1,h0]at h1
    cases h1
   ·rw[if_neg z1]at h1
    have:=tP h1
    omega
  ·rw[if_neg z0]at h0
   have:=su h0
   by_cases z1:gap b l u=0
   ·omega
   ·rw[if_neg z1]at h1
    have:=tP h1
    omega
 by_cases ev:v=u
 ·rw[ev];exact h1
 have pos:0<(v-u)*rate b l:=sL (by omega) rp
 have gu:0<=gap b l u:=by
  unfold ahd at h1
  by_cases z1:gap b l u=0
  ·omega
  ·rw[if_neg z1]at h1
   have:=tP h1
   omega
 unfold ahd
 rw[if_neg (by omega),decide_eq_true (by omega)]
def fh{b l:Cl}{t:Int}(h0:ahd b l t=false)(h:rate b l<=0):∀u,t<=u->ahd b l u=false:=λu tu=>by
 have g:=zcP b l t u
 have le:(u-t)*rate b l<=0:=rc (by omega) h
 unfold ahd at h0 ⊢
 by_cases z0:gap b l t=0
 ·rw[if_pos z0]at h0
  by_cases z1:gap b l u=0
  ·rw[if_pos z1];exact h0
  ·rw[if_neg z1,tS (by omega)]
 ·rw[if_neg z0]at h0
  have:=su h0
  rw[if_neg (by omega),tS (by omega)]
inductive Pass(b l:Cl)(t:Int):V->Prop where
 | no (h:∀u,t<=u->ahd b l u=false):Pass b l t .non
 | at_ (u:Int) (h1:t<u) (h2:ahd b l u=true) (h3:∀v,t<=v->v<u->ahd b l v=false):Pass b l t (.int u)
theorem Pass.uniq{b l:Cl}{t:Int}{v w:V}(h:Pass b l t v)(h':Pass b l t w):v=w:=by
 cases h with
 | no h=>
   cases h' with
   | no _=>rfl
   | at_ u h1 h2 h3=>
     rw[h u (by omega)]at h2
     cases h2
 | at_ u h1 h2 h3=>
   cases h' with
   | no h=>
     rw[h u (by omega)]at h2
     cases h2
   | at_ u' h1' h2' h3'=>
     congr 1
     rcases(by omega:u<u'\/u=u'\/u'<u)with z | z | z
     ·rw[h3' u (by omega) z]at h2
      cases h2
     ·exact z
     ·rw[h3 u' (by omega) z]at h2'
      cases h2'
structure PassOf(c d:Cl)(t:Int)(v:V):Prop where
 one:ahd c d t=true->Pass d c t v
 two:ahd c d t=false->Pass c d t v
def zsN{b l:Cl}{t n:Int}(h0:ahd b l t=false)(rp:0<rate b l)(hn:0<=n)(h1:n*rate b l <= - gap b l t)(h2 : - gap b l t<(n+1)*rate b l):
    Pass b l t (.int (if 0<n/\ahd b l (t+n)=true then t+n else t+n+1)):=by
 have below:∀v,t<=v->v<t+n->ahd b l v=false:=λv tv vn=>by
  have g:=zcP b l t v
  have m:(v-t)*rate b l<n*rate b l:=rV (by omega) rp
  unfold ahd
  rw[if_neg (by omega),tS (by omega)]
 have g0:n=0->ahd b l (t+n)=false:=λz=>by rw[z,pA];exact h0
 by_cases c:0<n/\ahd b l (t+n)=true
 ·rw[if_pos c]
  exact .at_ _ (by omega) c.2 below
 ·rw[if_neg c]
  have cn:ahd b l (t+n)=false:=by
   by_cases z:n=0
   ·exact g0 z
   ·cases q:ahd b l (t+n) with
    | false=>rfl
    | true=>exact absurd ⟨by omega,q⟩ c
  refine .at_ _ (by omega) ?_ λv tv vn=>?_
  ·have g:=zcP b l t (t+n+1)
   rw[show t+n+1-t=n+1 by omega]at g
   unfold ahd
   rw[if_neg (by omega),decide_eq_true (by omega)]
  ·by_cases z:v=t+n
   ·rw[z];exact cn
   ·exact below v tv (by omega)
structure IsLc(H:Hp)(l:Addr)(n:Int)(c:Int):Prop where
 ex:∃w s t b u d,H l=some (.lst [.int n,.ref w,.ref s,.int c])/\IsW H w t b/\IsW H s u d
 c0:0<=c
 c1:c<=1000000000000000
def sg(x y:Int):Int:=if x<y then -1 else if y<x then 1 else 0
def zqI{x y k:Int}(h:0<k):sg (x*k) (y*k)=sg x y:=by
 unfold sg
 rcases(by omega:x<y\/x=y\/y<x)with z | z | z
 ·have:=rV z h
  rw[if_pos this,if_pos z]
 ·subst z
  rw[if_neg (by omega),if_neg (by omega),if_neg (by omega),if_neg (by omega)]
 ·have:=rV z h
  rw[if_neg (by omega),if_pos this,if_neg (by omega),if_pos z]
def zuo{t b u d:Int}(hb:0<b)(hd:0<d):sg (t / M1.gd t b*(d / M1.gd u d)) (u / M1.gd u d*(b / M1.gd t b))=sg (t*d) (u*b):=by
 have g0:=M1.gd_pos (x:=t) hb
 have h0:=M1.gd_pos (x:=u) hd
 have e1:=so (M1.gd_dvd_left t b)
 have e2:=so (M1.gd_dvd_right t b)
 have e3:=so (M1.gd_dvd_left u d)
 have e4:=so (M1.gd_dvd_right u d)
 generalize M1.gd t b=g at *
 generalize M1.gd u d=h at *
 rw[<-zqI (x:=t / g*(d / h)) (y:=u / h*(b / g)) (sL g0 h0)]
 congr 1
 ·calc t / g*(d / h)*(g*h)=(t / g*g)*(d / h*h):=by ac_rfl
   _=t*d:=by rw[e1,e4]
 ·calc u / h*(b / g)*(g*h)=(u / h*h)*(b / g*g):=by ac_rfl
   _=u*b:=by rw[e3,e2]
def zup(c d:Cl)(t:Int):sg (wtop c t*wbot d) (wtop d t*wbot c)=if gap c d t<0 then -1 else if 0<gap c d t then 1 else 0:=by
 unfold sg gap
 by_cases h:wtop c t*wbot d<wtop d t*wbot c
 ·rw[if_pos h,if_pos (by omega)]
 ·rw[if_neg h,if_neg (show ¬wtop c t*wbot d-wtop d t*wbot c<0 by omega)]
  by_cases h2:wtop d t*wbot c<wtop c t*wbot d
  ·rw[if_pos h2,if_pos (by omega)]
  ·rw[if_neg h2,if_neg (by omega)]
def zov(c d:Cl):rate c d=(c.st*d.sb-d.st*c.sb)*(c.wb*d.wb):=by
 unfold rate wbot
 rw[rW]
 congr 1<;>ac_rfl
def zow{c d:Cl}(hc:c.Ok)(hd:d.Ok):0<c.wb*d.wb:=sL (by have:=hc.w2;omega) (by have:=hd.w2;omega)
def fi{c d:Cl}(hc:c.Ok)(hd:d.Ok):rate c d<=0↔c.st*d.sb<=d.st*c.sb:=by
 rw[zov]
 have h:=zow hc hd
 constructor
 ·intro z
  refine Int.not_lt.mp λy=>?_
  have:=sL (show 0<c.st*d.sb-d.st*c.sb by omega) h
  omega
 ·intro z
  exact si (by omega) (by omega)
def zqJ{top bot g r:Int}(hb:0<bot)(hr:0<r)(e:top*r=g*bot):top / bot*r<=g/\g<(top / bot+1)*r:=by
 have h:top / bot=g / r:=by
  rw[<-Int.mul_ediv_mul_of_pos_left top bot hr,e,pU bot r,Int.mul_ediv_mul_of_pos_left g r hb]
 rw[h]
 refine⟨Int.ediv_mul_le g (by omega),?_⟩
 have:=Int.lt_ediv_add_one_mul_self g hr
 exact this
def zqK{F L Bf Bb h0 h1 l0 l1 fa:Int}(e1:h0*Bf=F*h1)(e2:l0*Bb=L*l1):(h0*l1-l0*h1)*fa*(Bb*Bf)=(F*Bb-L*Bf)*(fa*h1*l1):=by
 rw[rW,rW,rW]
 congr 1
 ·calc h0*l1*fa*(Bb*Bf)=(h0*Bf)*(l1*fa*Bb):=by ac_rfl
   _=(F*h1)*(l1*fa*Bb):=by rw[e1]
   _=F*Bb*(fa*h1*l1):=by ac_rfl
 ·calc l0*h1*fa*(Bb*Bf)=(l0*Bb)*(h1*fa*Bf):=by ac_rfl
   _=(L*l1)*(h1*fa*Bf):=by rw[e2]
   _=L*Bf*(fa*h1*l1):=by ac_rfl
def zsO{b l:Cl}{t:Int}(h:ahd b l t=false):gap b l t<=0:=by
 unfold ahd at h
 by_cases z:gap b l t=0
 ·omega
 ·rw[if_neg z]at h
  have:=su h
  omega
end L2
namespace L2
open PySem PySem.Spec PyProof.Rows
section
variable{X:Cx}
def zsP(its:aj)(y:Value)(k:Nat)(hk:k<=its.length):(its.toArray.extract 0 k).push y++its.toArray.extract k=(its.take k++y::its.drop k).toArray:=by
 apply Array.ext'
 simp
 exact sW (by rw[qD];omega)
def zvF:V->List V->Hp->VK->Prop:=λx vs H Q=>∃l xs i y,x=.ref l/\vs=[.int i,y]/\H l=some (.lst xs)/\0<=i/\i<=xs.length/\xs.length<sizeLine/\∀H2,But l H H2->H2 l=some (.lst (xs.take i.toNat++y::xs.drop i.toNat))->Q .non H2
def zsQ:MtM X "list.insert" zvF:=by
 intro ai s σ H x vs v us Q I rx rv h
 obtain⟨l,xs,i,y,rfl,rfl,hH,i0,i1,hz,q⟩:=h
 cases rx
 obtain⟨u,u2,rfl,ru,ru2⟩:=aQ rv
 obtain⟨t,rfl⟩:=(show ∃t,u=Value.int i t from ru)
 obtain⟨z,its,n,r,hl,e⟩:=I.lstM hH
 have sz:sizeLine<2 ^ 63:=by decide
 refine pZ F.slot_list_insert ⟨_,e,rfl⟩ F.entry_list_insert (F.args_list_insert_3 _ _ _)
  (AutoSeq1.list_insert_list_int_val_1 l its.toArray n i t u2 (by rw[fitsIndex_both (k:=i) (by omega) (by omega)];decide) (by rw[size_toArray];omega)) ⟨e,?_⟩
 refine⟨.non,_,I.lset (its':=its.take i.toNat++u2::its.drop i.toNat) (ys:=xs.take i.toNat++y::xs.drop i.toNat) hH e ?_ ?_ ?_,rfl,q _ (But.upd l H _) zar⟩
 ·show(its.toArray.extract 0 (if i<0 then(i+(its.toArray.size:Int)).toNat else min i.toNat its.toArray.size)).push u2++its.toArray.extract (if i<0 then(i+(its.toArray.size:Int)).toNat else min i.toNat its.toArray.size)=_
  rw[if_neg (by omega),size_toArray,Nat.min_eq_left (by omega)]
  exact zsP its u2 _ (by omega)
 ·exact(r.take _).append (.cons ru2 (r.drop _))
 ·rw[tR,length_cons,sj,qD]
  omega
end
def Inv.turnedL{X:Cx}{ai:ae}{σ:St}{H:Hp}{s:Shared}{h':Heap}{t':Nat}{fp:List Addr}(I:Inv X ai σ H s)(k:∀b o,b∉fp->s.heap.get? b=some o->h'.get? b=some o)(hf:∀b∈fp,FpOk X ai H b):
    Inv X ai σ H { s with heap:=h',toks:=t' }:=by
 have nit:∀b u,H b=some u->b∉fp:=λb u e z=>by rw[(hf b z).1]at e;cases e
 refine I.step (g':=s.gens) (d':=s.drawn) (ch:=fp) (λb hb=>?_) (λb o _ _ hc e _=>k b o hc e) (λb o _ _ hc e _=>⟨o.slots,k b o hc e⟩) (λ_ _ _ _ n=>n)
  (λb o hc e=>⟨o,k b o hc e⟩) (λ_ _ e=>e) (λ_ _ _ e=>e) (λ_ _ _ e=>e) (λm hm=>?_) (λb u e=>?_) I.bare
 ·obtain⟨f0,f1,f2,f3,f4,f5⟩:=hf b hb
  exact⟨f3,f1,f4,f5⟩
 ·obtain⟨o,es,ep,ho,r⟩:=hm
  exact⟨o,es,ep,k _ o (λz=>(hf _ z).2.1 rfl) ho,r⟩
 ·refine(I.hok b u e).stay (λc v hc q=>k c v ?_ q) (λ_ q=>q) (λ_ _ q=>q) λ_ _ _ q=>q
  rcases hc with z | z
  ·rw[z];exact nit b u e
  ·exact nit c _ z
def Ite(K:am)(a:Addr):It:=
 ⟨λi H=>∃xs x,SqL K H a xs/\xs[i]?=some x,λi H x H'=>∃p y,x=.ref p/\Same H H'/\H p=none/\H' p=some (.tup [.int i,y])/\∀xs,SqL K H a xs->xs[i]?=some y,λi H=>∃xs,SqL K H a xs/\xs.length<=i⟩
def zox{P:Program}{w:World}{K:am}{elts:List Expr} {x1} {pos:Pos} (a e it:Addr) (hne:e≠it):
    Turn P w K (.Tuple elts x1 pos) (Ite K a) [e,it] e (λi h=>(∃old,IsEnum h e it i old)/\h.IsListIter it a i) where
 mem:=by simp
 obj:=λi h st b hb=>by
  obtain⟨⟨old,he⟩,o,ho,c,d⟩:=st
  rcases mem_cons.mp hb with rfl | hb
  ·exact⟨_,he,λv z=>by
    have z':Data.fields _=Data.cell v:=z
    cases z'⟩
  ·have e:b=it:=by simpa using hb
   subst e
   exact⟨o,ho,λv z=>by rw[d]at z;cases z⟩
 keep:=λi h h' st k=>⟨let ⟨old,he⟩:=st.1;⟨old,k e (by simp) _ he⟩,st.2.at λo q=>k it (by simp) o q⟩
 item:=by
  intro X hP hw hK hc i ai s σ H E I hf st hg
  subst hP hw hK
  obtain⟨xs,x,hq,hx⟩:=hg
  obtain⟨its,rv,p,hz⟩:=I.list hq
  obtain⟨u,hu,ru⟩:=rv.get hx
  obtain⟨⟨old,he⟩,hit⟩:=st
  have el:e<s.heap.objs.size:=tI he
  have il:it<s.heap.objs.size:=by obtain⟨o,y,_⟩:=id hit;exact tI y
  refine wpAny_pyNext_enum_item he hit p.isList (x:=u) (by simpa using hu) hne λh' ho hit' hT hsz hk=>?_
  refine⟨_,rfl,wpAny_letOwnedTupleGo_enum ho λh'' he'' hs''=>?_⟩
  have fr:H s.heap.objs.size=none:=I.hok.fresh (tF _)
  have I1:Inv X ai σ (upd H s.heap.objs.size (.tup [.int i,x])) { s with heap:=s.heap.push { cls:=.type "tuple",data:=.seq #[.int i s.toks,u] },toks:=s.toks }:=
   I.laid (λb o q=>tz _ q) (tF _) ⟨by show 2<=sizeLine;decide,[.int i s.toks,u],.cons ⟨_,rfl⟩ (.cons ru .nil),_,tJ _ rfl,rfl,_,rfl⟩
  have hf1:∀b∈[e,it],FpOk X ai (upd H s.heap.objs.size (.tup [.int i,x])) b:=λb hb=>by
   have nb:b≠s.heap.objs.size:=by
    simp only[mem_cons,not_mem_nil,or_false]at hb
    rcases hb with rfl | rfl
    ·exact tM el
    ·exact tM il
   exact⟨by rw[zaw nb];exact(hf b hb).1,(hf b hb).2⟩
  have I2:Inv X ai σ (upd H s.heap.objs.size (.tup [.int i,x])) { s with heap:=h'',toks:=s.toks+1 }:=by
   refine Inv.turnedL (s := { s with heap:=s.heap.push { cls:=.type "tuple",data:=.seq #[.int i s.toks,u] },toks:=s.toks }) (fp:=[e,it]) I1 (λb o hb q=>?_) hf1
   have q:(s.heap.push { cls:=.type "tuple",data:=.seq #[.int i s.toks,u] }).get? b=some o:=q
   simp only[mem_cons,not_mem_nil,or_false,not_or]at hb
   refine hs''.extBut b o hb.1 ?_
   rcases Heap.get?_push_cases q with⟨e1,e2⟩ | q'
   ·subst e1 e2
    exact hT
   ·exact hk b o hb.1 hb.2 q'
  refine⟨.ref s.heap.objs.size,_,I2,rfl,⟨_,x,rfl,zbs fr _,fr,zar,λys hy=>by rw[I.list_inj hy hq];exact hx⟩,⟨⟨_,by simpa using he''⟩,hit'.extBut hs''.extBut (Ne.symm hne)⟩,λb hb=>(hf1 b hb).1⟩
 done:=by
  intro X hP hw hK hc i ai s σ H E I hf st hg
  subst hP hw hK
  obtain⟨xs,hq,hx⟩:=hg
  obtain⟨its,rv,p,hz⟩:=I.list hq
  obtain⟨f0,f1,f2,f3,f4,f5⟩:=hf it (by simp)
  obtain⟨⟨old,he⟩,hit⟩:=st
  have hl:=rv.length
  exact wpAny_pyNext_enum_end (I.ok.hd hc) he hit p.isList (by simp;omega) λh' eb=>⟨rfl,I.turned (t':=s.toks) (λb o hb e=>eb b o hb e) f0 f1 f3 f4 f5⟩
 self:=λ_ _ _ _ _ st h=>let ⟨_,he⟩:=st.1;wpAny_pyIter_enum he h
def fj:bootBuiltins "enumerate" = some (.type "enumerate"):=by decide +kernel
def zvG(K:am)(ta:TA):TI:=λσ H R=>ta σ H λvs H1=>∃a,vs=[.ref a]/\(∃xs,SqL K H1 a xs)/\R (Ite K a) H1
theorem zla{X:Cx}{elts:List Expr} {x1} {pos':Pos} {a:Expr} {ta:TA} {p pos:Pos} (hg:Gl X "enumerate") (hm:X.mg "enumerate" = none) (ha:PA X [a] ta) (hs:starEach [a] X.env=[(false,eval a X.env)]:=by rfl):
  PI X (.Tuple elts x1 pos') (.Call (.Name "enumerate" p) [a] [] pos) (zvG X.K ta):=by
 with_unfolding_all
  intro ai s σ H R I h
  refine Call_ (zfk I hg hm fj (sX (thn (ha pos ai s σ H _ I h) λus s1 ⟨vs,H1,I1,r1,q1⟩=>?_) hs rfl))
  obtain⟨l,e,⟨xs,hq⟩,q⟩:=q1
  subst e
  cases r1 with
  | cons r rr=>
    cases rr
    cases r
    obtain⟨its,rv,pl,hz⟩:=I1.list hq
    refine call_enumerate_list pl.isList λh' he hit hsz hk=>?_
    refine wpAny_pyIter_enum he ?_
    have I2:Inv X ai σ H1 { s1 with heap:=h',toks:=s1.toks }:=I1.kept hk
    refine⟨s1.heap.objs.size+1,[s1.heap.objs.size+1,s1.heap.objs.size],_,_,H1,rfl,I2,zox l _ _ (Nat.succ_ne_self _),⟨⟨_,he⟩,hit⟩,λb hb=>?_,q⟩
    simp only[mem_cons,not_mem_nil,or_false]at hb
    rcases hb with rfl | rfl
    ·exact I1.fpOk (rn _) (I1.hok.fresh (rn _))
    ·exact I1.fpOk (tF _) (I1.hok.fresh (tF _))
def zmg{K:PySem.W.Frag}{a:Addr}{xs:List V}{g:TG}{tb:TS}{D:Ends}{σ:St}{H:Hp}(Pv:Nat->St->Hp->Prop)(h0:Pv 0 σ H)(hl:∀i σ H,i<=xs.length->Pv i σ H->SqL K H a xs)
    (hs:∀i x σ H p H1,xs[i]?=some x->Pv i σ H->Same H H1->H p=none->H1 p=some (.tup [.int i,x])->g (.ref p) σ H1 λσ2 H2=>tb { D with nx:=Pv (i+1),ct:=Pv (i+1),bk:=D.nx } σ2 H2) (hd:∀ σ H,Pv xs.length σ H->D.nx σ H):
    ∃W:Nat->Nat->St->Hp->Prop,(∃m,W 0 m σ H)/\∀i m σ H,W i m σ H->
     ((Ite K a).stop i H/\D.nx σ H)\/((Ite K a).go i H/\∃N:St->Hp->Prop,(∀ σ' H',N σ' H'->∃m',m'<m/\W (i+1) m' σ' H')/\∀x H',(Ite K a).yld i H x H'->g x σ H' λσ2 H2=>tb { D with nx:=N,ct:=N,bk:=D.nx } σ2 H2):=by
 refine⟨λi m σ H=>m=xs.length-i/\i<=xs.length/\Pv i σ H,⟨xs.length,by simp,tV _,h0⟩,?_⟩
 rintro i m σ H ⟨rfl,hi,p⟩
 have q:=hl i σ H hi p
 by_cases hlt:i<xs.length
 ·refine .inr ⟨⟨xs,xs[i],q,by simp[hlt]⟩,Pv (i+1),λσ' H' p'=>⟨xs.length-(i+1),by omega,rfl,hlt,p'⟩,λx H' y=>?_⟩
  obtain⟨pp,y',rfl,sm,n0,h1,y⟩:=y
  exact hs i y' σ H pp H' (y xs q) p sm n0 h1
 ·have e:i=xs.length:=by omega
  subst e
  exact .inl ⟨⟨xs,q,tF _⟩,hd σ H p⟩
section
variable{X:Cx}
def zoy(hc:X.calm=true):zdH X (.builtin "min") (λxs H Q=>∃(a:Addr)(ns:List Int),xs=[.ref a]/\SqL X.K H a (ns.map V.int)/\0<ns.length/\∀M,M∈ns->(∀y,y∈ns->M<=y)->Q (.int M) H):=by
 intro ai s σ H xs us Q I r h
 obtain⟨a,ns,rfl,hq,hn,q⟩:=h
 obtain⟨u,rfl,r1⟩:=zgU r
 cases(show u=Value.ref a from r1)
 obtain⟨its,rv,p,hz⟩:=I.list hq
 have hi:IntsAre its ns:=zea rv
 obtain⟨xs,e⟩:=hi.allInts.items
 have hns:ns=xs.toList.map (·.1):=by
  rw[<-hi.numsOf,<-nums_intItems,<-e]
 have hsz:0<xs.size:=by
  have h3:=hn;rw[hns,tm,Array.length_toList]at h3;exact h3
 have hl:=p.isList
 rw[e]at hl
 refine min_intList (I.ok.hd hc) hl hsz λv h' tk hv hk=>?_
 obtain⟨t,rfl⟩:=intItems_at hv
 obtain⟨h1,h2⟩:=argBest_lt (numAt xs) (xs.size-1)
 refine⟨.int _,H,I.kept hk,⟨_,rfl⟩,q _ ?_ λy hy=>?_⟩
 ·rw[hns,numAt_eq];exact getD_mem (by rw[tm,Array.length_toList];omega)
 ·rw[hns]at hy
  obtain⟨j,hj,rfl⟩:=mem_getD hy
  rw[tm,Array.length_toList]at hj
  rw[<-numAt_eq];exact h2 j (by omega)
end
def refV:V->Bool
 | .ref _=>true
 | _=>false
def Deq(K:am)(H:Hp):Nat->V->V->Prop
 | 0,x,y=>x=y/\(zcd x=true\/refV x=true)
 | n+1,x,y=>(x=y/\(zcd x=true\/refV x=true))\/∃a b xs ys,x=.ref a/\y=.ref b/\((SqT K H a xs/\SqT K H b ys)\/(SqL K H a xs/\SqL K H b ys))/\xs.length=ys.length/\∀(j:Nat) u v,xs[j]?=some u->ys[j]?=some v->Deq K H n u v
theorem Deq.flat{K:am}{H:Hp}{x:V}(n:Nat)(h:zcd x=true):Deq K H n x x:=by
 cases n with
 | zero=>exact⟨rfl,.inl h⟩
 | succ n=>exact .inl ⟨rfl,.inl h⟩
def Deq.int{K:am}{H:Hp}(n:Nat)(i:Int):Deq K H n (.int i) (.int i):=Deq.flat n rfl
def Deq.tup{K:am}{H:Hp}{n:Nat}{a b:Addr}{xs ys:List V}(ha:SqT K H a xs)(hb:SqT K H b ys)(hl:xs.length=ys.length)(h:∀(j:Nat) u v,xs[j]?=some u->ys[j]?=some v->Deq K H n u v):Deq K H (n+1) (.ref a) (.ref b):=
 .inr ⟨a,b,xs,ys,rfl,rfl,.inl ⟨ha,hb⟩,hl,h⟩
def zqL{x:V}(h:zcd x=true):eqV x x=true:=by
 cases x<;>first | (cases h;done) | simp[eqV]
theorem zoz{A:Around}{s:Shared}{x:V}{u v:Value}(rx:RelV x u)(ry:RelV x v)(h:zcd x=true\/refV x=true):SeqAt.EqAt A s u v true:=by
 rcases h with h | h
 ·have:=zod (A:=A) (s:=s) rx ry h h
  rw[zqL h]at this
  exact this
 ·cases x with
  | ref a=>
    cases(show u=Value.ref a from rx)
    cases(show v=Value.ref a from ry)
    exact SeqAt.EqAt.same _
  | _=>cases h
def zec(n:Nat):(List.range n).all (λ_=>true)=true:=by
 rw[all_eq_true]
 intro _ _
 rfl
section
variable{X:Cx}{ai:ae}{σ:St}{H:Hp}{s:Shared}
def ziJ{A:Around}{xs ys:List V}{its its2:aj}(r:Vals xs its)(r2:Vals ys its2)(h:∀(j:Nat) x y u v,xs[j]?=some x->ys[j]?=some y->RelV x u->RelV y v->SeqAt.EqAt A s u v true)
    (j:Nat) (h1:j<its.toArray.size) (h2:j<its2.toArray.size):SeqAt.EqAt A s its.toArray[j] its2.toArray[j] true:=by
 have l1:j<xs.length:=by rw[r.length];simpa using h1
 have l2:j<ys.length:=by rw[r2.length];simpa using h2
 obtain⟨u,eu,ru⟩:=r.get (tj l1)
 obtain⟨v,ev,rv⟩:=r2.get (tj l2)
 have e1:its.toArray[j]=u:=by
  have:=(List.getElem?_eq_some_iff.mp eu).2
  simpa using this
 have e2:its2.toArray[j]=v:=by
  have:=(List.getElem?_eq_some_iff.mp ev).2
  simpa using this
 rw[e1,e2]
 exact h j _ _ u v (tj l1) (tj l2) ru rv
theorem Deq.at(I:Inv X ai σ H s):∀(n:Nat){A:Around}{x y:V}{u v:Value},Deq X.K H n x y->RelV x u->RelV y v->A.units+n<cLine->SeqAt.EqAt A s u v true:=by
 intro n
 induction n with
 | zero=>
   intro A x y u v h rx ry hu
   obtain⟨rfl,h⟩:=h
   exact zoz rx ry h
 | succ n ih=>
   intro A x y u v h rx ry hu
   rcases h with⟨rfl,h⟩ | ⟨a,b,xs,ys,rfl,rfl,hs,hl,h⟩
   ·exact zoz rx ry h
   cases(show u=Value.ref a from rx)
   cases(show v=Value.ref b from ry)
   by_cases ab:a=b
   ·subst ab
    exact SeqAt.EqAt.same _
   refine SeqAt.EqAt.of_refs ab ?_
   have hu1:A.in1.units+n<cLine:=by rw[pP];omega
   rcases hs with⟨ha,hb⟩ | ⟨ha,hb⟩
   ·obtain⟨its,r,pl,hz⟩:=I.tuple ha
    obtain⟨its2,r2,pl2,hz2⟩:=I.tuple hb
    have e1:its.toArray.size=xs.length:=by simp[r.length]
    have e2:its2.toArray.size=ys.length:=by simp[r2.length]
    have z:=SeqAt.RcAt.tuples (s:=s) (e:=λ_=>true) pl pl2 (show A.units<cLine by omega) (ziJ r r2 λj x y u v hx hy ru rv=>ih (h j x y hx hy) ru rv hu1)
    rw[zec,e1,e2,hl,rH,qg]at z
    exact z
   ·obtain⟨its,r,pl,hz⟩:=I.list ha
    obtain⟨its2,r2,pl2,hz2⟩:=I.list hb
    have e1:its.toArray.size=xs.length:=by simp[r.length]
    have e2:its2.toArray.size=ys.length:=by simp[r2.length]
    have z:=SeqAt.RcAt.lists (s:=s) (e:=λ_=>true) pl.isList pl2.isList (by omega) (show A.units<cLine by omega) (ziJ r r2 λj x y u v hx hy ru rv=>ih (h j x y hx hy) ru rv hu1)
    rw[zec]at z
    exact z
end
section
variable{X:Cx}
def zqM(K:am)(n:Nat)(x y:V)(H:Hp):Prop:=∃a b xs ys,x=.ref a/\y=.ref b/\((SqT K H a xs/\SqT K H b ys)\/(SqL K H a xs/\SqL K H b ys))/\xs.length=ys.length/\∀(j:Nat) u v,xs[j]?=some u->ys[j]?=some v->Deq K H n u v
def zuq(n:Nat)(hu:X.A.units+(n+1)<cLine):OpR X (compareOp .Eq) (λx y H Q=>zqM X.K n x y H/\Q (.bl true) H):=by
 intro ai s σ H x y v u Q I rx ry h
 obtain⟨⟨a,b,xs,ys,rfl,rfl,hs,hl,h⟩,q⟩:=h
 cases rx
 cases ry
 have hu1:X.A.in1.units+n<cLine:=by rw[pP];omega
 rcases hs with⟨ha,hb⟩ | ⟨ha,hb⟩
 ·obtain⟨its,r,pl,hz⟩:=I.tuple ha
  obtain⟨its2,r2,pl2,hz2⟩:=I.tuple hb
  have e1:its.toArray.size=xs.length:=by simp[r.length]
  have e2:its2.toArray.size=ys.length:=by simp[r2.length]
  refine SeqAt.eq_tupleAt (s:=s) (e:=λ_=>true) pl pl2 (show X.A.units<cLine by omega) (ziJ r r2 λj x y u v hx hy ru rv=>Deq.at I n (h j x y hx hy) ru rv hu1) ⟨.bl _,H,I,rfl,?_⟩
  rw[zec,e1,e2,hl,rH,qg]
  exact q
 ·obtain⟨its,r,pl,hz⟩:=I.list ha
  obtain⟨its2,r2,pl2,hz2⟩:=I.list hb
  have e1:its.toArray.size=xs.length:=by simp[r.length]
  have e2:its2.toArray.size=ys.length:=by simp[r2.length]
  refine SeqAt.eq_listAt (s:=s) (e:=λ_=>true) pl.isList pl2.isList (by omega) (show X.A.units<cLine by omega) (ziJ r r2 λj x y u v hx hy ru rv=>Deq.at I n (h j x y hx hy) ru rv hu1) ⟨.bl _,H,I,rfl,?_⟩
  rw[zec]
  exact q
def zmh(n:Nat)(hu:X.A.units+(n+1)<cLine):OpR X (compareOp .NotEq) (λx y H Q=>zqM X.K n x y H/\Q (.bl false) H):=by
 intro ai s σ H x y v u Q I rx ry h
 obtain⟨⟨a,b,xs,ys,rfl,rfl,hs,hl,h⟩,q⟩:=h
 cases rx
 cases ry
 have hu1:X.A.in1.units+n<cLine:=by rw[pP];omega
 rcases hs with⟨ha,hb⟩ | ⟨ha,hb⟩
 ·obtain⟨its,r,pl,hz⟩:=I.tuple ha
  obtain⟨its2,r2,pl2,hz2⟩:=I.tuple hb
  have e1:its.toArray.size=xs.length:=by simp[r.length]
  have e2:its2.toArray.size=ys.length:=by simp[r2.length]
  refine SeqAt.RcNeAt.tuples (s:=s) (e:=λ_=>true) pl pl2 (show X.A.units<cLine by omega) (ziJ r r2 λj x y u v hx hy ru rv=>Deq.at I n (h j x y hx hy) ru rv hu1) X.prog X.w X.xe _ ⟨.bl _,H,I,rfl,?_⟩
  rw[zec,e1,e2,hl,rH,qg]
  exact q
 ·obtain⟨its,r,pl,hz⟩:=I.list ha
  obtain⟨its2,r2,pl2,hz2⟩:=I.list hb
  have e1:its.toArray.size=xs.length:=by simp[r.length]
  have e2:its2.toArray.size=ys.length:=by simp[r2.length]
  refine SeqAt.RcNeAt.lists (s:=s) (e:=λ_=>true) pl.isList pl2.isList (by omega) (show X.A.units<cLine by omega) (ziJ r r2 λj x y u v hx hy ru rv=>Deq.at I n (h j x y hx hy) ru rv hu1) X.prog X.w X.xe _ ⟨.bl _,H,I,rfl,?_⟩
  rw[zec]
  exact q
end
def Room.units9{k:Nat}{A:Around}(r:Room k A):A.units+(9+1)<cLine:=by have:=r.un;omega
end L2
namespace L2
open PySem
def zoA(c d e:Cl)(t:Int):gap c e t*wbot d=gap c d t*wbot e+gap d e t*wbot c:=by
 unfold gap
 rw[rW,rW,rW]
 rw[show wtop c t*wbot e*wbot d=wtop c t*wbot d*wbot e by ac_rfl,show wtop e t*wbot c*wbot d=wtop e t*wbot d*wbot c by ac_rfl,show wtop d t*wbot e*wbot c=wtop d t*wbot c*wbot e by ac_rfl]
 omega
def zoB{c d:Cl}{t:Int}:ahd c d t=true↔0<gap c d t\/(gap c d t=0/\tie c d=true):=by
 unfold ahd
 by_cases z:gap c d t=0
 ·rw[if_pos z]
  constructor
  ·intro h
   exact .inr ⟨z,h⟩
  ·rintro(h | h)
   ·omega
   ·exact h.2
 ·rw[if_neg z,tZ]
  constructor
  ·exact .inl
  ·rintro(h | h)
   ·exact h
   ·exact absurd h.1 z
def zoC{c d e:Cl}(h1:tie c d=true)(h2:tie d e=true):tie c e=true:=by
 unfold tie at *
 rw[tZ]at *
 omega
def dW{c d e:Cl}{t:Int}(oc:c.Ok)(od:d.Ok)(oe:e.Ok)(h1:ahd c d t=true)(h2:ahd d e t=true):ahd c e t=true:=by
 rw[zoB]at *
 have k:=zoA c d e t
 have b1:=zbV oc
 have b2:=zbV od
 have b3:=zbV oe
 have g1:0<=gap c d t:=by omega
 have g2:0<=gap d e t:=by omega
 have m1:=sT g1 (show 0<=wbot e by omega)
 have m2:=sT g2 (show 0<=wbot c by omega)
 rcases h1 with h1 | ⟨z1,h1⟩
 ·have:=sL h1 b3
  refine .inl (Int.not_le.mp λle=>?_)
  have:=si le (show 0<=wbot d by omega)
  omega
 ·rcases h2 with h2 | ⟨z2,h2⟩
  ·have:=sL h2 b1
   refine .inl (Int.not_le.mp λle=>?_)
   have:=si le (show 0<=wbot d by omega)
   omega
  ·refine .inr ⟨?_,zoC h1 h2⟩
   rw[z1,z2,Int.zero_mul,Int.zero_mul,pA]at k
   rcases Int.mul_eq_zero.mp k with z | z
   ·exact z
   ·omega
def ins(t:Int)(c:Cl):List Cl->List Cl
 | []=>[c]
 | d::ds=>if ahd d c t=true then d::ins t c ds else c::d::ds
def ord(cs:List Cl)(t:Int):List Cl:=cs.foldl (λacc c=>ins t c acc) []
theorem zhb(t:Int)(c:Cl):∀l,(ins t c l).Perm (c::l)
 | []=>.refl _
 | d::ds=>by
   unfold ins
   split
   ·exact((zhb t c ds).cons d).trans (.swap c d ds)
   ·exact .refl _
theorem zhA(t:Int):∀(cs acc:List Cl),(cs.foldl (λacc c=>ins t c acc) acc).Perm (cs++acc)
 | [],acc=>.refl _
 | c::cs,acc=>by
   rw[oh]
   refine(zhA t cs (ins t c acc)).trans ?_
   refine((zhb t c acc).append_left cs).trans ?_
   exact List.perm_middle
def zaU(cs:List Cl)(t:Int):(ord cs t).Perm cs:=by
 have:=zhA t cs []
 rw[rE]at this
 exact this
structure Good(cs:List Cl):Prop where
 ok:∀c,c∈cs->c.Ok
 nd:(cs.map (·.n)).Nodup
abbrev Srt(t:Int)(l:List Cl):Prop:=l.Pairwise λc d=>ahd c d t=true
theorem zoD{t:Int}{c:Cl}(oc:c.Ok):∀{l:List Cl},(∀d,d∈l->d.Ok/\d.n≠c.n)->Srt t l->Srt t (ins t c l)
 | [],_,_=>List.pairwise_singleton _ _
 | d::ds,ho,hs=>by
   obtain⟨h1,h2⟩:=pairwise_cons.mp hs
   obtain⟨od,nd⟩:=ho d (tN ..)
   have ho':∀e,e∈ds->e.Ok/\e.n≠c.n:=λe he=>ho e (tO _ he)
   unfold ins
   split
   ·rename_i hd
    refine pairwise_cons.mpr ⟨λe he=>?_,zoD oc ho' h2⟩
    rcases mem_cons.mp ((zhb t c ds).mem_iff.mp he)with rfl | he
    ·exact hd
    ·exact h1 e he
   ·rename_i hd
    have cd:ahd c d t=true:=by
     rw[zbI nd]
     simpa using hd
    refine pairwise_cons.mpr ⟨λe he=>?_,hs⟩
    rcases mem_cons.mp he with rfl | he
    ·exact cd
    ·exact dW oc od (ho' e he).1 cd (h1 e he)
theorem ziK(t:Int):∀(cs acc:List Cl),Good (cs++acc)->Srt t acc->Srt t (cs.foldl (λacc c=>ins t c acc) acc)
 | [],acc,_,h=>h
 | c::cs,acc,g,h=>by
   rw[oh]
   have g':Good (cs++ins t c acc):=by
    have pm:(cs++ins t c acc).Perm (c::cs++acc):=((zhb t c acc).append_left cs).trans List.perm_middle
    exact⟨λe he=>g.ok e (pm.mem_iff.mp he),(pm.map (·.n)).nodup_iff.mpr g.nd⟩
   refine ziK t cs _ g' (zoD (g.ok c (by simp)) (λd hd=>⟨g.ok d (by simp[hd]),λe=>?_⟩) h)
   have nd:=g.nd
   rw[List.cons_append,t3,nodup_cons]at nd
   exact nd.1 (by rw[<-e];exact mem_map.mpr ⟨d,by simp[hd],rfl⟩)
def zlb{cs:List Cl}(g:Good cs)(t:Int):Srt t (ord cs t):=ziK t cs [] (by rw[rE];exact g) .nil
def zbl{c d:Cl}{t:Int}(h1:ahd c d t=true)(h2:ahd d c t=true):False:=by
 rw[zoB]at *
 rw[zmf c d t]at h2
 have z:gap c d t=0:=by omega
 have t1:tie c d=true:=by
  rcases h1 with h | h
  ·omega
  ·exact h.2
 have t2:tie d c=true:=by
  rcases h2 with h | h
  ·omega
  ·exact h.2
 unfold tie at t1 t2
 rw[tZ]at t1 t2
 omega
theorem zmi{t:Int}:∀{l m:List Cl},l.Perm m->Srt t l->Srt t m->l=m
 | [],m,p,_,_=>(List.Perm.nil_eq p)
 | c::l,[],p,_,_=>absurd (List.Perm.length_eq p) (by simp)
 | c::l,d::m,p,hl,hm=>by
   obtain⟨l1,l2⟩:=pairwise_cons.mp hl
   obtain⟨m1,m2⟩:=pairwise_cons.mp hm
   have e:c=d:=by
    rcases mem_cons.mp (p.mem_iff.mp (tN (a:=c) (l:=l)))with e | hc
    ·exact e
    ·rcases mem_cons.mp (p.mem_iff.mpr (tN (a:=d) (l:=m)))with e | hd
     ·exact e.symm
     ·exact(zbl (l1 d hd) (m1 c hc)).elim
   subst e
   rw[zmi ((List.perm_cons c).mp p) l2 m2]
def zmj{cs l:List Cl}{t:Int}(g:Good cs)(p:l.Perm cs)(h:Srt t l):l=ord cs t:=zmi (p.trans (zaU cs t).symm) h (zlb g t)
def Dfn.calF{P:Program}{w:World}{K:am}{mg:af}{bj:Heap}{x:Str}{st:Stmt}{ps:List Str}{f:Addr}{fd:FuncData}{k:Nat}{sp:Sp}
    (D:Dfn K mg x st ps f fd) (h:∀vs H Q E,sp vs H Q E->False):Cal P w K mg bj x k ps sp:=
 D.cal ⟨λ_ _ _ _ z=>(h _ _ _ _ z).elim,λ_ _ _ _ _ _ _ _ _ _ _ _ _ z=>(h _ _ _ _ z).elim⟩
end L2
namespace L2
open PySem PySem.Spec PyProof.Rows
theorem zaS{K:am}{a:Addr}{xs:List V}{js:List Nat}{tc:TT}{te:TE}{σ:St}{H1:Hp}{Q:VK}(p:Nat->Bool)(f:Nat->V)(hl:SqL K H1 a xs)
  (ht:∀i x Hh (Q':Bool->Hp->Prop),xs[i]?=some x->Same H1 Hh->(∀Hh',Same Hh Hh'->Q' (p i) Hh')->tc (some x::caps σ js) Hh Q')
  (he:∀i x Hh (Q':VK),xs[i]?=some x->p i=true->Same H1 Hh->(∀Hh',Same Hh Hh'->Q' (f i) Hh')->te (some x::caps σ js) Hh Q')
  (hz:xs.length<sizeLine) (q:∀D H2,Same H1 H2->H1 D=none->H2 D=some (.lst (((List.range xs.length).filter p).map f))->Q (.ref D) H2):
  zdK (Itl K a) js tc te σ H1 Q:=by
 intro D H2 s2 hD h2
 refine⟨λi m acc H3=>m=xs.length-i/\i<=xs.length/\acc=((List.range i).filter p).map f/\Same H1 H3/\H3 D=some (.lst acc),⟨_,rfl,tV _,by simp,s2,h2⟩,?_⟩
 rintro i m acc H3 ⟨rfl,hi,ea,s3,h3⟩
 have hl3:SqL K H3 a xs:=s3.seq hl
 have hll:acc.length<=xs.length:=by
  rw[ea,tm]
  refine tU (sf _ _) ?_
  rw[qm]
  exact hi
 refine⟨h3,by omega,?_⟩
 by_cases hlt:i<xs.length
 ·have hx:xs[i]?=some xs[i]:=tj hlt
  refine .inr ⟨⟨xs,_,hl3,hx⟩,λy H4 z=>?_⟩
  obtain⟨e,ey⟩:=z
  have ey2:=ey xs hl3
  subst e
  refine ht i y _ _ ey2 s3 λH5 s5=>?_
  have h5:=s5 _ _ h3
  have s35:=s3.trans s5
  have tk:(List.range (i+1)).filter p=(List.range i).filter p++(if p i=true then[i]else[]):=by
   rw[oi,qu]
   congr 1
   cases h:p i<;>simp[h]
  cases hp:p i with
  | true=>
    refine iteT (he i y _ _ ey2 hp s35 λH6 s6=>⟨s6 _ _ h5,λH7 k7 h7=>⟨xs.length-(i+1),by omega,rfl,hlt,?_,λb o e=>?_,h7⟩⟩)
    ·rw[tk,hp,if_pos rfl,t4,<-ea]
     rfl
    ·by_cases hb:b=D
     ·subst hb
      rw[hD]at e
      cases e
     ·exact k7 b o hb (s6 b o (s35 b o e))
  | false=>
    refine iteF ⟨xs.length-(i+1),by omega,rfl,hlt,?_,s35,h5⟩
    rw[tk,hp,if_neg tG,rE]
    exact ea
 ·have e:i=xs.length:=by omega
  subst e
  refine .inl ⟨⟨xs,hl3,tF _⟩,?_⟩
  rw[ea]at h3
  exact q D _ s3 hD h3
def zbW(n:Nat):(List.range n).filter (λ_=>true)=List.range n:=by
 rw[filter_eq_self]
 intro _ _
 rfl
def itm{α:Type}(xs:List α)(g : α->V)(i:Nat):V:=match xs[i]? with
 | some x=>g x
 | none=>.non
theorem zes{α:Type}(g : α->V):∀xs:List α,(List.range xs.length).map (itm xs g)=xs.map g
 | []=>rfl
 | x::xs=>by
   rw[length_cons,sV,t3,t5,t3,<-zes g xs]
   congr 1
structure IsCs(K:am)(H:Hp)(l:Addr)(ps:List (Addr × Cl)):Prop where
 at_:H l=some (.lst (ps.map λq=>V.ref q.1))
 cl:∀q,q∈ps->IsCl K H q.1 q.2
def IsCs.same{K:am}{H H':Hp}{l:Addr}{ps:List (Addr × Cl)}(s:Same H H')(h:IsCs K H l ps):IsCs K H' l ps:=⟨s _ _ h.at_,λq hq=>(h.cl q hq).same s⟩
def insP(t:Int)(c:Addr × Cl):List (Addr × Cl)->List (Addr × Cl)
 | []=>[c]
 | d::ds=>if ahd d.2 c.2 t=true then d::insP t c ds else c::d::ds
def ordP(ps:List (Addr × Cl))(t:Int):List (Addr × Cl):=ps.foldl (λacc c=>insP t c acc) []
theorem zmk(t:Int)(c:Addr × Cl):∀l,(insP t c l).map (·.2)=ins t c.2 (l.map (·.2))
 | []=>rfl
 | d::ds=>by
   unfold insP
   rw[t3]
   unfold ins
   by_cases h:ahd d.2 c.2 t=true
   ·rw[if_pos h,if_pos h,t3,zmk t c ds]
   ·rw[if_neg h,if_neg h,t3,t3]
theorem zoE(t:Int):∀(ps acc:List (Addr × Cl)),(ps.foldl (λacc c=>insP t c acc) acc).map (·.2)=(ps.map (·.2)).foldl (λacc c=>ins t c acc) (acc.map (·.2))
 | [],_=>rfl
 | p::ps,acc=>by
   rw[oh,zoE t ps,zmk,t3,oh]
def bL(ps:List (Addr × Cl))(t:Int):(ordP ps t).map (·.2)=ord (ps.map (·.2)) t:=zoE t ps []
theorem zml(t:Int)(c:Addr × Cl):∀l q,q∈insP t c l↔q=c\/q∈l
 | [],q=>by simp[insP]
 | d::ds,q=>by
   unfold insP
   split
   ·rw[mem_cons,zml t c ds q,mem_cons]
    constructor
    ·rintro(h | h | h)
     ·exact .inr (.inl h)
     ·exact .inl h
     ·exact .inr (.inr h)
    ·rintro(h | h | h)
     ·exact .inr (.inl h)
     ·exact .inl h
     ·exact .inr (.inr h)
   ·rw[mem_cons]
theorem zoF(t:Int)(c:Addr × Cl):∀(l:List (Addr × Cl))(k:Nat),k<=l.length->(∀j q,j<k->l[j]?=some q->ahd q.2 c.2 t=true)->(∀q,l[k]?=some q->ahd q.2 c.2 t=false)->insP t c l=l.take k++c::l.drop k
 | [],k,hk,_,_=>by
   have:k=0:=by simpa using hk
   subst this
   rfl
 | d::ds,0,_,_,h2=>by
   have:=h2 d rfl
   unfold insP
   rw[this,if_neg tG]
   rfl
 | d::ds,k+1,hk,h1,h2=>by
   have:=h1 0 d (Nat.zero_lt_succ _) rfl
   unfold insP
   rw[if_pos this,zoF t c ds k (by simpa using hk) (λj q hj hq=>h1 (j+1) q (by omega) (by simpa using hq)) (λq hq=>h2 q (by simpa using hq))]
   rfl
theorem zhB(t:Int)(q:Addr × Cl):∀ps acc:List (Addr × Cl),q∈ps.foldl (λacc c=>insP t c acc) acc↔q∈ps\/q∈acc
 | [],acc=>by simp
 | p::ps,acc=>by
   rw[oh,zhB t q ps,zml,mem_cons]
   constructor
   ·rintro(h | h | h)
    ·exact .inl (.inr h)
    ·exact .inl (.inl h)
    ·exact .inr h
   ·rintro((h | h) | h)
    ·exact .inr (.inl h)
    ·exact .inl h
    ·exact .inr (.inr h)
def zdf{ps:List (Addr × Cl)}{t:Int}{q:Addr × Cl}:q∈ordP ps t↔q∈ps:=by
 unfold ordP
 rw[zhB]
 simp
theorem But.free{a p:Addr}{H H2:Hp}{o:HO}(k:But a H H2)(h2:H2 a=some o)(n:H2 p=none):H p=none:=by
 cases e:H p with
 | none=>rfl
 | some u=>
   by_cases z:p=a
   ·rw[z,h2]at n
    cases n
   ·rw[k _ _ z e]at n
    cases n
def at_3(x y z:V){r:Int}(h0:0<=r)(h1:r<3):∃v,atI [x,y,z] r=some v/\(v=x\/v=y\/v=z):=by
 rcases(by omega:r=0\/r=1\/r=2)with rfl | rfl | rfl
 ·exact⟨x,rfl,.inl rfl⟩
 ·exact⟨y,rfl,.inr (.inl rfl)⟩
 ·exact⟨z,rfl,.inr (.inr rfl)⟩
def zur{n:Nat}{i:Int}(h0:0<=i)(h1:i<n):ixN n i=some i.toNat:=by
 unfold ixN
 rw[if_pos h0,if_pos h1]
structure St3(H:Hp)(a:Addr):Prop where
 ex:∃p q r:Int,H a=some (.lst [.int p,.int q,.int r])
def St3.same{H H':Hp}{a:Addr}(s:Same H H')(h:St3 H a):St3 H' a:=let ⟨p,q,r,e⟩:=h.ex;⟨p,q,r,s _ _ e⟩
def St3.but{H H':Hp}{a b:Addr}(s:But b H H')(ne:a≠b)(h:St3 H a):St3 H' a:=let ⟨p,q,r,e⟩:=h.ex;⟨p,q,r,s _ _ ne e⟩
def St3.ne{H:Hp}{a b:Addr}(h:St3 H a)(n:H b=none):b≠a:=let ⟨_,_,_,e⟩:=h.ex;λz=>by rw[z,e]at n;cases n
def But.skip{a b:Addr}{H H1 H2:Hp}(k:But a H H1)(k2:But b H1 H2)(nb:H b=none):But a H H2:=λc o hc h=>k2 c o (λz=>by rw[z,nb]at h;cases h) (k c o hc h)
def zoG(c d:Cl):HT.lexLt [c.came,c.n] [d.came,d.n]=tie c d:=by
 rw[HT.lexLt_cons,HT.lexLt_cons,HT.lexLt_nil_nil]
 unfold tie
 by_cases k:c.came=d.came
 ·rw[if_pos k]
  by_cases k2:c.n=d.n
  ·rw[if_pos k2,eq_comm,sS]
   omega
  ·rw[if_neg k2,rg]
   omega
 ·rw[if_neg k,rg]
  omega
section
variable{X:Cx}{tg:Expr}
end
def zet{X:Cx}{iter elt:Expr}{x y:Str}{i:Nat}{px py spos:Pos}{ifs:List Expr}{scope:Scope}{pos:Pos}{wi:TI}{N:List Str}{js:List Nat}{tc:TT}{te:TE}
    (hN:X.N.Nodup) (hiN:X.N[i]?=some y) (hyl:X.env.scope.names.lookup y=some .local)
    (hc:X.calm=true) (S:CompScope X scope x N js) (hi:PI X (.Name x px) iter wi)
    (ht:∀cl C s₀ H₀ ex,zhw (av X N scope cl C s₀ H₀ ex) ifs tc) (he:∀cl C s₀ H₀ ex,PE (av X N scope cl C s₀ H₀ ex) elt te)
    (hsw:swapsWith (.ListComp elt [⟨.Name x px,iter,ifs,0⟩] scope pos) (some (.Name y py)) spos.line X.env=pure true:=by rfl)
    (hs:∀x,foldedSetIterable iter X.env x=pure x:=by intro _;rfl):
    PS X (.Assign [.Name y py] (.ListComp elt [⟨.Name x px,iter,ifs,0⟩] scope pos) spos) (tAsg (zsI wi js tc te) (zjD i)):=by
 with_unfolding_all
  intro ai s σ H DD I h
  rw[exec_Assign_Name_used _ _ _ _ hsw]
  refine tD (wpAny_standAt (tD ?_))
  show wpAny _ X.A (do let _ <-comprehension (.ListComp elt [⟨.Name x px,iter,ifs,0⟩] scope pos) scope X.env _ (newList []) false (eval iter X.env) (some (assign (.Name y py) X.env))) _ _ s
  refine tD (sP (zjX (QQ:=λ_ s'=>SP X ai DD .next s') hc S hi ht he hs I h λ{cl C D s2 s5 H2 H4 fp o} hC hD below I2 f2 I5 qn a=>?_) (λ_ s' hq=>tH (tH hq)) λ_ _ e=>e)
  obtain⟨m5,n5,_⟩:=I5.loc
  have u5:=I5.bj
  have nC:∀b o,s2.heap.get? b=some o->b≠C:=λb o e=>(below b (tI e)).1
  have IX:Inv X ai σ H4 s5:=by
   refine I2.call' (s':=s5) (ch:=fp) I5.os ?_ I5.hok I5.bare λb hb=>⟨(f2 b hb).2.2.2.1,(f2 b hb).2.1,(f2 b hb).2.2.2.2.1,(f2 b hb).2.2.2.2.2⟩
   exact⟨u5.keep,u5.slot,u5.free,u5.there,u5.tups,u5.frzs,u5.tbls⟩
  obtain⟨g0,g1,g2,g3,g4,g5⟩:=I2.fpOk (b:=C) (H':=H4) (by rw[hC];exact rn _) I5.free
  refine wpAny_assign_Name (zjC IX hN hiN (.inl hyl) (v:=.ref D) rfl (λs6 I6 ⟨aa,sb6,ha⟩=>?_) (.inr hyl))
  have hCa:C≠aa:=by
   rcases ha with rfl | ha
   ·exact g1
   ·exact λz=>g4 _ _ ha z.symm
  refine⟨m5,n5.sameBut sb6 hCa,λh' sb=>⟨_,H4,?_,qn⟩⟩
  exact I6.turned (t':=s6.toks) (λb o hb e=>sb.extBut b o hb e) g0 g1 g3 g4 g5
def zoH:bootBuiltins "divmod" = some (.builtin "divmod"):=by decide +kernel
def zoI:bootBuiltins "any" = some (.builtin "any"):=by decide +kernel
section
variable{X:Cx}
def fk:zdH X (.builtin "divmod") (λxs H Q=>∃i j,xs=[.int i,.int j]/\zuf i j/\∀p H',Same H H'->H p=none->H' p=some (.tup [.int (i / j),.int (i % j)])->Q (.ref p) H'):=by
 intro ai s σ H xs us Q I r h
 obtain⟨i,j,rfl,⟨h1,h2⟩,q⟩:=h
 obtain⟨u,w',rfl,⟨t,rfl⟩,⟨t',rfl⟩⟩:=aQ r
 have h3:j.natAbs<2 ^ 200:=by
  have z:(1000000000000000000000000000000000000000000000000000000000000:Nat)<=2 ^ 200:=by decide
  exact tQ (by omega) z
 have h4:j.natAbs.log2<200:=(Nat.log2_lt (by omega)).mpr h3
 refine divmod_int (by omega) ?_ (.inl (PyProof.noPylong_of_log2 (by omega)))
 rw[Int.fdiv_eq_ediv_of_nonneg i (by omega),Int.fmod_eq_emod_of_nonneg i (by omega)]
 have hn:H s.heap.objs.size=none:=I.hok.fresh (tF _)
 refine⟨.ref s.heap.objs.size,_,?_,rfl,q _ _ (zbs hn _) hn zar⟩
 refine I.laid (λb o e=>tz _ e) (tF _) ⟨by simp only[length_cons,length_nil];rw[sizeLine_eq];decide,[.int (i / j) s.toks,.int (i % j) (s.toks+1)],.cons ⟨_,rfl⟩ (.cons ⟨_,rfl⟩ .nil),?_⟩
 exact⟨_,tJ s.heap rfl,rfl,0,rfl⟩
end
def fm{top bot g r:Int}(hb:0<bot)(hr:0<r)(e:top*r=g*bot):top % bot=0↔top / bot*r=g:=by
 have h:=Int.mul_ediv_add_emod top bot
 constructor
 ·intro z
  rw[z,pA]at h
  have:(top / bot*r)*bot=g*bot:=by rw[<-e,<-h];rw[Int.mul_ediv_cancel_left _ (by omega)];ac_rfl
  exact Int.eq_of_mul_eq_mul_right (by omega) this
 ·intro z
  have h1:top*r=top / bot*bot*r:=by rw[e,<-z];ac_rfl
  have h2:top=top / bot*bot:=Int.eq_of_mul_eq_mul_right (by omega) h1
  rw[pU bot]at h
  omega
def zsR{b l:Cl}{t n:Int}(h0:ahd b l t=false)(rp:0<rate b l)(h1:n*rate b l <= - gap b l t)(h2 : - gap b l t<(n+1)*rate b l):
    Pass b l t (.int (t+if n*rate b l = - gap b l t/\tie b l=true then n else n+1)):=by
 have g0:=zsO h0
 have hn:0<=n:=by
  refine Int.not_lt.mp λneg=>?_
  have:=si (show n+1<=0 by omega) (show 0<=rate b l by omega)
  omega
 have P:=zsN h0 rp hn h1 h2
 have gm:=zcP b l t (t+n)
 rw[show t+n-t=n by omega]at gm
 by_cases c:n*rate b l = - gap b l t/\tie b l=true
 ·have z:ahd b l (t+n)=true:=by
   unfold ahd
   rw[if_pos (by omega)]
   exact c.2
  have np:0<n:=by
   refine Int.not_le.mp λle=>?_
   have:n=0:=by omega
   rw[this,pA,h0]at z
   cases z
  rw[if_pos ⟨np,z⟩]at P
  rw[if_pos c]
  exact P
 ·have z:¬(0<n/\ahd b l (t+n)=true):=by
   rintro⟨np,y⟩
   unfold ahd at y
   by_cases e:gap b l (t+n)=0
   ·rw[if_pos e]at y
    exact c ⟨by omega,y⟩
   ·rw[if_neg e]at y
    have:=tP y
    omega
  rw[if_neg z]at P
  rw[if_neg c,<-Int.add_assoc]
  exact P
end L2
namespace L2
open PySem.W PyProof.Rows
structure Tot(n:Nat)(lt:Nat->Nat->Bool):Prop where
 asym:∀i j,i<n->j<n->lt i j=true->lt j i=false
 tot:∀i j,i<n->j<n->i≠j->lt i j=false->lt j i=true
 trans:∀i j k,i<n->j<n->k<n->lt i j=true->lt j k=true->lt i k=true
def Asks{α:Type}(n:Nat)(lt:Nat->Nat->Bool):KasT α->(α->Prop)->Prop
 | .ret a,Q=>Q a
 | .ask i j k,Q=>i<n/\j<n/\i≠j/\Asks n lt (k (lt i j)) Q
theorem Asks.bind{α β:Type}{n:Nat}{lt:Nat->Nat->Bool}{f : α->KasT β}{R : α->Prop}{Q : β->Prop}(hf:∀a,R a->Asks n lt (f a) Q):∀(t:KasT α),Asks n lt t R->Asks n lt (t.bind f) Q
 | .ret a,h=>hf a h
 | .ask i j k,⟨h1,h2,h3,h4⟩=>⟨h1,h2,h3,Asks.bind hf (k (lt i j)) h4⟩
theorem Asks.mono{α:Type}{n:Nat}{lt:Nat->Nat->Bool}{R Q : α->Prop}(hf:∀a,R a->Q a):∀(t:KasT α),Asks n lt t R->Asks n lt t Q
 | .ret a,h=>hf a h
 | .ask i j k,⟨h1,h2,h3,h4⟩=>⟨h1,h2,h3,Asks.mono hf (k (lt i j)) h4⟩
structure Pm(n:Nat)(p:Array Nat):Prop where
 pm:p.toList.Perm (List.range n)
def Pm.sz{n:Nat}{p:Array Nat}(h:Pm n p):p.size=n:=by
 have:=h.pm.length_eq
 simpa using this
def atq(p:Array Nat)(i:Nat):p.getD i 0=(p[i]?).getD 0:=by
 rw[Array.getD_eq_getD_getElem?]
def Pm.lt{n:Nat}{p:Array Nat}(h:Pm n p){i:Nat}(hi:i<n):p.getD i 0<n:=by
 have hs:i<p.size:=by rw[h.sz];exact hi
 have m:p.getD i 0∈p.toList:=by
  rw[atq,qd hs]
  simp
 exact mem_range.mp (h.pm.mem_iff.mp m)
def Pm.inj{n:Nat}{p:Array Nat}(h:Pm n p){i j:Nat}(hi:i<n)(hj:j<n)(e:p.getD i 0=p.getD j 0):i=j:=by
 have hs:i<p.size:=by rw[h.sz];exact hi
 have ht:j<p.size:=by rw[h.sz];exact hj
 have nd:p.toList.Nodup:=h.pm.nodup_iff.mpr List.nodup_range
 rw[atq,atq,qd hs,qd ht]at e
 have e':p.toList[i]'(by simpa using hs)=p.toList[j]'(by simpa using ht):=by simpa using e
 exact(getElem_inj nd).mp e'
def Sd(lt:Nat->Nat->Bool)(p:Array Nat)(k:Nat):Prop:=∀i j,i<j->j<k->lt (p.getD i 0) (p.getD j 0)=true
def Dd(lt:Nat->Nat->Bool)(p:Array Nat)(k:Nat):Prop:=∀i j,i<j->j<k->lt (p.getD j 0) (p.getD i 0)=true
section
variable{n:Nat}{lt:Nat->Nat->Bool}(T:Tot n lt)
include T
theorem zoJ{p:Array Nat}(P:Pm n p):∀f a,1<=a->a+f<=n->Sd lt p a->Asks n lt (kas_asc p f a) (λm=>a<=m/\m<=a+f/\Sd lt p m/\(m<a+f->lt (p.getD m 0) (p.getD (m-1) 0)=true))
 | 0,a,h1,h2,s=>⟨tF _,tF _,s,λz=>by omega⟩
 | f+1,a,h1,h2,s=>by
   refine⟨P.lt (by omega),P.lt (by omega),λe=>?_,?_⟩
   ·have:=P.inj (by omega) (by omega) e
    omega
   ·cases c:lt (p.getD a 0) (p.getD (a-1) 0) with
    | true=>exact⟨tF _,by omega,s,λ_=>c⟩
    | false=>
      have c':=T.tot _ _ (P.lt (i:=a) (by omega)) (P.lt (i:=a-1) (by omega)) (λe=>by have:=P.inj (by omega) (by omega) e;omega) c
      have s':Sd lt p (a+1):=λi j ij ja=>by
       by_cases z:j<a
       ·exact s i j ij z
       ·have:j=a:=by omega
        subst this
        by_cases y:i=j-1
        ·rw[y];exact c'
        ·exact T.trans _ (p.getD (j-1) 0) _ (P.lt (by omega)) (P.lt (by omega)) (P.lt (by omega)) (s i (j-1) (by omega) (by omega)) c'
      have r:=zoJ P f (a+1) (by omega) (by omega) s'
      refine Asks.mono (λm hm=>?_) _ r
      exact⟨by omega,by omega,hm.2.2.1,λz=>hm.2.2.2 (by omega)⟩
theorem zoK{p:Array Nat}(P:Pm n p):∀f a,1<=a->a+f<=n->Dd lt p a->Asks n lt (kas_desc f p a 0) (λr=>r.1=p/\r.2.2=0/\a<=r.2.1/\r.2.1<=a+f/\Dd lt p r.2.1)
 | 0,a,h1,h2,s=>⟨rfl,rfl,tF _,tF _,s⟩
 | f+1,a,h1,h2,s=>by
   have ne:p.getD a 0≠p.getD (a-1) 0:=λe=>by have:=P.inj (by omega) (by omega) e;omega
   refine⟨P.lt (by omega),P.lt (by omega),ne,?_⟩
   cases c:lt (p.getD a 0) (p.getD (a-1) 0) with
   | true=>
     have s':Dd lt p (a+1):=λi j ij ja=>by
      by_cases z:j<a
      ·exact s i j ij z
      ·have:j=a:=by omega
       subst this
       by_cases y:i=j-1
       ·rw[y];exact c
       ·exact T.trans _ (p.getD (j-1) 0) _ (P.lt (by omega)) (P.lt (by omega)) (P.lt (by omega)) c (s i (j-1) (by omega) (by omega))
     have r:=zoK P f (a+1) (by omega) (by omega) s'
     exact Asks.mono (λm hm=>⟨hm.1,hm.2.1,by omega,by omega,hm.2.2.2.2⟩) _ r
   | false=>
     have c':=T.tot _ _ (P.lt (i:=a) (by omega)) (P.lt (i:=a-1) (by omega)) ne c
     refine⟨P.lt (by omega),P.lt (by omega),λe=>ne e.symm,?_⟩
     rw[c']
     exact⟨rfl,rfl,tF _,show a<=a+(f+1) by omega,s⟩
omit T in
def zrI{p:Array Nat}{k:Nat}(hk:k<=p.size)(i:Nat):(kas_rev p 0 k).getD i 0=if i<k then p.getD (k-1-i) 0 else p.getD i 0:=by
 rw[atq]
 unfold kas_rev
 rw[getElem?_mirror_all hk]
 by_cases z:i<k
 ·rw[if_pos ⟨tV _,z⟩,if_pos z,atq,qK]
 ·rw[if_neg (λy=>z y.2),if_neg z,atq]
omit T in
def Pm.rev{p:Array Nat}(P:Pm n p)(i k:Nat):Pm n (kas_rev p i k):=⟨(Array.perm_iff_toList_perm.mp (mirror_perm p i k _)).trans P.pm⟩
omit T in
def Pm.bub{p:Array Nat}(P:Pm n p)(i k:Nat):Pm n (bubble p i k):=⟨(Array.perm_iff_toList_perm.mp (bubble_perm p i k)).trans P.pm⟩
def zqN{p:Array Nat}(P:Pm n p){k:Nat}(k1:1<=k)(kn:k<=n)(d:Dd lt p k):Asks n lt (kas_tail3 k n p) (λr=>1<=r.1/\r.1<=n/\Pm n r.2/\Sd lt r.2 r.1):=by
 have P':=P.rev 0 k
 have s:Sd lt (kas_rev p 0 k) k:=λi j ij jk=>by
  rw[zrI (by rw[P.sz];exact kn),zrI (by rw[P.sz];exact kn),if_pos (by omega),if_pos jk]
  exact d _ _ (by omega) (by omega)
 unfold kas_tail3
 refine Asks.bind (λm hm=>?_) _ (zoJ T P' (n-k) k k1 (by omega) s)
 exact(show 1<=m/\m<=n/\Pm n (kas_rev p 0 k)/\Sd lt (kas_rev p 0 k) m from⟨by omega,by omega,P',hm.2.2.1⟩)
def zlc{p:Array Nat}(P:Pm n p)(n2:2<=n)(c:lt (p.getD 1 0) (p.getD 0 0)=true):Asks n lt (kas_descPart 1 n p) (λr=>1<=r.1/\r.1<=n/\Pm n r.2/\Sd lt r.2 r.1):=by
 refine Asks.bind (λr hr=>?_) _ (zoK T P (n-2) 2 (by omega) (by omega) (λi j ij j2=>?_))
 ·obtain⟨e1,e2,h1,h2,d⟩:=hr
  rw[if_neg (by omega),e1]
  exact zqN T P (by omega) (by omega) d
 ·have:i=0:=by omega
  have:j=1:=by omega
  subst i j
  exact c
def zqO{p:Array Nat}(P:Pm n p)(n2:2<=n):Asks n lt (kas_count n p) (λr=>1<=r.1/\r.1<=n/\Pm n r.2/\Sd lt r.2 r.1):=by
 refine Asks.bind (λm hm=>?_) _ (zoJ T P (n-1) 1 (tF _) (by omega) (λi j ij j1=>by omega))
 obtain⟨h1,h2,s,c⟩:=hm
 by_cases z:m=n
 ·rw[if_pos (by simp[z])]
  exact⟨h1,by omega,P,s⟩
 ·rw[if_neg (by simp[z])]
  have c:=c (by omega)
  by_cases y:m > 1
  ·rw[if_pos y]
   refine⟨P.lt (by omega),P.lt (by omega),λe=>?_,?_⟩
   ·have:=P.inj (by omega) (by omega) e
    omega
   ·rw[s 0 (m-1) (by omega) (by omega)]
    exact⟨h1,by omega,P,s⟩
  ·rw[if_neg y]
   have:m=1:=by omega
   subst this
   exact zlc T P n2 c
theorem bM{p:Array Nat}(P:Pm n p){k:Nat}(kn:k<n)(s:Sd lt p k):∀f l r,l<=r->r<=k->r-l<=f->(∀i,i<l->lt (p.getD i 0) (p.getD k 0)=true)->(∀i,r<=i->i<k->lt (p.getD k 0) (p.getD i 0)=true)->
  Asks n lt (kas_place p k f l r) (λm=>m<=k/\(∀i,i<m->lt (p.getD i 0) (p.getD k 0)=true)/\(∀i,m<=i->i<k->lt (p.getD k 0) (p.getD i 0)=true))
 | 0,l,r,lr,rk,f0,a,b=>by
   have:l=r:=by omega
   subst this
   exact⟨rk,a,b⟩
 | f+1,l,r,lr,rk,f0,a,b=>by
   unfold kas_place
   by_cases z:l ≥ r
   ·rw[if_pos z]
    have:l=r:=by omega
    subst this
    exact⟨rk,a,b⟩
   ·rw[if_neg z]
    have m1:(l+r) / 2<r:=by omega
    have m2:l<=(l+r) / 2:=by omega
    generalize (l+r) / 2=m at m1 m2
    have ne:p.getD k 0≠p.getD m 0:=λe=>by have:=P.inj kn (by omega) e;omega
    refine⟨P.lt kn,P.lt (by omega),ne,?_⟩
    cases c:lt (p.getD k 0) (p.getD m 0) with
    | true=>
      refine bM P kn s f l m m2 (by omega) (by omega) a λi mi ik=>?_
      by_cases y:i=m
      ·rw[y];exact c
      ·exact T.trans _ (p.getD m 0) _ (P.lt kn) (P.lt (by omega)) (P.lt (by omega)) c (s m i (by omega) ik)
    | false=>
      have c':=T.tot _ _ (P.lt kn) (P.lt (i:=m) (by omega)) ne c
      refine bM P kn s f (m+1) r (by omega) rk (by omega) (λi im=>?_) b
      by_cases y:i=m
      ·rw[y];exact c'
      ·exact T.trans _ (p.getD m 0) _ (P.lt (by omega)) (P.lt (by omega)) (P.lt kn) (s i m (by omega) (by omega)) c'
theorem zrJ:∀f (p:Array Nat) (k:Nat),Pm n p->k+f=n->Sd lt p k->Asks n lt (kas_bin f p k) (λp'=>Pm n p'/\Sd lt p' n)
 | 0,p,k,P,e,s=>⟨P,by rw[<-e];exact s⟩
 | f+1,p,k,P,e,s=>by
   refine Asks.bind (λl hl=>?_) _ (bM T P (by omega) s k 0 k (by omega) (tF _) (by omega) (λi z=>by omega) (λi z y=>by omega))
   obtain⟨lk,h1,h2⟩:=hl
   refine zrJ f _ (k+1) (P.bub k (k-l)) (by omega) ?_
   have b:∀i,(bubble p k (k-l)).getD i 0=if i=l then p.getD k 0 else if l<i/\i<=k then p.getD (i-1) 0 else p.getD i 0:=λi=>by
    rw[atq,getElem?_bubble (by rw[P.sz];omega) _ (by omega),show k-(k-l)=l by omega]
    by_cases z:i=l
    ·rw[if_pos z,if_pos z,atq]
    ·rw[if_neg z,if_neg z]
     by_cases y:l<i/\i<=k
     ·rw[if_pos y,if_pos y,atq]
     ·rw[if_neg y,if_neg y,atq]
   intro i j ij jk
   rw[b i,b j]
   by_cases z:i=l
   ·rw[if_pos z,if_neg (by omega),if_pos ⟨by omega,by omega⟩]
    exact h2 _ (by omega) (by omega)
   ·rw[if_neg z]
    by_cases y:j=l
    ·rw[if_pos y,if_neg (by omega)]
     exact h1 _ (by omega)
    ·rw[if_neg y]
     by_cases x:l<i/\i<=k
     ·rw[if_pos x,if_pos ⟨by omega,by omega⟩]
      exact s _ _ (by omega) (by omega)
     ·rw[if_neg x]
      by_cases v:l<j/\j<=k
      ·rw[if_pos v]
       exact s _ _ (by omega) (by omega)
      ·rw[if_neg v]
       exact s _ _ ij (by omega)
def zoL(n2:2<=n):Asks n lt (kas_sort n) (λp=>Pm n p/\Sd lt p n):=by
 refine Asks.bind (λr hr=>?_) _ (zqO T ⟨by simp⟩ n2)
 obtain⟨h1,h2,P,s⟩:=hr
 by_cases z:r.1<n
 ·rw[if_pos z,Nat.max_eq_left h1]
  exact zrJ T _ _ _ P (by omega) s
 ·rw[if_neg z]
  have:r.1=n:=by omega
  rw[this]at s
  exact⟨P,s⟩
end
end L2
namespace L2
open PySem PySem.Spec PyProof.Rows
structure Site(K:am)(mg:af)(bj:Heap)(cv:Value)(T:Addr):Prop where
 ex:∃c,cv=.ref c/\W.CodeHd bj c T
 bm:bj.BuiltinsAt mg T
structure Lam(X:Cx)(H:Hp)(q:Str)(ar:Arguments)(body:Expr)(scope:Scope)(f:Addr)(cl:List (Str × Addr)):Prop where
 ex:∃pm c ct oc us t o,H f=some (.frz o (.own f))/\o.data=.func (W.kla_fn "<lambda>" q ar body scope cl pm (.ref c) ct)/\H c=some (.frz oc (.own c))/\oc.data=.fields us/\us[1]?=some (.str q t)
 c1:∀x c,cl.lookup x=some c->X.env.cells.lookup x=some c
 c2:∀x,(x,NameKind.free)∈scope.names->∃c,cl.lookup x=some c
 c3:∀x c,cl.lookup x=some c->(x,NameKind.free)∈scope.names
def Lam.same{X:Cx}{H H':Hp}{q:Str}{ar:Arguments}{body:Expr}{scope:Scope}{f:Addr}{cl:List (Str × Addr)}(s:Same H H')(h:Lam X H q ar body scope f cl):Lam X H' q ar body scope f cl:=by
 obtain⟨pm,c,ct,oc,us,t,o,e1,e2,e3,e4⟩:=h.ex
 exact⟨⟨pm,c,ct,oc,us,t,o,s _ _ e1,e2,s _ _ e3,e4⟩,h.c1,h.c2,h.c3⟩
section
variable{X:Cx}{ai:ae}{σ:St}{H:Hp}{s:Shared}
def zqP{ar:Arguments}{body:Expr}{scope:Scope}{lp:Pos}{q:Str}{x:Str}{N:List Str}{js:List Nat}{T:Addr}{Q:ac}
    (I:Inv X ai σ H s) (S:CompScope X scope x N js) (D:Site X.K X.mg X.bj X.env.code T) (hT:H T=some (.tbl lp q)) (hq:X.env.qual ++ "<lambda>" = q) (hd:defaultsOf ar X.env=([],[]))
    (h:∀f cl s' H',Inv X ai σ H' s'->Same H H'->Lam X H' q ar body scope f cl->Q (.ref f) s'):wpAny (model X.prog X.w) X.A (eval (.Lambda ar body scope lp) X.env) Q X.xe s:=by
 have hcells:∀y∈scope.names,y.2=.free->∃c,X.env.cells.lookup y.1=some c:=λy hy hf=>I.ok.has y.1 (.inl (S.free y hy hf))
 obtain⟨cl,ecl,cl1,cl2,cl3⟩:=fe hcells
 obtain⟨c,hc,C⟩:=D.ex
 have B:=D.bm.keeps I.bk
 have C':=C.keeps I.bk
 obtain⟨vs,eT,tr,alt⟩:=I.hok T _ hT
 have hg:s.heap.Ns mainGlobals X.mg:=I.mod.glob.keeps I.bk
 refine W.kla_eval hd ?_
 rw[hq]
 have old:∀b o,s.heap.get? b=some o->b<s.heap.objs.size:=λb o e=>tI e
 have trk:∀b u,H b=some u->b<s.heap.objs.size:=λb u e=>I.hok.lt e
 rcases alt with alt | ⟨c',oc,us,t,e1,e2,e3,e4⟩
 ·have hgT:mainGlobals≠T:=λz=>by
   obtain⟨o,es,ep,e,d,_⟩:=id hg
   rw[z,eT]at e
   cases e
   cases d
  refine W.kla_makeFunction (mg:=X.mg) ecl I.ok.glob hg hc C' eT tr alt hgT B λc' ctv h' tk hx hge hlt hrec htb=>?_
  obtain⟨c2,oc,us,t,ec,hoc,hd1,hd2⟩:=hrec
  cases ec
  generalize hfo:W.kla_obj "<lambda>" q ar body scope cl ((X.mg "__name__").getD .none) c' ctv=fo
  have fd:fo.data=.func (W.kla_fn "<lambda>" q ar body scope cl ((X.mg "__name__").getD .none) (.ref c') ctv):=by rw[<-hfo]
  have ff:fo.isFreed=false:=by rw[<-hfo];rfl
  have nT:∀b,H b=none->b≠T:=λb n z=>by rw[z,hT]at n;cases n
  have hf:h'.objs.size≠c':=qG hlt
  have nf:∀b,b<s.heap.objs.size->b≠h'.objs.size:=λb hb=>tM (pj (tQ hb hge) hlt)
  have nc:∀b,b<s.heap.objs.size->b≠c':=λb hb=>tM (tQ hb hge)
  have kp:∀b o,b≠T->s.heap.get? b=some o->(h'.push fo).get? b=some o:=λb o n e=>tz _ (hx b o n e)
  have sm:Same H (upd (upd H c' (.frz oc (.own c'))) h'.objs.size (.frz fo (.own h'.objs.size))):=λb u e=>by
   rw[zaw (nf b (trk b u e)),zaw (nc b (trk b u e))]
   exact e
  have hcF:(upd (upd H c' (.frz oc (.own c'))) h'.objs.size (.frz fo (.own h'.objs.size))) c'=some (.frz oc (.own c')):=by
   rw[zaw (Ne.symm hf),zar]
  refine h h'.objs.size cl _ _ (I.step (g':=s.gens) (d':=s.drawn) (ch:=[]) (h':=h'.push fo) (t':=tk) (H':=upd (upd H c' (.frz oc (.own c'))) h'.objs.size (.frz fo (.own h'.objs.size))) (λ_ z=>nomatch z) (λb o _ _ _ e n=>kp b o (nT b n) e) (λb o _ _ _ e n=>⟨o.slots,kp b o (nT b n) e⟩)
   (λb o _ e n=>?_) (λb o _ e=>?_) (λb xs e=>sm b _ e) (λb o u e=>sm b _ e) (λb p r e=>sm b _ e) (λm hm=>?_) (λb u e=>?_) I.bare) sm ⟨⟨_,c',ctv,oc,us,t,fo,zar,fd,hcF,hd1,hd2⟩,cl1,cl2,cl3⟩
  ·rw[zaw (nf b (old b o e)),zaw (nc b (old b o e))]
   exact n
  ·by_cases z:b=T
   ·exact⟨_,by rw[z];exact tz _ htb⟩
   ·exact⟨o,kp b o z e⟩
  ·exact(hm.extBut hx (nT _ I.free)).push _
  ·by_cases z:b=h'.objs.size
   ·subst z
    rw[zar]at e
    cases e
    exact⟨tJ _ ff,_,tJ _ ff⟩
   ·rw[zaw z]at e
    by_cases y:b=c'
    ·subst y
     rw[zar]at e
     cases e
     exact⟨tz _ hoc,_,tz _ hoc⟩
    ·rw[zaw y]at e
     by_cases w:b=T
     ·subst w
      rw[hT]at e
      cases e
      refine⟨_,tz _ htb,?_,.inr ⟨c',oc,us,t,?_,hcF,hd1,hd2⟩⟩
      ·rw[Array.toList_append]
       exact TriplesOk_snoc _ _ _ _ tr
      ·rw[Array.toList_append]
       exact codeAmong_snoc _ tr alt
     ·refine(I.hok b u e).stay (λd v hd q=>kp d v ?_ q) (λd q=>sm d _ q) (λd xs q=>sm d _ q) λd ob xs q=>sm d _ q
      rintro rfl
      rcases hd with z | z
      ·exact w z.symm
      ·rw[hT]at z;cases z
 ·refine W.kla_makeFunctionHit (mg:=X.mg) ecl I.ok.glob hg hc C' eT tr e1 B λctv h' tk hk hsz=>?_
  generalize hfo:({ cls:=.type "function",data:=.func (W.kla_fn "<lambda>" q ar body scope cl ((X.mg "__name__").getD .none) (.ref c') ctv) }:Obj)=fo
  have fd:fo.data=.func (W.kla_fn "<lambda>" q ar body scope cl ((X.mg "__name__").getD .none) (.ref c') ctv):=by rw[<-hfo]
  have hn:H h'.objs.size=none:=I.hok.fresh hsz
  have ff:fo.isFreed=false:=by rw[<-hfo];rfl
  refine h h'.objs.size cl _ _ (I.laid (a:=h'.objs.size) (o:=.frz fo (.own h'.objs.size)) (h':=h'.push fo) (t':=tk) (λb u e=>tz _ (hk b u e)) hsz ⟨tJ _ ff,_,tJ _ ff⟩) (zbs hn _) ⟨⟨_,c',ctv,oc,us,t,fo,zar,fd,?_,e3,e4⟩,cl1,cl2,cl3⟩
  rw[zaw (zaA e2 hn)]
  exact e2
abbrev zqQ(X:Cx)(N:List Str)(scope:Scope)(cl:List (Str × Addr))(q:Str)(f:Addr)(cd:Value)(A:Around)(s₀:Shared)(H₀:Hp):Cx where
 prog:=X.prog
 w:=X.w
 K:=X.K
 mg:=X.mg
 bj:=X.bj
 A:=A.deeper (newEnv scope s₀.heap.objs.size mainGlobals cl (q ++ ".<locals>.") (some f) cd none builtinsNs)
 N:=N
 s₀:=s₀
 H₀:=H₀
 env:=newEnv scope s₀.heap.objs.size mainGlobals cl (q ++ ".<locals>.") (some f) cd none builtinsNs
 outer:=X.stack
 stack:=newEnv scope s₀.heap.objs.size mainGlobals cl (q ++ ".<locals>.") (some f) cd none builtinsNs::X.stack
 ex:=[]
 fn:=λ_=>false
 calm:=true
 pn:=[]
 xe:=λ_ _=>False
def zsS{ar:Arguments}{body:Expr}{scope:Scope}{q:Str}{x:Str}{N:List Str}{js:List Nat}{f:Addr}{cl:List (Str × Addr)}{te:TE}{A:Around}{v:V}{u:Value}{Q:VK}
    (I:Inv X ai σ H s) (S:CompScope X scope x N js) (L:Lam X H q ar body scope f cl) (hA:A.frames=some X.stack) (hh:A.handled=none) (hdp:A.depth<recursionLimit) (co:scope.isCoroutine=false) (ge:scope.isGenerator=false)
    (hb:∀pm c ct u,bindArgs (W.kla_fn "<lambda>" q ar body scope cl pm c ct) ⟨[u],[]⟩=pure [(x,u)])
    (he:∀cd,PE (zqQ X N scope cl q f cd A s H) body te) (rv:RelV v u) (hq:te (some v::caps σ js) H Q):wpAny (model X.prog X.w) A (call (.ref f) [u]) (EP X ai σ Q) (λ_ _=>False) s:=by
 with_unfolding_all
  obtain⟨pm,c,ct,oc,us,t,o,e1,e2,e3,e4,e5⟩:=L.ex
  obtain⟨g1,_⟩:=I.hok f _ e1
  obtain⟨g2,_⟩:=I.hok c _ e3
  have lim:s.heap.NoLimit:=I.nolimit
  refine qU (rG (R:=λr s'=>∃k,r=.ok (.ret k)/\CE X.stack X.prog X.w H s Q k s') ?_ λr s' hr=>?_)
  ·refine W.kla_callFunE hdp g1 e2 co ge rfl ⟨c,oc,us,t,rfl,g2,e4,e5⟩ ?_
   rw[hb]
   refine tH (wpAny_newFunctionEnv S.nocell (λy hy=>?_) (λh₁ hns hsb=>?_) S.kind)
   ·have hy':y=(x,u):=by simpa using hy
    subst hy'
    exact S.own
   have old:∀b o,s.heap.get? b=some o->h₁.get? b=some o:=λb o e=>hsb.extBut b o (tM (tI e)) (tz _ e)
   refine⟨lim.keeps old,?_⟩
   have yok:(zqQ X N scope cl q f (.ref c) A s H).Ok:=
    { mod:=I.ok.mod
      kind:=S.kind
      glob:=rfl
      blt:=rfl
      above:=tF _
      inj:=λy z c h1 h2=>I.ok.inj y z c (L.c1 y c h1) (L.c1 z c h2)
      has:=λy hy=>by
       rcases hy with hy | hy
       ·exact absurd rfl (S.nocell _ (sk hy))
       ·exact L.c2 y (sk hy)
      cab:=λy c hf _=>by cases hf
      hd:=λ_=>hh
      frames:=Around.frames_deeper hA
      stk:=.inr ⟨rfl,rfl⟩
      exf:=λb hb=>by simp at hb
      bs:=I.bs
      bsz:=tU I.ok.bsz I.sz
      noex:=λb o e hb=>by simp at hb
      exfs:=λb hb=>by simp at hb
      funs:=I.stack
      frf:=I.stkFree }
   have I1:Inv (zqQ X N scope cl q f (.ref c) A s H) [] (some v::caps σ js) H { s with heap:=h₁,toks:=s.toks+[(x,u)].length }:=
    { ok:=yok
      os:=rfl
      bare:=I.bare
      bj:=Un.kept old
      loc:=by
       refine⟨_,hns,λi y v' h1 h2 h3=>?_⟩
       cases i with
       | zero=>
         have ey:y=x:=tL (h1.symm.trans S.head)
         subst ey
         have ev:v'=v:=by simpa using h2.symm
         subst ev
         exact⟨u,rv,.inl ⟨S.own,by simp⟩⟩
       | succ k=>
         have h2':(caps σ js)[k]?=some (some v'):=by simpa using h2
         unfold caps at h2'
         rw[getElem?_map]at h2'
         cases ej:js[k]? with
         | none=>rw[ej]at h2';cases h2'
         | some j=>
           rw[ej]at h2'
           have e6:(σ[j]?).join=some v':=tL h2'
           have e7 : σ[j]?=some (some v'):=by
            cases eσ : σ[j]? with
            | none=>rw[eσ]at e6;cases e6
            | some o=>rw[eσ]at e6;exact tW some e6
           obtain⟨n1,n2,n3,n4⟩:=S.cap k j y h1 ej
           obtain⟨mX,_,lX⟩:=I.loc
           obtain⟨u',ru,lk⟩:=lX j y v' n1 e7 n2
           refine⟨u',ru,?_⟩
           rcases lk with⟨lk,_⟩ | ⟨_,d,ed,cell⟩
           ·rw[n3]at lk;cases lk
           ·obtain⟨d',ed'⟩:=L.c2 y n4
            have:d'=d:=tL ((L.c1 y d' ed').symm.trans ed)
            subst this
            obtain⟨ob,ho,hd⟩:=cell
            refine .inr ⟨?_,d',ed',⟨ob,old _ _ ho,hd⟩⟩
            have h3':scope.names.lookup y=some .local\/scope.names.lookup y=some .cell\/scope.names.lookup y=some .free:=h3
            rcases h3' with z | z | z
            ·exact absurd n4 (S.apart y z)
            ·exact .inl z
            ·exact .inr z
      cell:=λy d e=>by
       obtain⟨v',ob,ho,hd⟩:=I.cell y d (L.c1 y d e)
       exact⟨v',ob,old _ _ ho,hd⟩
      free:=I.hok.fresh (tF _)
      freeC:=λy d e=>I.freeC y d (L.c1 y d e)
      pin:=λp hp=>by simp at hp
      hok:=I.hok.kept old
      len:=by show(some v::caps σ js).length=N.length;rw[S.len];simp[caps] }
   refine W.kla_codeExpr (sP (he (.ref c) [] _ _ H Q I1 hq) (λk s' hk=>?_) λ_ _ z=>z.elim)
   obtain⟨w,H',J,rk,qk⟩:=hk
   exact⟨k,rfl,w,H',J.os,J.bare,J.bj,J.hok,rk,qk⟩
  ·obtain⟨k,rfl,ce⟩:=hr
   exact I.after ce
end
end L2
namespace L2
open PySem PySem.Spec PyProof.Rows PySem.W
def dX:bootBuiltins "sorted" = some (.builtin "sorted"):=by decide +kernel
theorem Asks.wp{α:Type}{n:Nat}{lt:Nat->Nat->Bool}{cmp:Nat->Nat->(Bool->Shared->Prop)->Shared->Prop}{R : α->Prop}{Q : α->Shared->Prop}{s:Shared}
  (hc:∀i j C,i<n->j<n->C (lt i j) s->cmp i j C s) (hq:∀a,R a->Q a s):∀(t:KasT α),Asks n lt t R->t.kasWp cmp Q s
 | .ret a,h=>hq a h
 | .ask i j k,⟨h1,h2,_,h4⟩=>hc i j _ h1 h2 (Asks.wp hc hq (k (lt i j)) h4)
section
variable{prog:Program}{w:World}{A:Around}{E:ac}{s:Shared}{Q:Bool->Shared->Prop}
theorem zmm:∀(ns ms:List Int)(xs ys:aj)(i:Nat),ns.length=ms.length->Vals (ns.map V.int) xs->Vals (ms.map V.int) ys->Q (HT.lexLt ns ms) s->KatLex prog w A true false Q (xs.zip ys) i s
 | [],[],xs,ys,i,_,rx,ry,h=>by
   cases rx
   cases ry
   exact kat_nil h
 | [],_::_,_,_,_,hl,_,_,_=>by simp at hl
 | _::_,[],_,_,_,hl,_,_,_=>by simp at hl
 | a::ns,b::ms,xs,ys,i,hl,rx,ry,h=>by
   cases rx with
   | cons ra rx=>
     cases ry with
     | cons rb ry=>
       obtain⟨t,rfl⟩:=ra
       obtain⟨t',rfl⟩:=rb
       rw[HT.lexLt_cons]at h
       refine kat_cons (wpAny_eqBool_int (kat_go (λe=>?_) λe=>?_))
       ·have ab:a=b:=by simpa using e
        rw[if_pos ab]at h
        exact kat_yes (zmm ns ms _ _ (i+1) (by simpa using hl) rx ry h)
       ·have ab:a≠b:=by simpa using e
        rw[if_neg ab]at h
        refine kat_no ?_
        cases i with
        | zero=>exact oneLt_int h
        | succ i=>
          have e0:(true&&(i+1)==0)=false:=by simp
          rw[e0]
          exact kat_one _ _ (lt_int h)
end
def zmn(H:Hp)(kf:Nat->List Int)(ks:aj):Prop:=∀j,j<ks.length->∃p,ks[j]?=some (.ref p)/\H p=some (.tup ((kf j).map V.int))
section
variable{X:Cx}{ai:ae}{σ:St}{H:Hp}{s:Shared}
theorem ziL(I:Inv X ai σ H s){kf:Nat->List Int}(k1:∀i,0<(kf i).length):∀{ks:aj}{m:Nat},(∀j,j<ks.length->∃p,ks[j]?=some (.ref p)/\H p=some (.tup ((kf (m+j)).map V.int)))->
  ∃fs:List Value,fs.length=ks.length/\KatTups s.heap ks fs/\∀v∈fs,∃i t,v=.int i t
 | [],m,_=>⟨[],rfl,KatTups.nil,λv hv=>by simp at hv⟩
 | v::ks,m,h=>by
   obtain⟨p,h1,h2⟩:=h 0 (by simp)
   have ev:v=.ref p:=by simpa using h1
   subst ev
   obtain⟨fs,l1,l2,l3⟩:=ziL I k1 (ks:=ks) (m:=m+1) λj hj=>by
    obtain⟨p,h1,h2⟩:=h (j+1) (by simpa using hj)
    refine⟨p,by simpa using h1,?_⟩
    rw[Nat.add_assoc,Nat.add_comm 1 j]
    exact h2
   obtain⟨_,its,r,o,e,c1,c2⟩:=I.hok p _ h2
   rw[Nat.add_zero]at r
   cases ek:kf m with
   | nil=>
     have:=k1 m
     rw[ek]at this
     simp at this
   | cons a as=>
     rw[ek]at r
     cases r with
     | cons ra rest=>
       obtain⟨t,rfl⟩:=ra
       obtain⟨n,c2⟩:=c2
       refine⟨.int a t::fs,by simp[l1],KatTups.cons e c1 c2 (by simp) l2,λv hv=>?_⟩
       rcases mem_cons.mp hv with z | z
       ·exact⟨a,t,z⟩
       ·exact l3 v z
def dY(I:Inv X ai σ H s){A:Around}{E:ac}{kf:Nat->List Int}(k1:∀i,0<(kf i).length){ks:aj}(h:zmn H kf ks)(h2:2<=ks.length){Q:SortKind->Shared->Prop}(q:Q (tuples' true) s):
    wpAny (model X.prog X.w) A (keyKind' ks.toArray) Q E s:=by
 obtain⟨fs,l1,l2,l3⟩:=ziL I k1 (ks:=ks) (m:=0) (λj hj=>by rw[qK];exact h j hj)
 refine kat_kind (T:=.type "int") l2 (by omega) (λv hv=>?_) (by decide) q
 obtain⟨i,t,rfl⟩:=l3 v hv
 exact Looks.of_pure rfl
def zmo(I:Inv X ai σ H s){A:Around}{kf:Nat->List Int}{m:Nat}(k1:∀i,(kf i).length=m){ks:aj}(h:zmn H kf ks){i j:Nat}(hi:i<ks.length)(hj:j<ks.length){C:Bool->Shared->Prop}(q:C (HT.lexLt (kf i) (kf j)) s):
    kas_ask X.prog X.w A (tuples' true) ks i j C s:=by
 obtain⟨p,e1,e2⟩:=h i hi
 obtain⟨p',e1',e2'⟩:=h j hj
 obtain⟨_,its,r,o,g,c1,n,c2⟩:=I.hok p _ e2
 obtain⟨_,its',r',o',g',c1',n',c2'⟩:=I.hok p' _ e2'
 unfold kas_ask
 rw[tK,tK,e1,e1']
 have l1:=r.length
 have l2:=r'.length
 rw[tm,k1]at l1 l2
 refine kat_lt g c2 g' c2' ?_
 have z:decide (its.toArray.size<its'.toArray.size)=false:=by
  rw[sS,size_toArray,size_toArray]
  omega
 rw[z]
 exact zmm _ _ _ _ 0 (by rw[k1,k1]) r r' q
theorem zhC{xs:List V}{us:aj}(r:Vals xs us):∀(p:List Nat),(∀i∈p,i<xs.length)->Vals (p.map λi=>xs.getD i .non) (p.map λi=>us.getD i Value.none)
 | [],_=>.nil
 | i::p,h=>by
   have hi:=h i tN
   have e:xs[i]?=some (xs.getD i .non):=by rw[tK,tj hi];rfl
   obtain⟨u,hu,ru⟩:=r.get e
   refine .cons ?_ (zhC r p λj hj=>h j (tO _ hj))
   show RelV (xs.getD i .non) (us.getD i Value.none)
   rw[tK (l:=us),hu]
   exact ru
def zrK(us:aj):(List.range us.length).map (λi=>us.getD i Value.none)=us:=by
 apply rM
 ·simp
 ·intro i h1 h2
  simp[h2]
def zna{l f:Addr}{xs:List V}{kf:Nat->List Int}{m:Nat}{Q:VK}(I:Inv X ai σ H s)(hl:SqL X.K H l xs)(hn:xs.length<64)(k1:∀i,(kf i).length=m)(m1:0<m)(T:Tot xs.length (λi j=>HT.lexLt (kf i) (kf j)))
    (turn:∀i v,xs[i]?=some v->∀(pins':ae)(s':Shared)(H':Hp)(u:Value),Inv X pins' σ H' s'->Same H H'->RelV v u->wpAny (model X.prog X.w) X.A.in1.in1 (call (.ref f) [u]) (EP X pins' σ λk H''=>Same H' H''/\∃p,k=.ref p/\H'' p=some (.tup ((kf i).map V.int))) (λ_ _=>False) s')
    (h:∀D H' (p:List Nat),Same H H'->H D=none->H' D=some (.lst (p.map λi=>xs.getD i .non))->p.Perm (List.range xs.length)->(∀i j,i<j->j<p.length->HT.lexLt (kf (p.getD i 0)) (kf (p.getD j 0))=true)->Q (.ref D) H'):
    wpAny (model X.prog X.w) X.A (call (.builtin "sorted") [.ref l] [(Str.ofString "key",.ref f)]) (EP X ai σ Q) X.xe s:=by
 obtain⟨its,rv,pl,hz⟩:=I.list hl
 have il:its.length=xs.length:=rv.length.symm
 have sl:(100:Nat)<=sizeLine:=by decide
 refine call_function_entry_kw kind_sorted plain_sorted entry_sorted (ksk_s1 _ _) ?_
 unfold Builtin.«sorted»
 refine tD (m:=checkCount "sorted" 1 1 _) (tH ?_)
 refine tD (collect_list pl.isList ?_ (by omega))
 refine tD (pJ ?_ (by omega))
 have kA:∀b o,s.heap.get? b=some o->((s.heap.push (seqObj "list" #[] 0)).update s.heap.objs.size (Obj.mapSeq (· ++ its.toArray))).get? b=some o:=λb o e=>by
  rw[qh _ _ _ _ (tM (tI e))]
  exact tz _ e
 have sA:s.heap.objs.size<=((s.heap.push (seqObj "list" #[] 0)).update s.heap.objs.size (Obj.mapSeq (· ++ its.toArray))).objs.size:=by
  rw[Heap.size_update,size_push']
  exact rn _
 dsimp only
 generalize ((s.heap.push (seqObj "list" #[] 0)).update s.heap.objs.size (Obj.mapSeq (· ++ its.toArray)))=A1 at kA sA ⊢
 have hD:(A1.push (seqObj "list" its.toArray 0)).get? A1.objs.size=some (seqObj "list" its.toArray 0):=tJ _ rfl
 generalize eD:A1.objs.size=D at hD sA ⊢
 have kB:∀b o,s.heap.get? b=some o->(A1.push (seqObj "list" its.toArray 0)).get? b=some o:=λb o e=>tz _ (kA b o e)
 have dB:D<(A1.push (seqObj "list" its.toArray 0)).objs.size:=tI hD
 generalize A1.push (seqObj "list" its.toArray 0)=A2 at hD kB dB ⊢
 refine tD (t7 (wpAny_call_entry_kw slot_list_sort ⟨_,hD,rfl⟩ entry_list_sort ?body (ksk_l1 _ _)))
 case body=>
  show wpAny _ _ (Builtin.«list.sort» ⟨[.ref D],[(Str.ofString "key",.ref f)]⟩) _ _ _
  rw[ksk_t1]
  unfold ksk_tree
  refine tD (listItems_at hD rfl ?_)
  refine tD (qa hD rfl ?_ (by rw[size_toArray];omega) (tV _))
  obtain⟨e1,hD1⟩:∃e1,(A2.update D (Obj.mapSeq λ_=>(#[]:Array Value))).get? D=some (seqObj "list" #[] e1):=⟨_,qx hD λ_ => #[]⟩
  have kC:∀b o,s.heap.get? b=some o->(A2.update D (Obj.mapSeq λ_=>(#[]:Array Value))).get? b=some o:=λb o e=>by
   rw[qh _ _ _ _ (tM (tQ (tI e) sA))]
   exact kB b o e
  dsimp only
  refine tD (pK hD1 rfl ?_)
  refine tD (wpAny_newTuple ?_ (by show its.length<=sizeLine;omega))
  refine tD (pJ ?_ (tV _))
  refine t7 ?_
  dsimp only
  generalize A2.update D (Obj.mapSeq λ_=>(#[]:Array Value))=A3 at hD1 kC ⊢
  have hD2:=tz (seqObj "tuple" its.toArray 0) hD1
  have kE:∀b o,s.heap.get? b=some o->(A3.push (seqObj "tuple" its.toArray 0)).get? b=some o:=λb o e=>tz _ (kC b o e)
  have sE:D<(A3.push (seqObj "tuple" its.toArray 0)).objs.size:=tI hD2
  show wpAny _ _ (ksk_rest D (.ref f) false its.toArray e1 (.ref (A3.push (seqObj "tuple" its.toArray 0)).objs.size)) _ _ { s with heap:=(A3.push (seqObj "tuple" its.toArray 0)).push (seqObj "list" #[] 0) }
  generalize A3.push (seqObj "tuple" its.toArray 0)=A4 at hD2 kE sE ⊢
  have hk0:(A4.push (seqObj "list" #[] 0)).get? A4.objs.size=some (seqObj "list" #[] 0):=tJ _ rfl
  have hD3:=tz (seqObj "list" #[] 0) hD2
  have kF:∀b o,s.heap.get? b=some o->(A4.push (seqObj "list" #[] 0)).get? b=some o:=λb o e=>tz _ (kE b o e)
  generalize A4.push (seqObj "list" #[] 0)=A5 at hk0 hD3 kF ⊢
  generalize A4.objs.size=kS at hk0 sE ⊢
  have ne:D≠kS:=tM sE
  have sK:s.heap.objs.size<=kS:=tU sA (pi sE)
  have nK:H kS=none:=I.hok.fresh sK
  have nD:H D=none:=I.hok.fresh sA
  have fK:=I.fpOk (H':=H) sK nK
  have fD:=I.fpOk (H':=H) sA nD
  have I0:Inv X ((kS,seqObj "list" (List.toArray []) 0)::(D,seqObj "list" #[] e1)::ai) σ H { s with heap:=A5 }:=(I.kept (t':=s.toks) (h':=A5) kF).pins_of λp hp=>by
   rcases mem_cons.mp hp with rfl | hp
   ·exact⟨hk0,nK,fK.2.1,fK.2.2.1,λv z=>by cases z⟩
   ·rcases mem_cons.mp hp with rfl | hp
    ·exact⟨hD3,nD,fD.2.1,fD.2.2.1,λv z=>by cases z⟩
    ·obtain⟨g1,g2⟩:=I.pin p (tX _ hp)
     exact⟨kF _ _ g1,g2⟩
  unfold ksk_rest
  refine tD (wpAny_rule ?_)
  rw[<-Array.forIn_toList]
  refine tD (ksk_fold (λi s'=>∃e ks H',ks.length=i/\Inv X ((kS,seqObj "list" (List.toArray ks) e)::(D,seqObj "list" #[] e1)::ai) σ H' s'/\Same H H'/\zmn H' kf ks) its 0 _ ⟨0,[],H,rfl,I0,Same.refl _,λj hj=>by simp at hj⟩ (λj x s' hx hI=>?step) λs' hI=>?done)
  case step=>
   obtain⟨e,ks,H',lk,I',sm,kin⟩:=hI
   have hjx:j<xs.length:=by
    have:=(List.getElem?_eq_some_iff.mp hx).1
    omega
   obtain⟨v,hv,rvx⟩:∃v,xs[j]?=some v/\RelV v x:=by
    obtain⟨u,hu,ru⟩:=rv.get (tj hjx)
    rw[hx]at hu
    cases hu
    exact⟨_,tj hjx,ru⟩
   refine tD (wpAny_attempt (sP (turn j v hv _ s' H' x I' sm rvx) (λk s'' hk=>?_) λ_ _ z=>z.elim))
   obtain⟨w,H'',I'',rw',sm',p,rfl,hp⟩:=hk
   obtain rfl:k=.ref p:=rw'
   obtain⟨hkS,nkS,_,_,_⟩:=I''.pin (kS,seqObj "list" (List.toArray ks) e) (tX _ tN)
   dsimp only
   refine tD (qa hkS rfl ?_ (by rw[size_toArray];omega) (by rw[Array.size_push,size_toArray];omega))
   obtain⟨c2,hc2⟩:∃c2,(s''.heap.update kS (Obj.mapSeq (·.push (.ref p)))).get? kS=some (seqObj "list" (List.toArray (ks++[.ref p])) c2):=⟨_,by
    have g:=qx hkS (·.push (.ref p))
    rw[show(List.toArray ks).push (.ref p)=List.toArray (ks++[.ref p]) by simp]at g
    exact g⟩
   have sb:=qj s''.heap kS (Obj.mapSeq (·.push (.ref p)))
   have J:Inv X ((D,seqObj "list" #[] e1)::ai) σ H'' { s'' with heap:=s''.heap.update kS (Obj.mapSeq (·.push (.ref p))),toks:=s''.toks }:=
    (I''.pins_of (pins':=(D,seqObj "list" #[] e1)::ai) λq hq=>I''.pin q (tX _ (tO _ hq))).turned (λb o n g=>(sb.2 b n).trans g) nkS fK.2.1 fK.2.2.2.1 fK.2.2.2.2.1 λq hq=>by
      rcases mem_append.mp hq with hq | hq
      ·exact fK.2.2.2.2.2 q (qO _ hq)
      ·rcases mem_cons.mp hq with rfl | hq
       ·exact ne
       ·exact fK.2.2.2.2.2 q (tX _ hq)
   refine tH ⟨rfl,c2,ks++[.ref p],H'',by simp[lk],J.pins_of λq hq=>?_,sm.trans sm',λi hi=>?_⟩
   ·rcases mem_cons.mp hq with rfl | hq
    ·exact⟨hc2,nkS,fK.2.1,fK.2.2.1,λv z=>by cases z⟩
    ·exact J.pin q (tX _ hq)
   ·by_cases z:i<ks.length
    ·obtain⟨p',g1,g2⟩:=kin i z
     exact⟨p',by rw[sR z];exact g1,sm' _ _ g2⟩
    ·have ei:i=ks.length:=by simp at hi;omega
     refine⟨p,by rw[ei];simp,?_⟩
     rw[ei,lk,qK]
     exact hp
  case done=>
   obtain⟨e,ks,H',lk,I',sm,kin⟩:=hI
   rw[qK]at lk
   obtain⟨hkS,nkS,_,_,_⟩:=I'.pin (kS,seqObj "list" (List.toArray ks) e) (tX _ tN)
   obtain⟨hDp,nDp,_,_,_⟩:=I'.pin (D,seqObj "list" #[] e1) (tX _ (tO _ tN))
   refine tD (listItems_at hkS rfl ?_)
   have tail:∀(st:SortSt)(p:List Nat),failedOf st=none->(arrOf st).map (·.2)=List.toArray (p.map λi=>its.getD i Value.none)->p.Perm (List.range xs.length)->(∀i j,i<j->j<p.length->HT.lexLt (kf (p.getD i 0)) (kf (p.getD j 0))=true)->
     wpAny (model X.prog X.w) X.A.in1.in1 (ksk_tail D false e1 (.ref kS) st) (λfin s''=>∃v,fin=.done (.ret v)/\wpAny (model X.prog X.w) X.A.in1 (ret (.ref D)) (λfin s''=>∃v,fin=.done (.ret v)/\EP X ai σ Q v s'') X.xe s'') X.xe s':=by
    intro st p hf hout hp hs
    have pl2:p.length=xs.length:=by simpa using hp.length_eq
    unfold ksk_tail
    dsimp only
    rw[hout]
    refine tD (qa hkS rfl ?_ (by rw[size_toArray];omega) (tV _))
    refine tD (pL ?_)
    have sb:=qj s'.heap kS (Obj.mapSeq λ_=>(#[]:Array Value))
    have hD':=(sb.2 D ne).trans hDp
    refine tD (pK hD' rfl ?_)
    refine tD (qa hD' rfl ?_ (tV _) (by simp;omega))
    rw[hf]
    simp only[bne_self_eq_false,Bool.false_eq_true,if_false]
    obtain⟨c2,hc2⟩:∃c2,((s'.heap.update kS (Obj.mapSeq λ_=>(#[]:Array Value))).update D (Obj.mapSeq λ_=>List.toArray (p.map λi=>its.getD i Value.none))).get? D=some (seqObj "list" (List.toArray (p.map λi=>its.getD i Value.none)) c2):=⟨_,qx hD' λ_=>List.toArray (p.map λi=>its.getD i Value.none)⟩
    have sb2:=qj (s'.heap.update kS (Obj.mapSeq λ_=>(#[]:Array Value))) D (Obj.mapSeq λ_=>List.toArray (p.map λi=>its.getD i Value.none))
    have kp:∀b o,b≠kS->b≠D->s'.heap.get? b=some o->((s'.heap.update kS (Obj.mapSeq λ_=>(#[]:Array Value))).update D (Obj.mapSeq λ_=>List.toArray (p.map λi=>its.getD i Value.none))).get? b=some o:=λb o n1 n2 g=>(sb2.2 b n2).trans ((sb.2 b n1).trans g)
    have trk:∀b u,H' b=some u->b≠kS/\b≠D:=λb u g=>⟨(λz=>by rw[z,nkS]at g;cases g),λz=>by rw[z,nDp]at g;cases g⟩
    refine tH ⟨_,rfl,tH ⟨_,rfl,.ref D,upd H' D (.lst (p.map λi=>xs.getD i .non)),?_,rfl,h D _ p (λb u g=>?_) nD zar hp hs⟩⟩
    ·refine(I'.pins_of (pins':=ai) λq hq=>I'.pin q (tX _ (tO _ (tO _ hq)))).step (g':=s'.gens) (d':=s'.drawn) (t':=s'.toks) (ch:=[kS,D]) (λb hb=>?_) (λb o _ _ hc g _=>kp b o (λz=>hc (by simp[z])) (λz=>hc (by simp[z])) g)
      (λb o _ _ hc g _=>⟨o.slots,kp b o (λz=>hc (by simp[z])) (λz=>hc (by simp[z])) g⟩) (λb o hc _ n=>?_) (λb o hc g=>⟨o,kp b o (λz=>hc (by simp[z])) (λz=>hc (by simp[z])) g⟩) (λb ys g=>?_) (λb o u g=>?_) (λb lp lq g=>?_) (λmm hm=>?_) (λb u g=>?_) I'.bare
     ·rcases mem_cons.mp hb with rfl | hb
      ·exact⟨fK.2.2.2.1,fK.2.1,fK.2.2.2.2.1,fK.2.2.2.2.2⟩
      ·have:b=D:=by simpa using hb
       subst this
       exact⟨fD.2.2.2.1,fD.2.1,fD.2.2.2.2.1,fD.2.2.2.2.2⟩
     ·rw[zaw (λz=>hc (by simp[z]))]
      exact n
     ·rw[zaw (trk b _ g).2]
      exact g
     ·rw[zaw (trk b _ g).2]
      exact g
     ·rw[zaw (trk b _ g).2]
      exact g
     ·obtain⟨o,es,ep,g,r⟩:=hm
      exact⟨o,es,ep,kp _ o (Ne.symm fK.2.1) (Ne.symm fD.2.1) g,r⟩
     ·by_cases z:b=D
      ·subst z
       rw[zar]at g
       cases g
       refine⟨by rw[tm,pl2];omega,_,c2,zhC rv p λi hi=>mem_range.mp (hp.mem_iff.mp hi),hc2⟩
      ·rw[zaw z]at g
       refine(I'.hok b u g).stay (λd v hd q=>kp d v ?_ ?_ q) (λd q=>?_) (λd ys q=>?_) λd ob ys q=>?_
       ·rcases hd with y | y
        ·rw[y];exact(trk b u g).1
        ·exact(trk d _ y).1
       ·rcases hd with y | y
        ·rw[y];exact(trk b u g).2
        ·exact(trk d _ y).2
       ·rw[zaw (trk d _ q).2]
        exact q
       ·rw[zaw (trk d _ q).2]
        exact q
       ·rw[zaw (trk d _ q).2]
        exact q
    ·rw[zaw (trk b _ (sm b u g)).2]
     exact sm b u g
   unfold ksk_end
   dsimp only
   simp only[Bool.false_eq_true,if_false]
   by_cases n2:its.toArray.size<2
   ·rw[if_pos n2,if_pos n2]
    refine tD (tH ?_)
    rw[StateT.run_pure]
    refine tD (tH ?_)
    dsimp only
    refine tail _ (List.range xs.length) rfl ?_ (List.Perm.refl _) λi j ij jl=>?_
    ·show((List.toArray ks).zip its.toArray).map (·.2)=_
     rw[<-il,zrK]
     apply Array.toList_inj.mp
     rw[Array.toList_map,ksk_zip]
     exact pQ (by simp;omega)
    ·rw[size_toArray]at n2
     rw[qm]at jl
     omega
   ·rw[if_neg n2,if_neg n2]
    rw[size_toArray]at n2
    refine tD (dY I' (λi=>by rw[k1];exact m1) kin (by omega) ?_)
    refine tD (sP (kat_run (vs:=its) (Q:=λst' s''=>∃p:Array Nat,arrOf st'=p.map (kas_item ((List.toArray ks).zip its.toArray))/\failedOf st'=none/\s''=s'/\Pm xs.length p/\Sd (λi j=>HT.lexLt (kf i) (kf j)) p xs.length) (G:=λp s''=>s''=s'/\Pm xs.length p/\Sd (λi j=>HT.lexLt (kf i) (kf j)) p xs.length)
     lk (by omega) (by omega) (λp st' s'' _ a2 a3 a4=>⟨p,a2,a3,a4⟩) ?_) ?_ λ_ _ z=>z)
    ·rw[il]
     refine Asks.wp (n:=xs.length) (lt:=λi j=>HT.lexLt (kf i) (kf j)) (R:=λp=>Pm xs.length p/\Sd (λi j=>HT.lexLt (kf i) (kf j)) p xs.length) (λi j C hi hj hC=>?_) (λp hp=>⟨rfl,hp⟩) _ (zoL T (by omega))
     exact zmo I' k1 kin (by omega) (by omega) hC
    ·rintro⟨⟨⟩,st'⟩ s'' ⟨p,har,hf,rfl,P,S⟩
     refine tail st' p.toList hf (kat_snds lk har) P.pm λi j ij jl=>?_
     have e2:∀k,p.toList.getD k 0=p.getD k 0:=λk=>by rw[tK,atq];simp
     rw[e2,e2]
     exact S i j ij (by rw[Array.length_toList,P.sz]at jl;exact jl)
end
end L2
namespace L2
open PySem PySem.Spec PyProof.Rows PySem.W
def zus(K:Frag)(T:Addr)(lp:Pos)(q:Str)(t:TA)(js:List Nat)(te:TE):TE:=λσ H Q=>t σ H λvs H1=>∃(l:Addr)(xs:List V)(kf:Nat->List Int)(m:Nat),vs=[.ref l]/\SqL K H1 l xs/\xs.length<64/\(∀i,(kf i).length=m)/\0<m/\
 Tot xs.length (λi j=>HT.lexLt (kf i) (kf j))/\H1 T=some (.tbl lp q)/\∀H2,Same H1 H2->
  (∀i v,xs[i]?=some v->∀H3,Same H2 H3->te (some v::caps σ js) H3 λk H4=>Same H3 H4/\∃p,k=.ref p/\H4 p=some (.tup ((kf i).map V.int)))/\
  ∀D H' (p:List Nat),Same H2 H'->H2 D=none->H' D=some (.lst (p.map λi=>xs.getD i .non))->p.Perm (List.range xs.length)->(∀i j,i<j->j<p.length->HT.lexLt (kf (p.getD i 0)) (kf (p.getD j 0))=true)->Q (.ref D) H'
def znb{X:Cx}{sp pos kp lp:Pos}{e:Expr}{ar:Arguments}{body:Expr}{scope:Scope}{q x:Str}{N:List Str}{js:List Nat}{T:Addr}{t:TA}{te:TE}
    (S:CompScope X scope x N js) (D:Site X.K X.mg X.bj X.env.code T) (hq:X.env.qual ++ "<lambda>" = q) (hdp:X.A.depth<recursionLimit) (hc:X.calm=true) (hg:Gl X "sorted") (hm:X.mg "sorted" = none) (ha:PA X [e] t)
    (he:∀cl f cd s H,PE (zqQ X N scope cl q f cd X.A.in1.in1 s H) body te)
    (hd:defaultsOf ar X.env=([],[]):=by rfl) (co:scope.isCoroutine=false:=by rfl) (ge:scope.isGenerator=false:=by rfl)
    (hb:∀cl pm c ct u,bindArgs (kla_fn "<lambda>" q ar body scope cl pm c ct) ⟨[u],[]⟩=pure [(x,u)]:=by intro _ _ _ _ _;rfl)
    (hst:backTo pos (starEach [e] X.env)=(false,eval e X.env)::backTo pos (starEach [] X.env):=by rfl):
    PE X (.Call (.Name "sorted" sp) [e] [⟨some "key",.Lambda ar body scope lp,kp⟩] pos) (zus X.K T lp q t js te):=by
 with_unfolding_all
  intro ai s σ H Q I h
  refine sH (zfk I hg hm dX ?_)
  refine callWith_kw (thn (ha pos ai s σ H _ I h) λus s1 ⟨vs,H1,I1,r,q1⟩=>?_) hst (by rw[hst];rfl) rfl rfl
  obtain⟨l,xs,kf,m,rfl,hl,hn,k1,m1,Tt,hT,more⟩:=q1
  obtain⟨u,rfl,ru⟩:=zgU r
  cases ru
  refine kws_cons (zqP I1 S D hT hq hd λf cl s2 H2 I2 sm L=>kws_nil ?_)
  obtain⟨turn,fin⟩:=more H2 sm
  have hl2:SqL X.K H2 l xs:=sm.seq hl
  refine zna (f:=f) I2 hl2 hn k1 m1 Tt (λi v hv pins' s' H' u I' sm' rv=>?_) λD' H' p a1 a2 a3 a4 a5=>fin D' H' p a1 a2 a3 a4 a5
  exact zsS (A:=X.A.in1.in1) I' S (L.same sm') I'.ok.frames (I'.ok.hd hc) hdp co ge (hb cl) (λcd=>he cl f cd s' H') rv (turn i v hv H' sm')
structure FunC(K:Frag)(x qual:Str)(st:Stmt)(f:Addr)(fd:FuncData)(cv:Value):Prop where
 ex:∃(oc:Value)(od:ak)(kV doc pm:Value)(an:ak)(ct:Value)(osl:ap),
  fd=fnOf x qual (zav st) (zap st) (zac st) .none kV doc pm an cv ct/\K.lookup f=some ⟨oc,od,.func fd,osl⟩/\codeIn K cv qual=true
def FunC.ok{P:Program}{w:World}{K:Frag}{mg:af}{bj:Heap}{x qual:Str}{st:Stmt}{f:Addr}{fd:FuncData}{cv:Value}{N ps:List Str}{k:Nat}{sp:Sp}(F:FunC K x qual st f fd cv)(S:FnScope N ps (zac st))(len:∀vs H Q E,sp vs H Q E->vs.length=ps.length)
    (hbody:∀(A:Around)(outer:List Env)(s:Shared)(H:Hp)(vs:List V)(Q:VK)(E:XK),Room k (A.deeper (envOfC qual (zac st) s.heap.objs.size f cv))->sp vs H Q E->
      ∃t,PSs (cxOf CX0 P w K mg bj N qual (zac st) f cv A outer s H E).nox (zap st) t/\t { nx:=λ_ H'=>Q .non H',rt:=Q } (zgV N vs) H):FnOk P w K mg bj CX0 (k+1) f fd ps sp:=by
 obtain⟨oc,od,kV,doc,pm,an,ct,osl,rfl,lk,hcd⟩:=F.ex
 refine bc lk hcd S len λA outer s H vs Q E hr hsp=>?_
 obtain⟨t,h,q⟩:=hbody A outer s H vs Q E hr hsp
 exact⟨t,h.nox,q⟩
def zsT{K:Frag}{x qual:Str}{st:Stmt}{f:Addr}{oc:Value}{od an:ak}{osl:ap}{kV doc pm cdv ct:Value}(l:K.lookup f=some ⟨oc,od,.func (fnOf x qual (zav st) (zap st) (zac st) .none kV doc pm an cdv ct),osl⟩)
    (c:codeIn K cdv qual=true):FunC K x qual st f (fnOf x qual (zav st) (zap st) (zac st) .none kV doc pm an cdv ct) cdv:=⟨⟨oc,od,kV,doc,pm,an,ct,osl,rfl,l,c⟩⟩
structure DfnC(K:Frag)(mg:af)(x:Str)(st:Stmt)(ps:List Str)(f:Addr)(fd:FuncData)(cv:Value):Prop where
 F:FunC K x x st f fd cv
 kp:keepIn K (.ref f)=true
 b:zbq K fd ps []
 m:mg x=some (.ref f)
def DfnC.cal{P:Program}{w:World}{K:Frag}{mg:af}{bj:Heap}{x:Str}{st:Stmt}{ps:List Str}{f:Addr}{fd:FuncData}{cv:Value}{k:Nat}{sp:Sp}
    (D:DfnC K mg x st ps f fd cv) (G:FnOk P w K mg bj CX0 k f fd ps sp):Cal P w K mg bj x k ps sp:=⟨⟨f,fd,G,D.b,D.m,D.kp⟩⟩
def zhD(K:Frag):Bool:=K.all λp=>match p.2.cls,p.2.data with | .none,.fields _=>false | _,_=>true
theorem ziM:∀{K:Frag},zhD K=true->∀{b:Addr}{vs:Array Value},K.lookup b≠some { cls:=.none,data:=.fields vs }
 | [],_,b,vs,e=>by cases e
 | (a,o)::K,h,b,vs,e=>by
   unfold zhD at h
   rw[pY,Bool.and_eq_true]at h
   rw[lookup_cons]at e
   cases z:b==a with
   | true=>
     rw[z]at e
     cases e
     exact absurd h.1 (by simp)
   | false=>
     rw[z]at e
     exact ziM (K:=K) h.2 e
theorem zoM{P:Program}{w:World}{K:Frag}{mg mb:af}{k:Nat}{fa a T:Addr}{fd:FuncData}{x:Str}{lp:Pos}{q:Str}{sp:Sp}{s₁:Shared}{vs:aj}{ns:List Int}{cv:Value}
  (KX:K.In s₁.heap) (kt:zhD K=true) (hns:s₁.heap.Ns mainGlobals mg) (hb:s₁.heap.Ns builtinsNs mb) (hbb:∀x:Str,x ≠ "__name__" -> mb x=bootBuiltins x) (hlim:s₁.heap.NoLimit) (hg:s₁.gens = #[])
  (ha:s₁.heap.get? a=some { cls:=.type "list",data:=.seq vs.toArray }) (hi:IntsAre vs ns) (hl:ns.length<=sizeLine) (hr:Room k callerA)
  (hT:s₁.heap.get? T=some (tabObj #[])) (hct:isCodeTable s₁.heap T) (hs:∀h:Heap,(∀b o,s₁.heap.get? b=some o->b≠T->b≠a->h.get? b=some o)->Site K mg h cv T)
  (F:∀bj:Heap,K.In bj->bj.Ns mainGlobals mg->Site K mg bj cv T->FnOk P w K mg bj CX0 k fa fd [x] sp) (hbind:∀(s:Shared)(u:Value),BindsTo s fd ⟨[u],[]⟩ [(x,u)])
  (hsp:∀H:Hp,H T=some (.tbl lp q)->SqL K H a (ns.map V.int)->sp [.ref a] H (λv _=>v=.bl true) λ_ _ _=>False):
  codeAny (model P w) callerA (.call (.ref fa) ⟨[.ref a],[]⟩) (λr s'=>r=.ok (.ret (.bool true))/\OldK s₁.heap s'.heap/\s'.os=s₁.os/\AllBare s'.gens) s₁:=by
 have rv:=zjW hi
 have lenV:=hi.length
 have aT:a≠T:=λz=>by rw[z,hT]at ha;cases ha
 have core:∀H:Hp,H T=some (.tbl lp q)->SqL K H a (ns.map V.int)->(∀b u,H b=some u->b=T\/(b=a/\u=.frz { cls:=.type "list",data:=.seq vs.toArray } (.lst (ns.map V.int))))->(H a≠none->K.lookup a=none)->
   codeAny (model P w) callerA (.call (.ref fa) ⟨[.ref a],[]⟩) (λr s'=>r=.ok (.ret (.bool true))/\OldK s₁.heap s'.heap/\s'.os=s₁.os/\AllBare s'.gens) s₁:=by
  intro H hHT hS hO hK
  have hok:HOk P w H s₁.heap:=λb u e=>by
   rcases hO b u e with z | ⟨z,rfl⟩
   ·subst z
    rw[hHT]at e
    cases e
    exact⟨#[],hT,trivial,.inl rfl⟩
   ·subst z
    exact⟨ha,by rw[tm];exact hl,vs,_,rv,ha⟩
  have base_of:∀{b:Addr}{o:Obj},s₁.heap.get? b=some o->H b=none->(hidT s₁.heap H).get? b=some o:=λe n=>zqn e n
  have no:∀b,b≠T->b≠a->H b=none:=λb n1 n2=>by
   cases z:H b with
   | none=>rfl
   | some u=>
     rcases hO b u z with y | y
     ·exact absurd y n1
     ·exact absurd y.1 n2
  have noA:∀{b:Addr}{o:Obj}{es:Array DictEntry}{ep:Nat},s₁.heap.get? b=some o->o.data=.dict es ep->H b=none:=λ{b o es ep} e d=>by
   refine no b (λz=>?_) λz=>?_
   ·rw[z,hT]at e
    cases e
    cases d
   ·rw[z,ha]at e
    cases e
    cases d
  have nsK:∀{b:Addr}{m:af},s₁.heap.Ns b m->(hidT s₁.heap H).Ns b m:=λ{b m} ⟨o,es,ep,e,d,r⟩=>⟨o,es,ep,base_of e (noA e d),d,r⟩
  have hKb:K.In (hidT s₁.heap H):=λb o e=>base_of (KX b o e) (by
   cases z:H b with
   | none=>rfl
   | some u=>
     rcases hO b u z with y | y
     ·have e':=KX b o e
      rw[y,hT]at e'
      cases e'
      exact absurd e (ziM kt)
     ·have e2:=hK (by rw[<-y.1,z];simp)
      rw[<-y.1,e]at e2
      cases e2)
  have hM:Mod K mg (hidT s₁.heap H):=⟨hKb,nsK hns,⟨mb,nsK hb,hbb⟩,let ⟨mc,h1,h2⟩:=hlim;⟨mc,nsK h1,h2⟩⟩
  have e0:Env0 P w K mg (hidT s₁.heap H) callerA [] s₁ H:=⟨rfl,hM,λb o e=>zss e,pS (znN _ _),trivial,λb hb=>absurd (show b∈([]:List Addr)from hb) (by simp),hok,.of_eq hg⟩
  have hSi:Site K mg (hidT s₁.heap H) cv T:=hs _ λb o e n1 n2=>base_of e (no b n1 n2)
  refine rG ((F _ hKb (nsK hns) hSi).run callerA [] s₁ H ⟨[.ref a],[]⟩ [.ref a] [.ref a] _ _ hr e0 (hbind s₁ (.ref a)) (.cons rfl .nil) (hsp H hHT hS)) λr s' h=>?_
  cases r with
  | error e=>exact False.elim h
  | ok fl=>
    cases fl with
    | next=>exact False.elim h
    | brk=>exact False.elim h
    | cont=>exact False.elim h
    | ret u=>
      obtain⟨v,H',os,bare,un,hok',r',qv⟩:=h
      have qv':v=.bl true:=qv
      subst qv'
      obtain rfl:u=Value.bool true:=r'
      have kp:∀b o,b≠T->s₁.heap.get? b=some o->s'.heap.get? b=some o:=λb o n e=>by
       cases z:H b with
       | none=>exact un.keep b o e z (by intro z;exact absurd (show b∈([]:List Addr)from z) (by simp)) (by simp)
       | some u=>
         rcases hO b u z with y | ⟨y,rfl⟩
         ·exact absurd y n
         ·have z2:=un.frzs b _ _ z
          obtain⟨e2,_⟩:=hok' b _ z2
          subst y
          rw[ha]at e
          cases e
          exact e2
      obtain⟨ws,g1,_⟩:=hok' T _ (un.tbls T lp q hHT)
      refine⟨rfl,⟨λb o e=>?_,λb o e=>?_⟩,os,bare⟩
      ·by_cases z:b=T
       ·subst z
        rw[hT]at e
        cases e
        exact .inr (.inl ⟨hct,rfl,#[],ws,rfl,by simpa using g1⟩)
       ·exact .inl (kp b o z e)
      ·by_cases z:b=T
       ·subst z
        exact⟨_,g1⟩
       ·exact⟨o,kp b o z e⟩
 cases hk:K.lookup a with
 | some o=>
   have e:=KX a o hk
   rw[ha]at e
   cases e
   refine core (λb=>if b=T then some (.tbl lp q)else none) (if_pos rfl) (.inr ⟨_,vs.toArray,_,hk,rfl,rfl,rfl,by rw[size_toArray,lenV];exact hl,by simpa using rv⟩) (λb u z=>?_) λz=>absurd (if_neg aT) z
   by_cases hb:b=T
   ·exact .inl hb
   ·have z':=(if_neg hb).symm.trans z
    cases z'
 | none=>
   refine core (λb=>if b=T then some (.tbl lp q)else if b=a then some (.frz { cls:=.type "list",data:=.seq vs.toArray } (.lst (ns.map V.int)))else none) (if_pos rfl) (.inl (.inr ⟨{ cls:=.type "list",data:=.seq vs.toArray },(if_neg aT).trans (if_pos rfl)⟩)) (λb u z=>?_) λ_=>hk
   by_cases hb:b=T
   ·exact .inl hb
   ·have z:(if b=T then some (HO.tbl lp q)else if b=a then some (.frz { cls:=.type "list",data:=.seq vs.toArray } (.lst (ns.map V.int)))else none)=some u:=z
    rw[if_neg hb]at z
    by_cases hb2:b=a
    ·rw[if_pos hb2]at z
     cases z
     exact .inr ⟨hb2,rfl⟩
    ·rw[if_neg hb2]at z
     cases z
def walk_ofT{l:OpenLaw}{n k:Nat}{qp:Program}{loose:List Str}{XP:(Str->Option Value)->Heap->Prop}{YP:World->Heap->Prop}{d:DefRec}{K:Params->Frag}{sp:Frag->Addr->Sp}{x g:Str}{lp:Pos}{q:Str}
    (hn:l.most=some n) (hn2:n<=sizeLine) (hdf:d.params.defaults=[]) (hr:Room k callerA)
    (hY:∀(w:World)(h:Heap),YP w h->(K w.params).In h) (hK:∀p,zhD (K p)=true) (hrec:∃dr,(recsOf qp).find? (λe=>e.name==g)=some dr)
    (F:∀(w:World)(mg:af)(fa:Addr)(h:Heap),(K w.params).In h->h.Ns mainGlobals mg->mg d.name=some (.ref fa)->
      ∃(fd fg:FuncData)(ag:Addr)(og:Obj),(∀(s:Shared)(u:Value),BindsTo s fd ⟨[u],[]⟩ [(x,u)])/\mg g=some (.ref ag)/\(K w.params).lookup ag=some og/\og.data=.func fg/\
       ∀T (bj:Heap),(K w.params).In bj->bj.Ns mainGlobals mg->Site (K w.params) mg bj fg.code T->FnOk l.prog w (K w.params) mg bj CX0 k fa fd [x] (sp (K w.params) T))
    (hsp:∀(K:Frag)(T:Addr)(H:Hp)(a:Addr)(ns:List Int),ns.length<=n->H T=some (.tbl lp q)->SqL K H a (ns.map V.int)->sp K T [.ref a] H (λv _=>v=.bl true) λ_ _ _=>False):
    WalkO qp loose XP YP l.row.toRowW d [] (λf vs=>PySem.call f vs):=by
 refine Att.attach_call hn hdf λw s₀ s₁ mg mb fa o pm cd doc a vs ns G Y ho hd hcd hmg hobj hints hlen hg=>?_
 have KX:=hY w _ Y
 obtain⟨fd,fg,ag,og,hb,hmg2,hlk,hog,hF⟩:=F w mg fa _ KX G.T.g hmg
 obtain⟨dr,hdr⟩:=hrec
 have hnm:dr.name=g:=beq_iff_eq.mp (List.find?_some (p:=λe:DefRec=>e.name==g) hdr)
 obtain⟨a',o',fd',c,T,h1,h2,h3,h4,h5,h6⟩:=G.T.tab dr (List.mem_of_find?_eq_some hdr)
 rw[hnm,hmg2]at h1
 cases h1
 have h2':=KX ag og hlk
 rw[h2]at h2'
 cases h2'
 rw[hog]at h3
 cases h3
 obtain⟨bm,ob,b1,b2,b3,b4,b5,b6⟩:=G.T.bmain
 have hT:=h6.2
 have ha:=hobj
 have bT:bm≠T:=λz=>by
  rw[z,hT]at b3
  cases b3
  cases b4
 have ba:bm≠a:=λz=>by
  rw[z,ha]at b3
  cases b3
  injection b4 with y
  exact absurd y (by decide)
 have bG:bm≠mainGlobals:=λz=>by
  obtain⟨og',es,ep,e,dd,_⟩:=G.T.g
  rw[z,e]at b3
  cases b3
  rw[dd]at b6
  cases b6
 have C:=CodeHd.of h5 h6
 obtain⟨⟨oc,us,c1,c2,c3,c4⟩,_⟩:=id h6
 have cT:c≠T:=λz=>by
  rw[z,hT]at c1
  cases c1
  cases c2
 have ca:c≠a:=λz=>by
  rw[z,ha]at c1
  cases c1
  injection c2 with y
  exact absurd y (by decide)
 have site:∀h:Heap,(∀b o,s₁.heap.get? b=some o->b≠T->b≠a->h.get? b=some o)->Site (K w.params) mg h fg.code T:=λh kp=>
  ⟨⟨c,h4,by
    obtain⟨o2,vs2,file,tf,flags,tg,inF,text,tt,e,r⟩:=id C
    exact⟨o2,vs2,file,tf,flags,tg,inF,text,tt,kp _ _ e cT ca,r⟩⟩,bm,ob,b1,b2,bG,bT,kp _ _ b3 bT ba,b4,b5,b6⟩
 exact zoM (lp:=lp) (q:=q) (sp:=sp (K w.params) T) KX (hK _) G.T.g G.T.b G.T.builtins G.T.nolimit hg hobj hints (tU hlen hn2) hr hT h6.isCodeTable site (hF T) hb λH hO hS=>hsp (K w.params) T H a ns hlen hO hS
end L2
namespace L2
open PySem PySem.Spec PyProof.Rows
theorem zoN{b:Int}(h0:0<b)(h1:b<=12):b∣27720:=by
 obtain⟨k,rfl⟩:=qy (rX h0)
 have hk:k<=12:=Int.ofNat_le.mp h1
 have hp:0<k:=Int.ofNat_lt.mp h0
 match k,hk,hp with
 | 1,_,_=>exact⟨27720,rfl⟩
 | 2,_,_=>exact⟨13860,rfl⟩
 | 3,_,_=>exact⟨9240,rfl⟩
 | 4,_,_=>exact⟨6930,rfl⟩
 | 5,_,_=>exact⟨5544,rfl⟩
 | 6,_,_=>exact⟨4620,rfl⟩
 | 7,_,_=>exact⟨3960,rfl⟩
 | 8,_,_=>exact⟨3465,rfl⟩
 | 9,_,_=>exact⟨3080,rfl⟩
 | 10,_,_=>exact⟨2772,rfl⟩
 | 11,_,_=>exact⟨2520,rfl⟩
 | 12,_,_=>exact⟨2310,rfl⟩
def zqR{m b:Int}(hm:0<m)(hb:0<b):0<m*b / M1.gd m b/\m∣m*b / M1.gd m b/\b∣m*b / M1.gd m b/\∀k:Int,m∣k->b∣k->m*b / M1.gd m b∣k:=by
 obtain⟨x,rfl⟩:=qy (rX hm)
 obtain⟨y,rfl⟩:=qy (rX hb)
 have e:(x:Int)*(y:Int) / M1.gd x y=((Nat.lcm x y:Nat):Int):=by
  unfold M1.gd
  rw[Int.gcd_natCast_natCast]
  unfold Nat.lcm
  rw[<-Int.natCast_mul,<-Int.natCast_ediv]
 rw[e]
 have x0:0<x:=by omega
 have y0:0<y:=by omega
 refine⟨?_,?_,?_,λk h1 h2=>?_⟩
 ·have:=Nat.lcm_pos x0 y0
  omega
 ·exact Int.natCast_dvd_natCast.mpr (Nat.dvd_lcm_left x y)
 ·exact Int.natCast_dvd_natCast.mpr (Nat.dvd_lcm_right x y)
 ·rw[Int.ofNat_dvd_left]at h1 h2 ⊢
  exact Nat.lcm_dvd h1 h2
def wM(c:Cl)(t M:Int):Int:=c.wt*(M / c.wb)+(t-c.came)*(c.st*(M / c.sb))
def kM(c:Cl)(t M:Int):List Int:=[-(wM c t M),c.came,c.n]
def zut{c:Cl}{t M:Int}(h1:c.wb∣M)(h2:c.sb∣M):wM c t M*wbot c=wtop c t*M:=by
 have e1:=so h1
 have e2:=so h2
 unfold wM wbot wtop
 rw[qZ,qZ]
 congr 1
 ·calc c.wt*(M / c.wb)*(c.wb*c.sb)=c.wt*c.sb*(M / c.wb*c.wb):=by ac_rfl
   _=c.wt*c.sb*M:=by rw[e1]
 ·calc (t-c.came)*(c.st*(M / c.sb))*(c.wb*c.sb)=(t-c.came)*c.st*c.wb*(M / c.sb*c.sb):=by ac_rfl
   _=(t-c.came)*c.st*c.wb*M:=by rw[e2]
def zvH{c d:Cl}{t M:Int}(c1:c.wb∣M)(c2:c.sb∣M)(d1:d.wb∣M)(d2:d.sb∣M):gap c d t*M=(wM c t M-wM d t M)*(wbot c*wbot d):=by
 have e1:=zut (t:=t) c1 c2
 have e2:=zut (t:=t) d1 d2
 unfold gap
 rw[rW,rW]
 congr 1
 ·calc wtop c t*wbot d*M=(wtop c t*M)*wbot d:=by ac_rfl
   _=(wM c t M*wbot c)*wbot d:=by rw[e1]
   _=wM c t M*(wbot c*wbot d):=by ac_rfl
 ·calc wtop d t*wbot c*M=(wtop d t*M)*wbot c:=by ac_rfl
   _=(wM d t M*wbot d)*wbot c:=by rw[e2]
   _=wM d t M*(wbot c*wbot d):=by ac_rfl
def zsU{c d:Cl}{t M:Int}(oc:c.Ok)(od:d.Ok)(hM:0<M)(c1:c.wb∣M)(c2:c.sb∣M)(d1:d.wb∣M)(d2:d.sb∣M):HT.lexLt (kM c t M) (kM d t M)=ahd c d t:=by
 have e:=zvH (t:=t) c1 c2 d1 d2
 have bp:0<wbot c*wbot d:=sL (zbV oc) (zbV od)
 unfold kM ahd
 rw[HT.lexLt_cons,zoG]
 rcases(by omega:wM c t M-wM d t M<0\/wM c t M-wM d t M=0\/0<wM c t M-wM d t M)with z | z | z
 ·have g:gap c d t<0:=by
   refine Int.not_le.mp λy=>?_
   have h1:=sT y (rX hM)
   have h2:=Int.mul_neg_of_neg_of_pos z bp
   omega
  rw[if_neg (by omega),if_neg (by omega),tS (by omega),tS (by omega)]
 ·have g:gap c d t=0:=by
   rw[z,Int.zero_mul]at e
   rcases Int.mul_eq_zero.mp e with y | y
   ·exact y
   ·omega
  rw[if_pos (by omega),if_pos g]
 ·have g:0<gap c d t:=by
   refine Int.not_le.mp λy=>?_
   have h1:=si y (rX hM)
   have h2:=sL z bp
   omega
  rw[if_neg (by omega),if_neg (by omega),decide_eq_true (by omega),decide_eq_true (by omega)]
def aJ{cs:List Cl}(g:Good cs){i j:Nat}{c d:Cl}(h1:cs[i]?=some c)(h2:cs[j]?=some d)(ne:i≠j):c.n≠d.n:=λe=>by
 obtain⟨a1,b1⟩:=List.getElem?_eq_some_iff.mp h1
 obtain⟨a2,b2⟩:=List.getElem?_eq_some_iff.mp h2
 have nd:=g.nd
 have:=(getElem_inj (xs:=cs.map (·.n)) (i:=i) (j:=j) (h₀:=by simpa using a1) (h₁:=by simpa using a2) nd).mp (by rw[getElem_map,getElem_map,b1,b2];exact e)
 exact ne this
def zld(cs:List Cl)(t:Int)(i j:Nat):Bool:=match cs[i]?,cs[j]? with
 | some c,some d=>ahd c d t
 | _,_=>false
theorem zuu{cs:List Cl}(g:Good cs)(t:Int):Tot cs.length (zld cs t) where
 asym:=λi j hi hj h=>by
  unfold zld at h ⊢
  rw[tj hi,tj hj]at h ⊢
  cases z:ahd cs[j] cs[i] t with
  | false=>exact z
  | true=>exact(zbl h z).elim
 tot:=λi j hi hj ne h=>by
  unfold zld at h ⊢
  rw[tj hi,tj hj]at h ⊢
  show ahd cs[j] cs[i] t=true
  rw[zbI (aJ g (tj hi) (tj hj) ne)]
  have h:ahd cs[i] cs[j] t=false:=h
  rw[h]
  rfl
 trans:=λi j k hi hj hk h1 h2=>by
  unfold zld at h1 h2 ⊢
  rw[tj hi,tj hj]at h1
  rw[tj hj,tj hk]at h2
  rw[tj hi,tj hk]
  exact dW (g.ok _ (sI hi)) (g.ok _ (sI hj)) (g.ok _ (sI hk)) h1 h2
def zfV(cs:List Cl)(t M:Int)(i:Nat):List Int:=match cs[i]? with
 | some c=>kM c t M
 | none=>[0,0,0]
def zuv(cs:List Cl)(t M:Int)(i:Nat):(zfV cs t M i).length=3:=by
 unfold zfV
 cases cs[i]?<;>rfl
def zuw{cs:List Cl}(g:Good cs){t M:Int}(hM:0<M)(hd:∀c∈cs,c.wb∣M/\c.sb∣M){i j:Nat}(hi:i<cs.length)(hj:j<cs.length):HT.lexLt (zfV cs t M i) (zfV cs t M j)=zld cs t i j:=by
 unfold zfV zld
 rw[tj hi,tj hj]
 have m1:=sI hi
 have m2:=sI hj
 exact zsU (g.ok _ m1) (g.ok _ m2) hM (hd _ m1).1 (hd _ m1).2 (hd _ m2).1 (hd _ m2).2
def Tot.congr{n:Nat}{lt lt':Nat->Nat->Bool}(T:Tot n lt)(h:∀i j,i<n->j<n->lt' i j=lt i j):Tot n lt' where
 asym:=λi j hi hj e=>by
  rw[h i j hi hj]at e
  rw[h j i hj hi]
  exact T.asym i j hi hj e
 tot:=λi j hi hj ne e=>by
  rw[h i j hi hj]at e
  rw[h j i hj hi]
  exact T.tot i j hi hj ne e
 trans:=λi j k hi hj hk e1 e2=>by
  rw[h i j hi hj]at e1
  rw[h j k hj hk]at e2
  rw[h i k hi hk]
  exact T.trans i j k hi hj hk e1 e2
def zux{cs:List Cl}(g:Good cs){t M:Int}(hM:0<M)(hd:∀c∈cs,c.wb∣M/\c.sb∣M):Tot cs.length (λi j=>HT.lexLt (zfV cs t M i) (zfV cs t M j)):=(zuu g t).congr λi j hi hj=>zuw g hM hd hi hj
def dZ{α:Type}(d : α)(xs:List α){p:List Nat}(h:p.Perm (List.range xs.length)):(p.map λi=>xs.getD i d).Perm xs:=by
 have e:(List.range xs.length).map (λi=>xs.getD i d)=xs:=by
  apply rM
  ·simp
  ·intro i h1 h2
   simp[h2]
 have:=h.map λi=>xs.getD i d
 rw[e]at this
 exact this
def zqS{ps:List (Addr × Cl)}(g:Good (ps.map (·.2))){t M:Int}(hM:0<M)(hd:∀c∈ps.map (·.2),c.wb∣M/\c.sb∣M){p:List Nat}(h:p.Perm (List.range (ps.map (·.2)).length))(d:Addr × Cl)
    (hs:∀i j,i<j->j<p.length->HT.lexLt (zfV (ps.map (·.2)) t M (p.getD i 0)) (zfV (ps.map (·.2)) t M (p.getD j 0))=true):Srt t ((p.map λi=>ps.getD i d).map (·.2)):=by
 unfold Srt
 rw[t5,qR]
 intro i j hi hj ij
 rw[tm]at hi hj
 have lt:∀k (hk:k<p.length),p[k]<(ps.map (·.2)).length:=λk hk=>mem_range.mp (h.mem_iff.mp (sI hk))
 have z:=hs i j ij hj
 rw[tK,tK,tj hi,tj hj]at z
 have z:HT.lexLt (zfV (ps.map (·.2)) t M p[i]) (zfV (ps.map (·.2)) t M p[j])=true:=z
 rw[zuw g hM hd (lt i hi) (lt j hj)]at z
 unfold zld at z
 rw[tj (lt i hi),tj (lt j hj)]at z
 have z:ahd ((ps.map (·.2))[p[i]]'(lt i hi)) ((ps.map (·.2))[p[j]]'(lt j hj)) t=true:=z
 rw[getElem_map,getElem_map]at z
 rw[getElem_map,getElem_map]
 have e:∀k (hk:k<p.length),ps.getD p[k] d=ps[p[k]]'(by have:=lt k hk;simpa using this):=λk hk=>by
  have:=lt k hk
  rw[tK,tj (by simpa using this)]
  rfl
 show ahd (ps.getD p[i] d).2 (ps.getD p[j] d).2 t=true
 rw[e i hi,e j hj]
 exact z
section
variable{X:Cx}
theorem zoO(bs:List Bool):(List.range bs.length).any (λi=>(bs[i]?).getD false)=bs.any id:=by
 induction bs with
 | nil=>rfl
 | cons b r ih=>
   rw[length_cons,sV,qS,List.any_map,qS,<-ih]
   rfl
theorem zhE(hc:X.calm=true):zdH X (.builtin "any") (λxs H Q=>∃(p:Addr)(bs:List Bool),xs=[.ref p]/\SqL X.K H p (bs.map V.bl)/\Q (.bl (bs.any id)) H):=by
 intro ai s σ H xs us Q I r h
 obtain⟨p,bs,rfl,hq,q⟩:=h
 obtain⟨u,rfl,ru⟩:=zgU r
 cases ru
 obtain⟨its,rv,pl,hz⟩:=I.list hq
 have lt:p<s.heap.objs.size:=by
  obtain⟨o,ho,_⟩:=pl.isList
  exact tI ho
 have hl:its.toArray.size=bs.length:=by
  have:=rv.length
  simp at this ⊢
  omega
 refine call_any_walk (r8 pl.isList ?_)
 refine⟨s.heap.objs.size,_,_,_,_,_,λi=>(bs[i]?).getD false,rfl,Walks.list (prog:=X.prog) (w:=X.w) (A:=X.A.in1) (show X.A.in1.handled=none from I.ok.hd hc) _ p (tM lt) its.toArray,⟨⟨_,tJ _ rfl,rfl,rfl⟩,pl.isList.at λo e=>tz _ e⟩,λi v s' Q' E' hP hQ'=>?_,λh' tk kk=>?_⟩
 ·have hP':its[i]?=some v:=by simpa using hP
  cases e:bs[i]? with
  | none=>
    have h1:its.length<=i:=by
     have h2:=List.getElem?_eq_none_iff.mp e
     simp at hl
     omega
    rw[rf h1]at hP'
    cases hP'
  | some b=>
    dsimp only at hQ'
    rw[e]at hQ'
    obtain⟨u,hu,ru⟩:=rv.get (i:=i) (x:=.bl b) (by rw[getElem?_map,e];rfl)
    rw[hP']at hu
    cases hu
    cases(show v=Value.bool b from ru)
    exact ss hQ'
 ·rw[hl,zoO]
  refine⟨.bl _,H,I.kept (t':=tk) (h':=h') λb o e=>kk b o ?_ (tz _ e),rfl,q⟩
  intro z
  have z:b=s.heap.objs.size:=by simpa using z
  exact tM (tI e) z
end
end L2
namespace L2
open PySem PySem.Spec PyProof.Rows PySem.W
section
variable{X:Cx}
def zuy(K:Frag):List V->Hp->VK->Prop:=λvs H Q=>∃(l:Addr)(xs:List V)(kf:Nat->List Int)(m:Nat),vs=[.ref l]/\SqL K H l xs/\xs.length<64/\(∀i,(kf i).length=m)/\0<m/\Tot xs.length (λi j=>HT.lexLt (kf i) (kf j))/\
 (∀i v,xs[i]?=some v->∃p,v=.ref p/\H p=some (.tup ((kf i).map V.int)))/\
 ∀D H' (p:List Nat),Same H H'->H D=none->H' D=some (.lst (p.map λi=>xs.getD i .non))->p.Perm (List.range xs.length)->(∀i j,i<j->j<p.length->HT.lexLt (kf (p.getD i 0)) (kf (p.getD j 0))=true)->Q (.ref D) H'
def znc:zdH X (.builtin "sorted") (zuy X.K):=by
 intro ai s σ H bN us Q I r h
 obtain⟨l,xs,kf,m,rfl,hl,hn,k1,m1,T,hk,h⟩:=h
 obtain⟨u,rfl,ru⟩:=zgU r
 cases ru
 obtain⟨its,rv,pl,hz⟩:=I.list hl
 have il:its.length=xs.length:=rv.length.symm
 have sl:(100:Nat)<=sizeLine:=by decide
 have kin:zmn H kf its:=λj hj=>by
  have hjx:j<xs.length:=by omega
  obtain⟨p,e1,e2⟩:=hk j _ (tj hjx)
  obtain⟨u,hu,ru⟩:=rv.get (tj hjx)
  rw[e1]at ru
  obtain rfl:u=.ref p:=ru
  exact⟨p,hu,e2⟩
 refine Calls.call_function_entry kind_sorted plain_sorted entry_sorted (args_sorted1 (.ref l)) ?_
 unfold Builtin.«sorted»
 refine tD (m:=checkCount "sorted" 1 1 _) (tH (tD (collect_list pl.isList (tD (pJ ?_ (by omega))) (by omega))))
 have kA:∀b o,s.heap.get? b=some o->((s.heap.push (seqObj "list" #[] 0)).update s.heap.objs.size (Obj.mapSeq (· ++ its.toArray))).get? b=some o:=λb o e=>by
  rw[qh _ _ _ _ (tM (tI e))]
  exact tz _ e
 have sA:s.heap.objs.size<=((s.heap.push (seqObj "list" #[] 0)).update s.heap.objs.size (Obj.mapSeq (· ++ its.toArray))).objs.size:=by
  rw[Heap.size_update,size_push']
  exact rn _
 dsimp only
 generalize ((s.heap.push (seqObj "list" #[] 0)).update s.heap.objs.size (Obj.mapSeq (· ++ its.toArray)))=A1 at kA sA ⊢
 have hD:(A1.push (seqObj "list" its.toArray 0)).get? A1.objs.size=some (seqObj "list" its.toArray 0):=tJ _ rfl
 generalize eD:A1.objs.size=D at hD sA ⊢
 have kB:∀b o,s.heap.get? b=some o->(A1.push (seqObj "list" its.toArray 0)).get? b=some o:=λb o e=>tz _ (kA b o e)
 generalize A1.push (seqObj "list" its.toArray 0)=A2 at hD kB ⊢
 refine tD (t7 (wpAny_call_entry slot_list_sort ⟨_,hD,rfl⟩ entry_list_sort ?body (args_list_sort (.ref D))))
 case body=>
  rw[list_sort_plain D]
  refine tD (listItems_at hD rfl (tD (qa hD rfl ?_ (by rw[size_toArray];omega) (tV _))))
  obtain⟨e1,hD1⟩:∃e1,(A2.update D (Obj.mapSeq λ_=>(#[]:Array Value))).get? D=some (seqObj "list" #[] e1):=⟨_,qx hD λ_ => #[]⟩
  have kC:∀b o,s.heap.get? b=some o->(A2.update D (Obj.mapSeq λ_=>(#[]:Array Value))).get? b=some o:=λb o e=>by
   rw[qh _ _ _ _ (tM (tQ (tI e) sA))]
   exact kB b o e
  dsimp only
  refine tD (pK hD1 rfl (tD (wpAny_newTuple ?_ (by show its.length<=sizeLine;omega))))
  refine tD (pJ (t7 ?_) (tV _))
  dsimp only
  generalize A2.update D (Obj.mapSeq λ_=>(#[]:Array Value))=A3 at hD1 kC ⊢
  have hD3:=tz (seqObj "list" #[] 0) (tz (seqObj "tuple" its.toArray 0) hD1)
  have kF:∀b o,s.heap.get? b=some o->((A3.push (seqObj "tuple" its.toArray 0)).push (seqObj "list" #[] 0)).get? b=some o:=λb o e=>tz _ (tz _ (kC b o e))
  have nD:H D=none:=I.hok.fresh sA
  have fD:=I.fpOk (H':=H) sA nD
  have I0:Inv X ai σ H { s with heap:=(A3.push (seqObj "tuple" its.toArray 0)).push (seqObj "list" #[] 0) }:=I.kept (t':=s.toks) kF
  show wpAny (model X.prog X.w) X.A.in1.in1 _ _ _ { s with heap:=(A3.push (seqObj "tuple" its.toArray 0)).push (seqObj "list" #[] 0) }
  generalize (A3.push (seqObj "tuple" its.toArray 0)).push (seqObj "list" #[] 0)=A5 at hD3 kF I0 ⊢
  have fin:∀(p:List Nat),p.Perm (List.range xs.length)->(∀i j,i<j->j<p.length->HT.lexLt (kf (p.getD i 0)) (kf (p.getD j 0))=true)->
    EP X ai σ Q (.ref D) { s with heap:=A5.update D (Obj.mapSeq λ_=>List.toArray (p.map λi=>its.getD i Value.none)) }:=by
   intro p hp hs
   have pl2:p.length=xs.length:=by simpa using hp.length_eq
   obtain⟨c2,hc2⟩:∃c2,(A5.update D (Obj.mapSeq λ_=>List.toArray (p.map λi=>its.getD i Value.none))).get? D=some (seqObj "list" (List.toArray (p.map λi=>its.getD i Value.none)) c2):=⟨_,qx hD3 λ_=>List.toArray (p.map λi=>its.getD i Value.none)⟩
   have sb:=qj A5 D (Obj.mapSeq λ_=>List.toArray (p.map λi=>its.getD i Value.none))
   have kp:∀b o,b≠D->A5.get? b=some o->(A5.update D (Obj.mapSeq λ_=>List.toArray (p.map λi=>its.getD i Value.none))).get? b=some o:=λb o n g=>(sb.2 b n).trans g
   have trk:∀b u,H b=some u->b≠D:=λb u g z=>by rw[z,nD]at g;cases g
   have sm:Same H (upd H D (.lst (p.map λi=>xs.getD i .non))):=λb u g=>by rw[zaw (trk b u g)];exact g
   refine⟨.ref D,upd H D (.lst (p.map λi=>xs.getD i .non)),?_,rfl,h D _ p sm nD zar hp hs⟩
   refine Inv.step (s := { s with heap:=A5 }) (g':=s.gens) (d':=s.drawn) (t':=s.toks) (ch:=[D]) I0 (λb hb=>?_) (λb o _ _ hc g _=>kp b o (λz=>hc (by simp[z])) g) (λb o _ _ hc g _=>⟨o.slots,kp b o (λz=>hc (by simp[z])) g⟩) (λb o hc _ n=>?_) (λb o hc g=>⟨o,kp b o (λz=>hc (by simp[z])) g⟩)
    (λb ys g=>sm b _ g) (λb o u g=>sm b _ g) (λb lp lq g=>sm b _ g) (λmm hm=>?_) (λb u g=>?_) I0.bare
   ·have:b=D:=by simpa using hb
    subst this
    exact⟨fD.2.2.2.1,fD.2.1,fD.2.2.2.2.1,fD.2.2.2.2.2⟩
   ·rw[zaw (λz=>hc (by simp[z]))]
    exact n
   ·obtain⟨o,es,ep,g,r⟩:=hm
    exact⟨o,es,ep,kp _ o (Ne.symm fD.2.1) g,r⟩
   ·by_cases z:b=D
    ·subst z
     rw[zar]at g
     cases g
     refine⟨by rw[tm,pl2];omega,_,c2,zhC rv p λi hi=>mem_range.mp (hp.mem_iff.mp hi),hc2⟩
    ·rw[zaw z]at g
     refine(I0.hok b u g).stay (λd v hd q=>kp d v ?_ q) (λd q=>sm d _ q) (λd ys q=>sm d _ q) λd ob ys q=>sm d _ q
     rcases hd with y | y
     ·rw[y];exact trk b u g
     ·exact trk d _ y
  have tail:∀(st:SortSt)(p:List Nat),failedOf st=none->(arrOf st).map (·.2)=List.toArray (p.map λi=>its.getD i Value.none)->p.Perm (List.range xs.length)->(∀i j,i<j->j<p.length->HT.lexLt (kf (p.getD i 0)) (kf (p.getD j 0))=true)->(p.map λi=>its.getD i Value.none).length=its.length:=λst p _ _ hp _=>by
   rw[tm]
   have:=hp.length_eq
   simp at this
   omega
  by_cases n2:its.toArray.size<2
  ·rw[if_pos n2,if_pos n2]
   refine tD (tH ?_)
   rw[StateT.run_pure]
   refine tD (tH ?_)
   dsimp only
   rw[size_toArray]at n2
   have hout:(arrOf (SortSt.mk' general' (its.toArray.zip its.toArray) #[] 7 none)).map (·.2)=List.toArray ((List.range xs.length).map λi=>its.getD i Value.none):=by
    show((List.toArray its).zip its.toArray).map (·.2)=_
    rw[<-il,zrK]
    apply Array.toList_inj.mp
    rw[Array.toList_map,ksk_zip]
    exact pQ (by simp)
   rw[hout]
   refine tD (pK hD3 rfl (tD (qa hD3 rfl ?_ (tV _) (by simp;omega))))
   simp only[bne_self_eq_false,Bool.false_eq_true,if_false]
   refine tH ⟨_,rfl,tH ⟨_,rfl,fin (List.range xs.length) (List.Perm.refl _) λi j ij jl=>?_⟩⟩
   rw[qm]at jl
   omega
  ·rw[if_neg n2,if_neg n2]
   rw[size_toArray]at n2
   refine tD (dY I0 (λi=>by rw[k1];exact m1) kin (by omega) ?_)
   refine tD (sP (kat_run (ks:=its) (vs:=its) (Q:=λst' s''=>∃p:Array Nat,arrOf st'=p.map (kas_item ((List.toArray its).zip its.toArray))/\failedOf st'=none/\s'' = { s with heap:=A5 }/\Pm xs.length p/\Sd (λi j=>HT.lexLt (kf i) (kf j)) p xs.length) (G:=λp s''=>s'' = { s with heap:=A5 }/\Pm xs.length p/\Sd (λi j=>HT.lexLt (kf i) (kf j)) p xs.length)
    rfl (by omega) (by omega) (λp st' s'' _ a2 a3 a4=>⟨p,a2,a3,a4⟩) ?_) ?_ λ_ _ z=>z)
   ·rw[il]
    refine Asks.wp (n:=xs.length) (lt:=λi j=>HT.lexLt (kf i) (kf j)) (R:=λp=>Pm xs.length p/\Sd (λi j=>HT.lexLt (kf i) (kf j)) p xs.length) (λi j C hi hj hC=>?_) (λp hp=>⟨rfl,hp⟩) _ (zoL T (by omega))
    exact zmo I0 k1 kin (by omega) (by omega) hC
   ·rintro⟨⟨⟩,st'⟩ s'' ⟨p,har,hf,rfl,P,S⟩
    have hs:∀i j,i<j->j<p.toList.length->HT.lexLt (kf (p.toList.getD i 0)) (kf (p.toList.getD j 0))=true:=λi j ij jl=>by
     have e2:∀k,p.toList.getD k 0=p.getD k 0:=λk=>by rw[tK,atq];simp
     rw[e2,e2]
     exact S i j ij (by rw[Array.length_toList,P.sz]at jl;exact jl)
    have hout:=kat_snds (ks:=its) (vs:=its) rfl har
    have lo:=tail st' p.toList hf hout P.pm hs
    dsimp only
    rw[hout]
    refine tD (pK hD3 rfl (tD (qa hD3 rfl ?_ (tV _) (by rw[size_toArray,lo];omega))))
    rw[hf]
    simp only[bne_self_eq_false,Bool.false_eq_true,if_false]
    exact tH ⟨_,rfl,tH ⟨_,rfl,fin p.toList P.pm hs⟩⟩
end
end L2
namespace L2
open PySem PySem.Spec PyProof.Rows
abbrev Row:=Int × Int × Int
def Row.key(r:Row):List Int:=[r.1,r.2.1,r.2.2]
def rlt(r q:Row):Bool:=HT.lexLt (Row.key r) (Row.key q)
def zhF(r q:Row):rlt r q=true↔r.1<q.1\/(r.1=q.1/\(r.2.1<q.2.1\/(r.2.1=q.2.1/\r.2.2<q.2.2))):=by
 unfold rlt Row.key
 rw[HT.lexLt_cons,HT.lexLt_cons,HT.lexLt_cons,HT.lexLt_nil_nil]
 by_cases a:r.1=q.1
 ·rw[if_pos a]
  by_cases b:r.2.1=q.2.1
  ·rw[if_pos b]
   by_cases c:r.2.2=q.2.2
   ·rw[if_pos c]
    simp
    omega
   ·rw[if_neg c,tZ]
    omega
  ·rw[if_neg b,tZ]
   omega
 ·rw[if_neg a,tZ]
  omega
def zuz{r q:Row}(h:¬rlt r q=true):rlt r q=false:=by simpa using h
def bO{r q:Row}(h:rlt r q=true):rlt q r=false:=zuz λz=>by
 rw[zhF]at h z
 omega
def zsV{r q:Row}(n:r≠q)(h:rlt r q=false):rlt q r=true:=by
 have h':¬rlt r q=true:=by simp[h]
 rw[zhF]at h' ⊢
 have n':¬(r.1=q.1/\r.2.1=q.2.1/\r.2.2=q.2.2):=λz=>n (Prod.ext z.1 (Prod.ext z.2.1 z.2.2))
 omega
def zoP{r q z:Row}(h1:rlt r q=true)(h2:rlt q z=true):rlt r z=true:=by
 rw[zhF]at h1 h2 ⊢
 omega
def rk(rows:List Row)(i:Nat):List Int:=match rows[i]? with
 | some r=>Row.key r
 | none=>[0,0,0]
def zuA(rows:List Row)(i:Nat):(rk rows i).length=3:=by
 unfold rk
 cases rows[i]?<;>rfl
def zuB{rows:List Row}(nd:rows.Nodup):Tot rows.length (λi j=>HT.lexLt (rk rows i) (rk rows j)) where
 asym:=λi j hi hj h=>by
  unfold rk at h ⊢
  rw[tj hi,tj hj]at h ⊢
  exact bO h
 tot:=λi j hi hj ne h=>by
  unfold rk at h ⊢
  rw[tj hi,tj hj]at h ⊢
  exact zsV (λe=>ne ((getElem_inj nd).mp e)) h
 trans:=λi j k hi hj hk h1 h2=>by
  unfold rk at h1 h2 ⊢
  rw[tj hi,tj hj]at h1
  rw[tj hj,tj hk]at h2
  rw[tj hi,tj hk]
  exact zoP h1 h2
noncomputable def mt(b l:Cl)(t:Int):Option Int:=open Classical in if h:∃u,Pass b l t (.int u)then some h.choose else none
def zoQ{b l:Cl}{t u:Int}(h:Pass b l t (.int u)):mt b l t=some u:=by
 unfold mt
 have e:∃u,Pass b l t (.int u):=⟨u,h⟩
 rw[dif_pos e]
 exact tW some (V.int.inj (e.choose_spec.uniq h))
def zsW{b l:Cl}{t:Int}(h:Pass b l t .non):mt b l t=none:=by
 unfold mt
 rw[dif_neg]
 rintro⟨u,hu⟩
 have:=h.uniq hu
 cases this
def zoR{b l:Cl}{t u:Int}(h:mt b l t=some u):Pass b l t (.int u):=by
 unfold mt at h
 by_cases e:∃u,Pass b l t (.int u)
 ·rw[dif_pos e]at h
  cases h
  exact e.choose_spec
 ·rw[dif_neg e]at h
  cases h
noncomputable def rowAt(cs:List Cl)(t:Int)(j k:Nat):Option Row:=match cs[j]?,cs[k]? with
 | some b,some f=>(mt b f t).map λu=>(u,b.n,f.n)
 | _,_=>none
noncomputable def rowsTo(cs:List Cl)(t:Int)(i:Nat):List Row:=(List.range i).flatMap λj=>(List.range j).filterMap (rowAt cs t j)
def zeu(cs:List Cl)(t:Int)(i:Nat):rowsTo cs t (i+1)=rowsTo cs t i++(List.range i).filterMap (rowAt cs t i):=by
 unfold rowsTo
 rw[oi,List.flatMap_append]
 simp
def zoS(f:Nat->Option Row)(k:Nat):(List.range (k+1)).filterMap f=(List.range k).filterMap f++(f k).toList:=by
 rw[oi,List.filterMap_append]
 cases e:f k<;>simp[e]
def zrL(f:Nat->Option Row)(k:Nat):((List.range k).filterMap f).length<=k:=by
 have:=List.length_filterMap_le f (List.range k)
 simpa using this
theorem zfW(cs:List Cl)(t:Int):∀i,(rowsTo cs t i).length*2<=i*(i-1)
 | 0=>by simp[rowsTo]
 | i+1=>by
   have h1:=zfW cs t i
   have h2:=zrL (rowAt cs t i) i
   rw[zeu,tR]
   have e:(i+1)*(i+1-1)=i*(i-1)+2*i:=by
    cases i with
    | zero=>rfl
    | succ n=>simp only[Nat.add_sub_cancel];rw[Nat.add_mul,Nat.mul_add,Nat.mul_add];omega
   omega
theorem zdL{cs:List Cl}{t:Int}{j k:Nat}{r:Row}(h:rowAt cs t j k=some r):∃b f,cs[j]?=some b/\cs[k]?=some f/\mt b f t=some r.1/\r.2.1=b.n/\r.2.2=f.n:=by
 unfold rowAt at h
 cases e1:cs[j]? with
 | none=>rw[e1]at h;cases h
 | some b=>
   cases e2:cs[k]? with
   | none=>rw[e1,e2]at h;cases h
   | some f=>
     rw[e1,e2]at h
     cases e3:mt b f t with
     | none=>
       have h:(mt b f t).map (λu=>(u,b.n,f.n))=some r:=h
       rw[e3]at h
       cases h
     | some u=>
       have h:(mt b f t).map (λu=>(u,b.n,f.n))=some r:=h
       rw[e3]at h
       cases h
       exact⟨b,f,rfl,rfl,e3,rfl,rfl⟩
def ziN{cs:List Cl}{t:Int}{i:Nat}{r:Row}:r∈rowsTo cs t i↔∃j k,k<j/\j<i/\rowAt cs t j k=some r:=by
 unfold rowsTo
 rw[List.mem_flatMap]
 constructor
 ·rintro⟨j,hj,h⟩
  obtain⟨k,hk,e⟩:=mem_filterMap.mp h
  exact⟨j,k,mem_range.mp hk,mem_range.mp hj,e⟩
 ·rintro⟨j,k,kj,ji,e⟩
  exact⟨j,mem_range.mpr ji,mem_filterMap.mpr ⟨k,mem_range.mpr kj,e⟩⟩
theorem eA{cs:List Cl}(g:Good cs)(t:Int):∀i,(rowsTo cs t i).Nodup
 | 0=>by simp[rowsTo]
 | i+1=>by
   rw[zeu,List.nodup_append]
   refine⟨eA g t i,?_,?_⟩
   ·refine List.Pairwise.filterMap (R:=λa b:Nat=>a≠b) (S:=λa b:Row=>a≠b) _ (λa b ne r hr q hq e=>?_) List.nodup_range
    subst e
    obtain⟨b1,f1,c1,c2,_,_,c3⟩:=zdL hr
    obtain⟨b2,f2,d1,d2,_,_,d3⟩:=zdL hq
    exact aJ g c2 d2 ne (c3.symm.trans d3)
   ·intro r hr q hq e
    subst e
    obtain⟨j,k,kj,ji,hr⟩:=ziN.mp hr
    obtain⟨k',_,hq⟩:=mem_filterMap.mp hq
    obtain⟨b1,f1,c1,_,_,c3,_⟩:=zdL hr
    obtain⟨b2,f2,d1,_,_,d3,_⟩:=zdL hq
    exact aJ g c1 d1 (by omega) (c3.symm.trans d3)
structure RowsOf(cs:List Cl)(t:Int)(rows:List Row):Prop where
 srt:rows.Pairwise λr q=>rlt r q=true
 mem:∀r:Row,r∈rows↔∃b f,b∈cs/\f∈cs/\ahd f b t=true/\mt b f t=some r.1/\r.2.1=b.n/\r.2.2=f.n
def zoT{cs:List Cl}{t:Int}(h:Srt t cs){j k:Nat}{b f:Cl}(hb:cs[j]?=some b)(hf:cs[k]?=some f)(kj:k<j):ahd f b t=true:=by
 obtain⟨a1,b1⟩:=List.getElem?_eq_some_iff.mp hb
 obtain⟨a2,b2⟩:=List.getElem?_eq_some_iff.mp hf
 have:=(pairwise_iff_getElem.mp h) k j a2 a1 kj
 rw[b1,b2]at this
 exact this
def zsX{cs ds:List Cl}{t:Int}(hp:cs.Perm ds)(hs:Srt t cs){rows:List Row}(pr:rows.Perm (rowsTo cs t cs.length))(sr:rows.Pairwise λr q=>rlt r q=true):RowsOf ds t rows:=by
 refine⟨sr,λr=>?_⟩
 rw[pr.mem_iff,ziN]
 constructor
 ·rintro⟨j,k,kj,jl,h⟩
  obtain⟨b,f,c1,c2,c3,c4,c5⟩:=zdL h
  exact⟨b,f,hp.mem_iff.mp (tE c1),hp.mem_iff.mp (tE c2),zoT hs c1 c2 kj,c3,c4,c5⟩
 ·rintro⟨b,f,hb,hf,ha,hm,h1,h2⟩
  obtain⟨j,hj,ej⟩:=t6 (hp.mem_iff.mpr hb)
  obtain⟨k,hk,ek⟩:=t6 (hp.mem_iff.mpr hf)
  have e1:cs[j]?=some b:=by rw[tj hj,ej]
  have e2:cs[k]?=some f:=by rw[tj hk,ek]
  have kj:k<j:=by
   rcases Nat.lt_trichotomy k j with z | z | z
   ·exact z
   ·subst z
    rw[e1]at e2
    cases e2
    exact(zbl ha ha).elim
   ·exact(zbl ha (zoT hs e2 e1 z)).elim
  refine⟨j,k,kj,hj,?_⟩
  unfold rowAt
  rw[e1,e2]
  show(mt b f t).map (λu=>(u,b.n,f.n))=some r
  rw[hm]
  obtain⟨r1,r2,r3⟩:=r
  simp at h1 h2
  subst h1 h2
  rfl
structure IsRows(H:Hp)(l:Addr)(rs:List (Addr × Row)):Prop where
 at_:H l=some (.lst (rs.map λr=>V.ref r.1))
 rw:∀r,r∈rs->H r.1=some (.tup ((Row.key r.2).map V.int))
def IsRows.same{H H':Hp}{l:Addr}{rs:List (Addr × Row)}(s:Same H H')(h:IsRows H l rs):IsRows H' l rs:=⟨s _ _ h.at_,λr hr=>s _ _ (h.rw r hr)⟩
def zoU{rs:List (Addr × Row)}{p:List Nat}(d:Addr × Row)(h:p.Perm (List.range rs.length))(hs:∀i j,i<j->j<p.length->HT.lexLt (rk (rs.map (·.2)) (p.getD i 0)) (rk (rs.map (·.2)) (p.getD j 0))=true):
    ((p.map λi=>rs.getD i d).map (·.2)).Pairwise λr q=>rlt r q=true:=by
 rw[t5,qR]
 intro i j hi hj ij
 rw[tm]at hi hj
 have lt:∀k (hk:k<p.length),p[k]<rs.length:=λk hk=>mem_range.mp (h.mem_iff.mp (sI hk))
 have z:=hs i j ij hj
 rw[tK,tK,tj hi,tj hj]at z
 have z:HT.lexLt (rk (rs.map (·.2)) p[i]) (rk (rs.map (·.2)) p[j])=true:=z
 unfold rk at z
 rw[getElem?_map,getElem?_map,tj (lt i hi),tj (lt j hj)]at z
 rw[getElem_map,getElem_map]
 have e:∀k (hk:k<p.length),rs.getD p[k] d=rs[p[k]]'(lt k hk):=λk hk=>by
  rw[tK,tj (lt k hk)]
  rfl
 show rlt (rs.getD p[i] d).2 (rs.getD p[j] d).2=true
 rw[e i hi,e j hj]
 exact z
def Nols(H H':Hp):Prop:=∀b o,(∀xs,o≠HO.lst xs)->H b=some o->H' b=some o
def Same.nols{H H':Hp}(s:Same H H'):Nols H H':=λb o _ e=>s b o e
theorem zhG{α:Type}{K:PySem.W.Frag}{a:Addr}{xs:List V}{js:List Nat}{tc:TT}{te:TE}{σ:St}{H1:Hp}{Q:VK}(p:Nat->Bool)(f:Nat -> α)(W:Hp->Addr -> α->Prop)(mono:∀H H' u c,Nols H H'->W H u c->W H' u c)(hl:SqL K H1 a xs)
  (ht:∀i x Hh (Q':Bool->Hp->Prop),xs[i]?=some x->Same H1 Hh->(∀Hh',Same Hh Hh'->Q' (p i) Hh')->tc (some x::caps σ js) Hh Q')
  (he:∀i x Hh (Q':VK),xs[i]?=some x->p i=true->Same H1 Hh->(∀b Hh',Same Hh Hh'->W Hh' b (f i)->Q' (.ref b) Hh')->te (some x::caps σ js) Hh Q')
  (hz:xs.length<sizeLine) (q:∀D H2 (bs:List (Addr × α)),Same H1 H2->H1 D=none->H2 D=some (.lst (bs.map λb=>V.ref b.1))->bs.map (·.2)=((List.range xs.length).filter p).map f->(∀b,b∈bs->W H2 b.1 b.2)->Q (.ref D) H2):
  zdK (Itl K a) js tc te σ H1 Q:=by
 intro D H2 s2 hD h2
 refine⟨λi m acc H3=>m=xs.length-i/\i<=xs.length/\∃bs:List (Addr × α),acc=(bs.map λb=>V.ref b.1)/\bs.map (·.2)=((List.range i).filter p).map f/\(∀b,b∈bs->W H3 b.1 b.2)/\Same H1 H3/\H3 D=some (.lst acc),⟨_,rfl,tV _,[],rfl,by simp,λb hb=>by simp at hb,s2,h2⟩,?_⟩
 rintro i m acc H3 ⟨rfl,hi,bs,ea,eb,hb,s3,h3⟩
 have hl3:SqL K H3 a xs:=s3.seq hl
 have hll:acc.length<=xs.length:=by
  have e:=tW List.length eb
  rw[tm,tm]at e
  rw[ea,tm,e]
  refine tU (sf _ _) ?_
  rw[qm]
  exact hi
 refine⟨h3,by omega,?_⟩
 by_cases hlt:i<xs.length
 ·have hx:xs[i]?=some xs[i]:=tj hlt
  refine .inr ⟨⟨xs,_,hl3,hx⟩,λy H4 z=>?_⟩
  obtain⟨e,ey⟩:=z
  have ey2:=ey xs hl3
  subst e
  refine ht i y _ _ ey2 s3 λH5 s5=>?_
  have h5:=s5 _ _ h3
  have s35:=s3.trans s5
  have tk:(List.range (i+1)).filter p=(List.range i).filter p++(if p i=true then[i]else[]):=by
   rw[oi,qu]
   congr 1
   cases h:p i<;>simp[h]
  cases hp:p i with
  | true=>
    refine iteT (he i y _ _ ey2 hp s35 λb6 H6 s6 g6=>⟨s6 _ _ h5,λH7 k7 h7=>⟨xs.length-(i+1),by omega,rfl,hlt,bs++[(b6,f i)],?_,?_,λb hb'=>?_,λb o e=>?_,h7⟩⟩)
    ·rw[ea,t4]
     rfl
    ·rw[t4,eb,tk,hp,if_pos rfl,t4]
     rfl
    ·have nD:Nols H6 H7:=λc t nl g=>k7 _ _ (λz=>by
      rw[z,s6 _ _ h5]at g
      exact nl _ (tL g).symm) g
     rcases mem_append.mp hb' with h | h
     ·exact mono _ _ _ _ nD (mono _ _ _ _ ((s5.trans s6).nols) (hb b h))
     ·rw[mem_singleton.mp h]
      exact mono _ _ _ _ nD g6
    ·by_cases hbD:b=D
     ·subst hbD
      rw[hD]at e
      cases e
     ·exact k7 b o hbD (s6 b o (s35 b o e))
  | false=>
    refine iteF ⟨xs.length-(i+1),by omega,rfl,hlt,bs,ea,?_,λb h=>mono _ _ _ _ s5.nols (hb b h),s35,h5⟩
    rw[eb,tk,hp,if_neg tG,rE]
 ·have e:i=xs.length:=by omega
  subst e
  refine .inl ⟨⟨xs,hl3,tF _⟩,?_⟩
  rw[ea]at h3
  exact q D _ bs s3 hD h3 eb hb
def zfq{K:am}{a:Addr}{xs:List V}{js:List Nat}{tc:TT}{te:TE}{σ:St}{H1:Hp}{Q:VK}(p:Nat->Bool)(f:Nat->List V)(hl:SqL K H1 a xs)
    (ht:∀i x Hh (Q':Bool->Hp->Prop),xs[i]?=some x->Same H1 Hh->(∀Hh',Same Hh Hh'->Q' (p i) Hh')->tc (some x::caps σ js) Hh Q')
    (he:∀i x Hh (Q':VK),xs[i]?=some x->p i=true->Same H1 Hh->(∀b Hh',Same Hh Hh'->Hh' b=some (.tup (f i))->Q' (.ref b) Hh')->te (some x::caps σ js) Hh Q')
    (hz:xs.length<sizeLine) (q:∀D H2 (bs:List (Addr × List V)),Same H1 H2->H1 D=none->H2 D=some (.lst (bs.map λb=>V.ref b.1))->bs.map (·.2)=((List.range xs.length).filter p).map f->(∀b,b∈bs->H2 b.1=some (.tup b.2))->Q (.ref D) H2):
    zdK (Itl K a) js tc te σ H1 Q:=
 zhG p f (λH u c=>H u=some (.tup c)) (λH H' u c t h=>t _ _ (λ_ z=>by cases z) h) hl ht he hz q
section
variable{X:Cx}{K:am}
def rIsC(K:am)(C:Addr):List V->Hp->VK->Prop:=λxs H Q=>∃x t b,xs=[x,.ref C]/\TyX K H x t/\W.kitOne K t (.ref C)=some b/\Q (.bl b) H
def ziO{C:Addr}(hK:X.K=K):zdH X (.builtin "isinstance") (rIsC K C):=hK▸zhx (C:=C)
end
section
variable{X:Cx}
def zuC:TE:=λ_ H Q=>∀p H2,Same H H2->H p=none->H2 p=some (.dK [])->Q (.ref p) H2
theorem zfr{pos:Pos}:PE X (.Dict [] [] pos) zuC:=by
 with_unfolding_all
  exact λai s σ H Q I h=>zqw ai s σ H Q I λp n=>h p _ (zbs n _) n zar
end
def zoV:Expr->Bool
 | .Starred .. => true
 | _=>false
def zne{e:Expr}(h:zoV e=false)(rest:List Expr)(env:Env):starEach (e::rest) env=(false,eval e env)::starEach rest env:=by
 cases e<;>first | rfl | cases h
section
variable{X:Cx}
def zqT{e:Expr}{es:List Expr}{te:TE}{t:TA}(ha:PE X e te)(hr:PA X es t)(hs:zoV e=false:=by rfl):PA X (e::es) (aZ te t):=zaa ha hr (zne hs es X.env)
end
theorem zle{k:Int}:∀{ns:List Int},inV (.int k) (ns.map V.int)=decide (k∈ns)
 | []=>by simp[inV]
 | n::ns=>by
   have ih:=zle (k:=k) (ns:=ns)
   unfold inV at ih ⊢
   rw[t3,qS,ih]
   by_cases e:k=n
   ·subst e
    simp[eqV]
   ·simp[eqV,e,Ne.symm e]
def tak{α:Type}(xs:List α)(P : α->Bool)(i:Nat):Bool:=match xs[i]? with
 | some x=>P x
 | none=>false
theorem zdM{α:Type}(P : α->Bool)(g : α->V):∀xs:List α,((List.range xs.length).filter (tak xs P)).map (itm xs g)=(xs.filter P).map g
 | []=>rfl
 | x::xs=>by
   rw[length_cons,sV,se,sM]
   have e1:(tak (x::xs) P ∘ Nat.succ)=tak xs P:=rfl
   have e2:∀l:List Nat,(l.map Nat.succ).map (itm (x::xs) g)=l.map (itm xs g):=λl=>by
    rw[t5]
    rfl
   rw[e1,se]
   have e3:tak (x::xs) P 0=P x:=rfl
   rw[e3]
   cases P x with
   | true=>
     rw[if_pos rfl,if_pos rfl,t3,t3,e2,zdM P g xs]
     rfl
   | false=>
     rw[if_neg tG,if_neg tG,e2,zdM P g xs]
def itl{α:Type}(xs:List α)(g : α->List V)(i:Nat):List V:=match xs[i]? with
 | some x=>g x
 | none=>[]
theorem zfX{α:Type}(P : α->Bool)(g : α->List V):∀xs:List α,((List.range xs.length).filter (tak xs P)).map (itl xs g)=(xs.filter P).map g
 | []=>rfl
 | x::xs=>by
   rw[length_cons,sV,se,sM]
   have e1:(tak (x::xs) P ∘ Nat.succ)=tak xs P:=rfl
   have e2:∀l:List Nat,(l.map Nat.succ).map (itl (x::xs) g)=l.map (itl xs g):=λl=>by
    rw[t5]
    rfl
   rw[e1,se]
   have e3:tak (x::xs) P 0=P x:=rfl
   rw[e3]
   cases P x with
   | true=>
     rw[if_pos rfl,if_pos rfl,t3,t3,e2,zfX P g xs]
     rfl
   | false=>
     rw[if_neg tG,if_neg tG,e2,zfX P g xs]
section
variable{X:Cx}
@[irreducible] def PAi(X:Cx)(es:List Expr)(t:TA):Prop:=PA X es t
def zbd:PAi X [] tNil:=by
 unfold PAi
 exact zae
def zag{e:Expr}{es:List Expr}{te:TE}{t:TA}(ha:PE X e te)(hr:PAi X es t)(hs:zoV e=false:=by rfl):PAi X (e::es) (aZ te t):=by
 unfold PAi at *
 exact zqT ha hr hs
def pai{es:List Expr}{t:TA}(h:PAi X es t):PA X es t:=by
 unfold PAi at h
 exact h
end
theorem zhc{b f:Cl}(hn:b.n≠f.n){t u:Int}:(ahd f b t=true/\mt b f t=some u)↔(t<u/\ahd f b (u-1)=true/\ahd b f u=true):=by
 constructor
 ·rintro⟨_,h⟩
  cases zoR h with
  | at_ _ h1 h2 h3=>
    refine⟨h1,?_,h2⟩
    rw[zbI hn,h3 (u-1) (by omega) (by omega)]
    rfl
 ·rintro⟨h1,h2,h3⟩
  have bw:∀v,t<=v->v<u->ahd b f v=false:=λv tv vu=>by
   cases e:ahd b f v with
   | false=>rfl
   | true=>
     have e1:ahd f b v=false:=by rw[zbI hn,e];rfl
     exact(zbl h3 (bK e1 h2 (by omega) (by omega))).elim
  refine⟨?_,zoQ (.at_ u h1 h3 bw)⟩
  rw[zbI hn,bw t (by omega) h1]
  rfl
def Walk(cs:List Cl)(r:Row):Prop:=∃b f,b∈cs/\f∈cs/\b.n≠f.n/\ahd f b (r.1-1)=true/\ahd b f r.1=true/\r.2.1=b.n/\r.2.2=f.n
def aG{cs:List Cl}(g:Good cs){b f:Cl}(hb:b∈cs)(hf:f∈cs)(e:b.n=f.n):b=f:=by
 obtain⟨j,hj,ej⟩:=t6 hb
 obtain⟨k,hk,ek⟩:=t6 hf
 by_cases z:j=k
 ·subst z
  exact ej.symm.trans ek
 ·exact(aJ g (List.getElem?_eq_some_iff.mpr ⟨hj,ej⟩) (List.getElem?_eq_some_iff.mpr ⟨hk,ek⟩) z e).elim
def zoW{cs:List Cl}(g:Good cs){t:Int}{r:Row}:(∃b f,b∈cs/\f∈cs/\ahd f b t=true/\mt b f t=some r.1/\r.2.1=b.n/\r.2.2=f.n)↔t<r.1/\Walk cs r:=by
 constructor
 ·rintro⟨b,f,hb,hf,h1,h2,h3,h4⟩
  have hn:b.n≠f.n:=λe=>by
   have:=aG g hb hf e
   subst this
   exact zbl h1 h1
  obtain⟨z1,z2,z3⟩:=(zhc hn).mp ⟨h1,h2⟩
  exact⟨z1,b,f,hb,hf,hn,z2,z3,h3,h4⟩
 ·rintro⟨z1,b,f,hb,hf,hn,z2,z3,h3,h4⟩
  obtain⟨h1,h2⟩:=(zhc hn).mpr ⟨z1,z2,z3⟩
  exact⟨b,f,hb,hf,h1,h2,h3,h4⟩
def RowsOf.walk{cs:List Cl}(g:Good cs){t:Int}{rows:List Row}(h:RowsOf cs t rows)(r:Row):r∈rows↔t<r.1/\Walk cs r:=(h.mem r).trans (zoW g)
structure Betw(cs:List Cl)(t u:Int)(rows:List Row):Prop where
 srt:rows.Pairwise λr q=>rlt r q=true
 mem:∀r:Row,r∈rows↔(t<r.1/\r.1<=u)/\Walk cs r
def RowsOf.betw{cs:List Cl}(g:Good cs){t:Int}{rows:List Row}(h:RowsOf cs t rows)(u:Int):Betw cs t u (rows.filter λr=>decide (r.1<=u)):=by
 refine⟨h.srt.filter _,λr=>?_⟩
 rw[mem_filter,h.walk g,tZ]
 constructor
 ·rintro⟨⟨a,b⟩,c⟩
  exact⟨⟨a,c⟩,b⟩
 ·rintro⟨⟨a,b⟩,c⟩
  exact⟨⟨a,c⟩,b⟩
theorem eB:∀{xs ys:List Row},xs.Pairwise (λr q=>rlt r q=true)->ys.Pairwise (λr q=>rlt r q=true)->(∀r,r∈xs↔r∈ys)->xs=ys
 | [],[],_,_,_=>rfl
 | [],y::ys,_,_,h=>by
   have:=(h y).mpr (by simp)
   cases this
 | x::xs,[],_,_,h=>by
   have:=(h x).mp (by simp)
   cases this
 | x::xs,y::ys,hx,hy,h=>by
   rw[pairwise_cons]at hx hy
   have irr:∀{r q:Row},rlt r q=true->rlt q r=true->False:=λa b=>by
    rw[bO a]at b
    cases b
   have e:x=y:=by
    rcases mem_cons.mp ((h x).mp (by simp))with z | z
    ·exact z
    ·rcases mem_cons.mp ((h y).mpr (by simp))with w | w
     ·exact w.symm
     ·exact(irr (hy.1 _ z) (hx.1 _ w)).elim
   subst e
   have nx:∀r,r∈xs->r≠x:=λr hr z=>by
    subst z
    exact irr (hx.1 _ hr) (hx.1 _ hr)
   have ny:∀r,r∈ys->r≠x:=λr hr z=>by
    subst z
    exact irr (hy.1 _ hr) (hy.1 _ hr)
   rw[eB hx.2 hy.2 λr=>⟨λz=>(mem_cons.mp ((h r).mp (tO _ z))).resolve_left (nx r z),λz=>(mem_cons.mp ((h r).mpr (tO _ z))).resolve_left (ny r z)⟩]
def zqU{rows:List Row}(sr:rows.Pairwise λr q=>rlt r q=true){u:Int}{r0:Row}{rest:List Row}(e:rows=r0::rest):
    ((rows.filter λr=>decide (r.1<=u))=[]/\u<r0.1)\/(∃rest',(rows.filter λr=>decide (r.1<=u))=r0::rest'/\((r0::rest').filter λr=>decide (r.1=r0.1))=rows.filter λr=>decide (r.1=r0.1)):=by
 subst e
 by_cases z:r0.1<=u
 ·right
  refine⟨rest.filter λr=>decide (r.1<=u),?_,?_⟩
  ·rw[se,if_pos (by simpa using z)]
  ·have e:(r0::rest.filter λr=>decide (r.1<=u))=(r0::rest).filter λr=>decide (r.1<=u):=by rw[se,if_pos (by simpa using z)]
   rw[e,List.filter_filter]
   apply List.filter_congr
   intro r hr
   by_cases q:r.1=r0.1
   ·have:r.1<=u:=by omega
    simp[q,z]
   ·simp[q]
 ·left
  refine⟨?_,by omega⟩
  rw[List.filter_eq_nil_iff]
  intro r hr
  have:r0.1<=r.1:=by
   rcases mem_cons.mp hr with q | q
   ·rw[q]
    omega
   ·have:=(pairwise_cons.mp sr).1 r q
    rw[zhF]at this
    omega
  rw[tZ]
  omega
end L2
namespace L2
open PySem
theorem ul1{α:Type}{us:List α}(h:us.length=1):∃a1,us=[a1]:=by
 match us,h with
 | [a1],_=>exact⟨a1,rfl⟩
theorem ul2{α:Type}{us:List α}(h:us.length=2):∃a1 a2,us=[a1,a2]:=by
 match us,h with
 | [a1,a2],_=>exact⟨a1,a2,rfl⟩
theorem ul3{α:Type}{us:List α}(h:us.length=3):∃a1 a2 a3,us=[a1,a2,a3]:=by
 match us,h with
 | [a1,a2,a3],_=>exact⟨a1,a2,a3,rfl⟩
theorem ul4{α:Type}{us:List α}(h:us.length=4):∃a1 a2 a3 a4,us=[a1,a2,a3,a4]:=by
 match us,h with
 | [a1,a2,a3,a4],_=>exact⟨a1,a2,a3,a4,rfl⟩
theorem ul5{α:Type}{us:List α}(h:us.length=5):∃a1 a2 a3 a4 a5,us=[a1,a2,a3,a4,a5]:=by
 match us,h with
 | [a1,a2,a3,a4,a5],_=>exact⟨a1,a2,a3,a4,a5,rfl⟩
theorem ul6{α:Type}{us:List α}(h:us.length=6):∃a1 a2 a3 a4 a5 a6,us=[a1,a2,a3,a4,a5,a6]:=by
 match us,h with
 | [a1,a2,a3,a4,a5,a6],_=>exact⟨a1,a2,a3,a4,a5,a6,rfl⟩
theorem ul7{α:Type}{us:List α}(h:us.length=7):∃a1 a2 a3 a4 a5 a6 a7,us=[a1,a2,a3,a4,a5,a6,a7]:=by
 match us,h with
 | [a1,a2,a3,a4,a5,a6,a7],_=>exact⟨a1,a2,a3,a4,a5,a6,a7,rfl⟩
end L2
namespace L2
open PySem PySem.Spec PyProof.Rows
def Cl.at(d:Cl)(x:Int):Cl:=⟨d.n,d.wt,d.wb,d.st,d.sb,x⟩
def ovr(c d:Cl)(t:Int):Bool:=decide (0<gap d c t)
def abl(c d:Cl)(x u:Int):Bool:=ovr c (d.at x) x||ovr c (d.at x) u
inductive LastAt(c d:Cl)(b u:Int):V->Prop
 | no:(∀x,b<=x->x<=u->abl c d x u=false)->LastAt c d b u .non
 | at (r:Int):b<=r->r<=u->abl c d r u=true->(∀x,r<x->x<=u->abl c d x u=false)->LastAt c d b u (.int r)
section
variable{X:Cx}
end
def CompScopeN.of{X:Cx}{scope:Scope}{nk:Nat}{N:List Str}{js:List Nat}(c1:scope.kind=.function)(c2:(scope.names.all λy=>y.2 != .cell)=true)
    (c3:(scope.names.all λy=>y.2 != .local||scope.names.lookup y.1==some .local)=true) (c4:((N.take nk).all λx=>scope.names.lookup x==some .local)=true) (c5:(scope.names.all λy=>y.2 != .free||X.env.kindOf y.1==some .cell)=true)
    (nd:N.Nodup) (len:N.length=js.length+nk) (c6:(scope.names.all λy=>y.2 != .free||scope.names.lookup y.1 != some .local)=true)
    (c7:(((N.drop nk).zip js).all λp=>X.N[p.2]?==some p.1&&X.env.scope.names.lookup p.1==some .cell&&scope.names.contains (p.1,NameKind.free))=true):CompScopeN X scope nk N js where
 kind:=c1
 nocell:=λy hy e=>by
  have:=all_eq_true.mp c2 y hy
  rw[e]at this
  exact absurd this (by decide)
 loc:=λy hy e=>by
  have:=all_eq_true.mp c3 y hy
  rw[e]at this
  simpa using this
 own:=λi x e h=>by
  have m:x∈N.take nk:=tE (i:=i) (by rw[List.getElem?_take,if_pos h];exact e)
  simpa using all_eq_true.mp c4 x m
 free:=λy hy e=>by
  have:=all_eq_true.mp c5 y hy
  rw[e]at this
  simpa using this
 nd:=nd
 len:=len
 apart:=λy hl hm=>by
  have:=all_eq_true.mp c6 _ hm
  rw[hl]at this
  simp at this
 cap:=λk j y h1 h2=>by
  have hz:((N.drop nk).zip js)[k]?=some (y,j):=by
   rw[qc]
   exact⟨by rw[List.getElem?_drop,Nat.add_comm];exact h1,h2⟩
  have:=all_eq_true.mp c7 _ (tE hz)
  simp only[Bool.and_eq_true,beq_iff_eq]at this
  obtain⟨⟨a,b⟩,c⟩:=this
  exact⟨a,.inr (.inl b),b,by simpa using c⟩
def zqV{X:Cx}{iter elt tg:Expr}{nk:Nat}{g:TG}{ifs:List Expr}{scope:Scope}{pos:Pos}{wi:TI}{N:List Str}{js:List Nat}{tc:TT}{te:TE}
    (hc:X.calm=true) (S:CompScopeN X scope nk N js) (hg:∀cl C s₀ H₀ ex,(∀(i:Nat)(x:Str)(px:Pos),N[i]?=some x->i<nk->PG (av X N scope cl C s₀ H₀ ex) (.Name x px) (zjD i))->PG (av X N scope cl C s₀ H₀ ex) tg g) (hi:PI X tg iter wi)
    (ht:∀cl C s₀ H₀ ex,zhw (av X N scope cl C s₀ H₀ ex) ifs tc) (he:∀cl C s₀ H₀ ex,PE (av X N scope cl C s₀ H₀ ex) elt te)
    (hs:∀x,foldedSetIterable iter X.env x=pure x:=by intro _;rfl):
    PE X (.ListComp elt [⟨tg,iter,ifs,0⟩] scope pos) (zuh wi nk g js tc te):=by
 with_unfolding_all
  intro ai s σ H Q I h
  rw[eval_ListComp]
  exact ziH (Q:=Q) hc S hg hi ht he hs I h (λ_ _ r=>r) λol hC hD below I2 f2 I5 qn a=>zmd below I2 f2 I5 qn
section
variable{X:Cx}
def rEqE(K:am):R2:=λx y H Q=>∃a b xs,x=.ref a/\y=.ref b/\SqL K H a xs/\SqL K H b []/\Q (.bl xs.isEmpty) H
theorem zuD(hu:X.A.units<cLine):OpR X (compareOp .Eq) (rEqE X.K):=by
 intro ai s σ H x y v u Q I rx ry h
 obtain⟨a,b,xs,rfl,rfl,hx,hy,q⟩:=h
 cases xs with
 | nil=>exact zhv hu ai s σ H _ _ v u Q I rx ry ⟨a,b,[],[],rfl,rfl,hx,hy,rfl,rfl,q⟩
 | cons z zs=>
   cases rx
   cases ry
   obtain⟨its,r,pl,hz⟩:=I.list hx
   obtain⟨its2,r2,pl2,hz2⟩:=I.list hy
   have e1:its.toArray.size=zs.length+1:=by simp[<-r.length]
   have e2:its2.toArray.size=0:=by simp[<-r2.length]
   refine SeqAt.eq_list_lengthsAt pl.isList pl2.isList ?_ hu ⟨.bl _,H,I,rfl,q⟩
   rw[e1,e2]
   simp
theorem zoX(hu:X.A.units<cLine):OpR X (compareOp .NotEq) (λx y H Q=>∃a b xs,x=.ref a/\y=.ref b/\SqL X.K H a xs/\SqL X.K H b []/\Q (.bl (!xs.isEmpty)) H):=by
 intro ai s σ H x y v u Q I rx ry h
 obtain⟨a,b,xs,rfl,rfl,hx,hy,q⟩:=h
 cases xs with
 | nil=>exact zop hu ai s σ H _ _ v u Q I rx ry ⟨a,b,[],[],rfl,rfl,hx,hy,rfl,rfl,q⟩
 | cons z zs=>
   cases rx
   cases ry
   obtain⟨its,r,pl,hz⟩:=I.list hx
   obtain⟨its2,r2,pl2,hz2⟩:=I.list hy
   have e1:its.toArray.size=zs.length+1:=by simp[<-r.length]
   have e2:its2.toArray.size=0:=by simp[<-r2.length]
   refine SeqAt.RcNeAt.lists_lengths pl.isList pl2.isList ?_ hu X.prog X.w X.xe _ ⟨.bl _,H,I,rfl,q⟩
   rw[e1,e2]
   simp
end
theorem zqW{K:am}{H:Hp}{n:Nat}:∀{bs cs:List (Addr × List V)},bs.map (·.2)=cs.map (·.2)->(∀b,b∈bs->H b.1=some (.tup b.2)/\b.2.all zcd=true)->(∀c,c∈cs->H c.1=some (.tup c.2))->
  ∀(j:Nat) u v,(bs.map λb=>V.ref b.1)[j]?=some u->(cs.map λb=>V.ref b.1)[j]?=some v->Deq K H (n+1) u v:=by
 intro bs cs e hb hc j u v hu hv
 rw[getElem?_map]at hu hv
 cases e1:bs[j]? with
 | none=>rw[e1]at hu;cases hu
 | some b=>
   cases e2:cs[j]? with
   | none=>rw[e2]at hv;cases hv
   | some c=>
     rw[e1]at hu
     rw[e2]at hv
     cases hu
     cases hv
     have ee:b.2=c.2:=by
      have:=tW (λl:List (List V)=>l[j]?) e
      simp[e1,e2]at this
      exact this
     obtain⟨g1,fl⟩:=hb b (tE e1)
     have g2:=hc c (tE e2)
     refine Deq.tup (SqT.of g1) (SqT.of g2) (by rw[ee]) λi x y hx hy=>?_
     rw[<-ee,hx]at hy
     cases hy
     exact Deq.flat n (all_eq_true.mp fl _ (tE hx))
theorem len2{os:St}(h:os.length=2):∃a b,os=[a,b]:=by
 match os,h with
 | [a,b],_=>exact⟨a,b,rfl⟩
section
variable{pg:Program}{wd:World}{Ar:Around}{Rs:Result->Shared->Prop}{It:Addr}{fp wr:List Addr}{n:Nat}{Pv:Nat->Value->Prop}{Sv:Nat->Heap->Prop}
def bD:(toString "max" ++ toString ".loop" : String) = "max.loop" := by decide
theorem zsY(Wk:Walks pg wd Ar.in1 It fp wr n Pv Sv)(bt:Nat->Nat->Bool)(cm:CmpOf pg wd Ar.in1 .Gt Pv bt)(Bs:Addr)(nB:Bs∉fp)(kws:List (Str × Value)):
  ∀(m i:Nat)(sh:Shared)(x:Value)(c:Nat),n-(i+1)=m->i+1<=n->Sv (i+1) sh.heap->Pv (argBest bt i) x->sh.heap.get? Bs=some { cls:=.type "list",dict:=none,data:=.seq #[x,x] c,slots := #[] }->
  (∀y hh t,Pv (argBest bt (n-1)) y->(∀b o,b∉wr->b≠Bs->sh.heap.get? b=some o->hh.get? b=some o)->Rs (.ok (.ret y)) { sh with heap:=hh,toks:=t })->
  codeAny (model pg wd) Ar (.builtin "max.loop" ⟨[.ref It,.none,.ref Bs],kws⟩) Rs sh:=by
 have nW:Bs∉wr:=λz=>nB (Wk.sub _ z)
 intro m
 induction m with
 | zero=>
   intro i sh x c em le sv px hB fin
   have en:i+1=n:=by omega
   refine sY pR ?_;rw[sJ rh _]
   show wpAny _ Ar.in1 (seqItems? (.ref Bs) >>= _) _ _ sh
   refine tD (wpAny_seqItems hB rfl ?_)
   show wpAny _ Ar.in1 (tryCatch (pyNext (.ref It)) _ >>= _) _ _ sh
   refine tD (qe (Wk.done sh _ _ (en▸sv) λhh t kept=>?_))
   have hB2:=kept Bs _ nW hB
   show wpAny _ Ar.in1 (updateSeq Bs (λ_ => #[]) >>= _) _ _ _
   refine tD (wpAny_updateSeq hB2 rfl (tD (pL (tH ?_))))
   exact fin x _ t (by rw[<-en];exact px) λb o z1 z2 e=>(sZ _ _ (Ne.symm z2)).trans (kept b o z1 e)
 | succ m ih=>
   intro i sh x c em le sv px hB fin
   have lt:i+1<n:=by omega
   refine sY pR ?_;rw[sJ rh _]
   show wpAny _ Ar.in1 (seqItems? (.ref Bs) >>= _) _ _ sh
   refine tD (wpAny_seqItems hB rfl ?_)
   show wpAny _ Ar.in1 (tryCatch (pyNext (.ref It)) _ >>= _) _ _ sh
   refine tD (qe (Wk.item (i+1) sh _ _ lt sv λy hh t py sv2 kept=>?_))
   have hB2:=kept Bs _ nW hB
   show wpAny _ Ar.in1 (tryCatch (holding [y,y] (richCompare .Gt y x >>= _)) _ >>= _) _ _ _
   refine tD (qe (t7 (tD (cm (i+1) (argBest bt i) y x _ _ _ py px ?_))))
   refine tD (t7 (ss (tD (pL (tH ?_)))))
   cases eb:bt (i+1) (argBest bt i) with
   | true=>
     simp only[if_true]
     refine tD (wpAny_updateSeq hB2 rfl (tD (pL ?_)))
     rw[bD]
     have other:∀{b:Addr}{o:Obj}{g:Obj->Obj}{h1:Heap},b≠Bs->h1.get? b=some o->(h1.update Bs g).get? b=some o:=λz e=>(sZ _ _ (Ne.symm z)).trans e
     refine tH ⟨qb rh _,ih (i+1) _ y _ (by omega) lt (Wk.frame _ _ _ sv2 λb z o e=>other (λq=>nB (q▸z)) e) (by simp only[argBest,eb,if_true];exact py) (qJ _ hB2 rfl) λy2 h2 t2 p2 k2=>?_⟩
     exact fin y2 h2 t2 p2 λb o z1 z2 e=>k2 b o z1 z2 (other z2 (kept b o z1 e))
   | false=>
     simp only[Bool.false_eq_true,if_false];refine tD (pL ?_)
     rw[bD]
     refine tH ⟨qb rh _,ih (i+1) _ x c (by omega) lt sv2 (by simp only[argBest,eb,Bool.false_eq_true,if_false];exact px) hB2 λy2 h2 t2 p2 k2=>?_⟩
     exact fin y2 h2 t2 p2 λb o z1 z2 e=>k2 b o z1 z2 (kept b o z1 e)
def zqX(Wk:Walks pg wd Ar.in1 It fp wr n Pv Sv)(bt:Nat->Nat->Bool)(cm:CmpOf pg wd Ar.in1 .Gt Pv bt)(Bs:Addr)(nB:Bs∉fp)(d:Value){sh:Shared}{c:Nat}(sv:Sv 0 sh.heap)
    (hB:sh.heap.get? Bs=some { cls:=.type "list",dict:=none,data:=.seq #[] c,slots := #[] })
    (fin:∀y hh t,(n=0/\y=d\/0<n/\Pv (argBest bt (n-1)) y)->(∀b o,b∉wr->b≠Bs->sh.heap.get? b=some o->hh.get? b=some o)->Rs (.ok (.ret y)) { sh with heap:=hh,toks:=t }):
    codeAny (model pg wd) Ar (.builtin "max.loop" ⟨[.ref It,.none,.ref Bs],[("default",d)]⟩) Rs sh:=by
 have nW:Bs∉wr:=λz=>nB (Wk.sub _ z)
 refine sY pR ?_;rw[sJ rh _]
 show wpAny _ Ar.in1 (seqItems? (.ref Bs) >>= _) _ _ sh
 refine tD (wpAny_seqItems hB rfl ?_)
 show wpAny _ Ar.in1 (tryCatch (pyNext (.ref It)) _ >>= _) _ _ sh
 by_cases n0:n=0
 ·subst n0
  refine tD (qe (Wk.done sh _ _ sv λhh t kept=>?_))
  refine tD (wpAny_rule ?_)
  exact tH (fin d hh t (.inl ⟨rfl,rfl⟩) λb o z1 _ e=>kept b o z1 e)
 ·have np:0<n:=by omega
  refine tD (qe (Wk.item 0 sh _ _ np sv λy hh t py sv2 kept=>?_))
  have hB2:=kept Bs _ nW hB
  show wpAny _ Ar.in1 (updateSeq Bs (λ_ => #[y,y]) >>= _) _ _ _
  refine tD (wpAny_updateSeq hB2 rfl ?_)
  rw[bD]
  have other:∀{b:Addr}{o:Obj}{g:Obj->Obj}{h1:Heap},b≠Bs->h1.get? b=some o->(h1.update Bs g).get? b=some o:=λz e=>(sZ _ _ (Ne.symm z)).trans e
  refine tH ⟨qb rh _,zsY Wk bt cm Bs nB _ _ 0 _ y _ rfl np (Wk.frame _ _ _ sv2 λb z o e=>other (λq=>nB (q▸z)) e) py (qJ _ hB2 rfl) λy2 h2 t2 p2 k2=>?_⟩
  exact fin y2 h2 t2 (.inr ⟨np,p2⟩) λb o z1 z2 e=>k2 b o z1 z2 (other z2 (kept b o z1 e))
end
section
variable{X:Cx}
def zvI(ta:TA)(td:TE):TE:=λσ H Q=>ta σ H λvs H1=>∃(a:Addr)(ns:List Int),vs=[.ref a]/\SqL X.K H1 a (ns.map V.int)/\td σ H1 λx H2=>∃d:Int,x=.int d/\SqL X.K H2 a (ns.map V.int)/\∀M,(ns=[]/\M=d\/M∈ns/\∀y,y∈ns->y<=M)->Q (.int M) H2
def zsZ{Q:ac}{Ar:Around}{E:ac}{pg:Program}{wd:World}{l:Addr}{xs:Array (Int × Tok)}{s:Shared}{d:Value}(hh:Ar.handled=none)(hl:s.heap.IsList l (intItems xs))
    (fin:∀y h' t,(xs.size=0/\y=d\/0<xs.size/\(intItems xs)[argBest (λi j=>decide (numAt xs i > numAt xs j)) (xs.size-1)]?=some y)->(∀b o,s.heap.get? b=some o->h'.get? b=some o)->Q y { s with heap:=h',toks:=t }):
    wpAny (model pg wd) Ar (call (.builtin "max") [.ref l] [("default",d)]) Q E s:=by
 refine kmb_tree F.kind_max F.plain_max F.entry_max (by unfold argsOk;kernel_rfl) ?_
 show wpAny _ Ar.in1 (Builtin.Builtins.bindParams "max" ["key","default"] 0 ⟨[],[("default",d)]⟩ >>= _) _ _ s
 refine tD (wpAny_of_eq (show Builtin.Builtins.bindParams "max" ["key","default"] 0 ⟨[],[("default",d)]⟩=pure [none,some d]from rfl) ?_)
 refine tD (tH (tD (iter_intList hl λs₂ e st hfp hlI=>?_)))
 subst e
 refine tD (rF ?_)
 rw[bD]
 have W:=Walks.list (prog:=pg) (w:=wd) (A:=Ar.in1) hh s.heap.objs.size l hlI (intItems xs)
 have sz:(intItems xs).size=xs.size:=by simp[intItems]
 refine tH ⟨qb rh _,zqX W _ (CmpOf.ints_gt (numAt xs) λ_ _=>intItems_at) _ (λz=>rZ _ (hfp _ z)) d (W.frame _ _ _ st λb _ o e=>tz _ e) (tJ _ rfl) λy h' t hy hk=>?_⟩
 refine fin y h' t (by rw[sz]at hy;exact hy) (old_kept λb o z e=>hk b o z (tM (tI e)) (tz _ e))
def zta{sp pos kp:Pos}{e d:Expr}{ta:TA}{td:TE}(hc:X.calm=true)(hg:Gl X "max")(hm:X.mg "max" = none)(ha:PA X [e] ta)(hd:PE X d td)
    (hst:backTo pos (starEach [e] X.env)=(false,eval e X.env)::backTo pos (starEach [] X.env):=by rfl):
    PE X (.Call (.Name "max" sp) [e] [⟨some "default",d,kp⟩] pos) (zvI (X:=X) ta td):=by
 with_unfolding_all
  intro ai s σ H Q I h
  refine sH (zfk I hg hm zuc ?_)
  refine callWith_kw (thn (ha pos ai s σ H _ I h) λus s1 ⟨vs,H1,I1,r,q1⟩=>?_) hst (by rw[hst];rfl) rfl rfl
  obtain⟨a,ns,rfl,hl,q1⟩:=q1
  obtain⟨u,rfl,ru⟩:=zgU r
  cases ru
  refine kws_cons (thn (hd ai s1 σ H1 _ I1 q1) λv s2 ⟨x,H2,I2,rx,q2⟩=>kws_nil ?_)
  obtain⟨dn,rfl,hl2,q2⟩:=q2
  obtain⟨its,rv,p,hz⟩:=I2.list hl2
  have hi:IntsAre its ns:=zea rv
  obtain⟨xs,ex⟩:=hi.allInts.items
  have hns:ns=xs.toList.map (·.1):=by
   rw[<-hi.numsOf,<-nums_intItems,<-ex]
  have lns:ns.length=xs.size:=by rw[hns,tm,Array.length_toList]
  have hl3:=p.isList
  rw[ex]at hl3
  refine zsZ (I2.ok.hd hc) hl3 λy h' tk hy hk=>?_
  rcases hy with⟨z,rfl⟩ | ⟨hsz,hv⟩
  ·exact⟨.int dn,H2,I2.kept hk,rx,q2 dn (.inl ⟨rN (by omega),rfl⟩)⟩
  ·obtain⟨t,rfl⟩:=intItems_at hv
   obtain⟨h1,h2⟩:=argBest_gt (numAt xs) (xs.size-1)
   refine⟨.int _,H2,I2.kept hk,⟨_,rfl⟩,q2 _ (.inr ⟨?_,λy hy=>?_⟩)⟩
   ·rw[hns,numAt_eq];exact getD_mem (by rw[tm,Array.length_toList];omega)
   ·rw[hns]at hy
    obtain⟨j,hj,rfl⟩:=mem_getD hy
    rw[tm,Array.length_toList]at hj
    rw[<-numAt_eq];exact h2 j (by omega)
end
theorem ziP{b f:Cl}{t:Int}:∀n:Nat,ahd b f t=false->ahd b f (t+n)=true->∃u,t<u/\u<=t+n/\ahd b f (u-1)=false/\ahd b f u=true
 | 0,h0,h1=>by
   rw[Int.ofNat_zero,pA,h0]at h1
   cases h1
 | n+1,h0,h1=>by
   cases e:ahd b f (t+n) with
   | true=>
     obtain⟨u,u1,u2,u3,u4⟩:=ziP n h0 e
     exact⟨u,u1,by omega,u3,u4⟩
   | false=>
     refine⟨t+(n+1:Nat),by omega,rA _,?_,h1⟩
     rw[show t+((n+1:Nat):Int)-1=t+n by omega]
     exact e
def zrM(cs:List Cl)(t v:Int)(r:Row):Prop:=r.1=0/\∃b f,b∈cs/\f∈cs/\b.n≠f.n/\ahd f b t=true/\ahd b f v=true/\r.2.1=b.n/\r.2.2=f.n
theorem zev{cs:List Cl}{t v:Int}(tv:t<=v){r:Row}:zrM cs t v r↔r.1=0/\∃u:Int,t<u/\u<=v/\Walk cs (u,r.2):=by
 constructor
 ·rintro⟨r0,b,f,hb,hf,hn,h1,h2,e1,e2⟩
  refine⟨r0,?_⟩
  have h1':ahd b f t=false:=by rw[zbI (Ne.symm hn),h1];rfl
  obtain⟨u,u1,u2,u3,u4⟩:=ziP (v-t).toNat h1' (by rw[show t+(((v-t).toNat:Nat):Int)=v by omega];exact h2)
  refine⟨u,u1,by omega,b,f,hb,hf,hn,?_,u4,e1,e2⟩
  show ahd f b (u-1)=true
  rw[zbI hn,u3]
  rfl
 ·rintro⟨r0,u,u1,u2,b,f,hb,hf,hn,w1,w2,e1,e2⟩
  have w1:ahd f b (u-1)=true:=w1
  have w2:ahd b f u=true:=w2
  have w1':ahd b f (u-1)=false:=by rw[zbI (Ne.symm hn),w1];rfl
  refine⟨r0,b,f,hb,hf,hn,?_,bK w1' w2 (by omega) u2,e1,e2⟩
  cases e:ahd f b t with
  | true=>rfl
  | false=>exact(zbl (bK e w1 (by omega) (show u-1<=u by omega)) w2).elim
structure IsPrs(H:Hp)(l:Addr)(rs:List (Addr × Row)):Prop where
 at_:H l=some (.lst (rs.map λr=>V.ref r.1))
 rw:∀r,r∈rs->H r.1=some (.tup [.int r.2.2.1,.int r.2.2.2])
def ztb{c:Cl}(h:c.Ok){t:Int}(ht:c.came<=t)(t1:t<=1000000000000000):wtop c t<=100000000000000000000000:=by
 have a1:c.wt*c.sb<=1000000*12:=sy h.w1 h.s3 (by have:=h.s2;omega) (by decide)
 have a2:(t-c.came)*c.st<=1000000000000000*1000000:=sy (by have:=h.c0;omega) h.s1 h.s0 (by decide)
 have a3:(t-c.came)*c.st*c.wb<=1000000000000000*1000000*12:=sy a2 h.w3 (by have:=h.w2;omega) (by decide)
 unfold wtop
 omega
theorem zvJ{b f:Cl}(ob:b.Ok)(of:f.Ok){t u:Int}(bt:b.came<=t)(ft:f.came<=t)(t1:t<=1000000000000000)(hn:b.n≠f.n)(h:mt b f t=some u):u<=1000000000000000000000000000000:=by
 cases zoR h with
 | at_ _ h1 h2 h3=>
   have g1:=zcP b f t u
   have h0:=h3 t (rA _) h1
   have rp:1<=rate b f:=by
    refine Int.not_lt.mp λnp=>?_
    have le:(u-t)*rate b f<=0:=rc (by omega) (by omega)
    unfold ahd at h0 h2
    by_cases z0:gap b f t=0
    ·rw[if_pos z0]at h0
     by_cases z1:gap b f u=0
     ·rw[if_pos z1,h0]at h2
      cases h2
     ·rw[if_neg z1]at h2
      have:=tP h2
      omega
    ·rw[if_neg z0]at h0
     have:=su h0
     by_cases z1:gap b f u=0
     ·omega
     ·rw[if_neg z1]at h2
      have:=tP h2
      omega
   have gl : - gap b f t<=100000000000000000000000*144:=by
    have a1:=ztb of ft t1
    have a2:=ziI of ft
    have a3:=ziI ob bt
    have a4:=zbV of
    have a5:=zbV ob
    have a6:=zhz ob
    have a7:wtop f t*wbot b<=100000000000000000000000*144:=sy a1 a6 (by omega) (by decide)
    have a8:0<=wtop b t*wbot f:=sT a3 (by omega)
    unfold gap
    omega
   refine Int.le_of_not_gt λbig=>?_
   have g2:=zcP b f t (t+(100000000000000000000000*144+1))
   have a9:(100000000000000000000000*144+1)*1<=(100000000000000000000000*144+1)*rate b f:=Int.mul_le_mul_of_nonneg_left rp (by decide)
   rw[show t+(100000000000000000000000*144+1)-t=100000000000000000000000*144+1 by omega]at g2
   have z:=h3 (t+(100000000000000000000000*144+1)) (by omega) (by omega)
   unfold ahd at z
   rw[if_neg (by omega)]at z
   have:=su z
   omega
def RowsOf.le{cs:List Cl}(g:Good cs){t:Int}{rows:List Row}(h:RowsOf cs t rows)(ca:∀c,c∈cs->c.came<=t)(t1:t<=1000000000000000){r:Row}(hr:r∈rows):r.1<=1000000000000000000000000000000:=by
 obtain⟨b,f,hb,hf,h1,h2,_,_⟩:=(h.mem r).mp hr
 have hn:b.n≠f.n:=λe=>by
  have:=aG g hb hf e
  subst this
  exact zbl h1 h1
 exact zvJ (g.ok b hb) (g.ok f hf) (ca b hb) (ca f hf) t1 hn h2
theorem zka{cs:List Cl}(g:Good cs){t v:Int}(tv:t<=v)(no:∀u p,t<u->u<=v->¬Walk cs (u,p)):ord cs t=ord cs v:=by
 refine zmj g (zaU cs t) ?_
 have hs:=zlb g t
 refine qo (λ{c d} hc hd h=>?_) hs
 have hc:=(zaU cs t).mem_iff.mp hc
 have hd:=(zaU cs t).mem_iff.mp hd
 have hn:d.n≠c.n:=λe=>by
  have:=aG g hd hc e
  subst this
  exact zbl h h
 cases e:ahd c d v with
 | true=>rfl
 | false=>
   have e2:ahd d c v=true:=by rw[zbI (Ne.symm hn),e];rfl
   obtain⟨_,u,u1,u2,wk⟩:=(zev tv).mp (show zrM cs t v (0,d.n,c.n)from⟨rfl,d,c,hd,hc,hn,h,e2,rfl,rfl⟩)
   exact(no u _ u1 u2 wk).elim
structure IsCh(K:am)(H:Hp)(p:Addr)(x:Cl × Int):Prop where
 ex:∃pc,H p=some (.tup [.ref pc,.int x.2])/\IsCl K H pc x.1
def IsCh.same{K:am}{H H':Hp}{p:Addr}{x:Cl × Int}(s:Same H H')(h:IsCh K H p x):IsCh K H' p x:=let ⟨pc,a,b⟩:=h.ex;⟨pc,s _ _ a,b.same s⟩
def IsCh.but{K:am}{H H':Hp}{p q:Addr}{x:Cl × Int}{xs:List V}(s:But q H H')(hq:H q=some (.lst xs))(h:IsCh K H p x):IsCh K H' p x:=by
 obtain⟨pc,a,b⟩:=h.ex
 exact⟨pc,s _ _ (λz=>by rw[z,hq]at a;cases a) a,b.but s hq⟩
structure IsChs(K:am)(H:Hp)(l:Addr)(xs:List (Addr × Cl × Int)):Prop where
 at_:H l=some (.lst (xs.map λq=>V.ref q.1))
 ch:∀q,q∈xs->IsCh K H q.1 q.2
def IsChs.same{K:am}{H H':Hp}{l:Addr}{xs:List (Addr × Cl × Int)}(s:Same H H')(h:IsChs K H l xs):IsChs K H' l xs:=⟨s _ _ h.at_,λq hq=>(h.ch q hq).same s⟩
def IsChs.but{K:am}{H H':Hp}{l a:Addr}{xs:List (Addr × Cl × Int)}{ys:List V}(s:But a H H')(ha:H a=some (.lst ys))(ne:l≠a)(h:IsChs K H l xs):IsChs K H' l xs:=⟨s _ _ ne h.at_,λq hq=>(h.ch q hq).but s ha⟩
def kcOf(H:Hp)(p:Addr):Addr:=match H p with
 | some (.tup (.ref pc::_))=>pc
 | _=>p
def IsCh.kc{K:am}{H:Hp}{p:Addr}{x:Cl × Int}(h:IsCh K H p x):H p=some (.tup [.ref (kcOf H p),.int x.2])/\IsCl K H (kcOf H p) x.1:=by
 obtain⟨pc,a,b⟩:=h.ex
 have e:kcOf H p=pc:=by
  unfold kcOf
  rw[a]
 rw[e]
 exact⟨a,b⟩
def zqY(ns:List Int)(lo hi:Option Int):∃ms:List Int,cutV (ns.map V.int) lo hi=ms.map V.int:=by
 unfold cutV
 refine⟨(ns.drop (HT.sIx (ns.map V.int).length 0 lo)).take (HT.sIx (ns.map V.int).length (ns.map V.int).length hi-HT.sIx (ns.map V.int).length 0 lo),?_⟩
 rw[pB,List.map_drop]
structure ChOk(B:Int)(x:Cl × Int):Prop where
 ok:x.1.Ok
 l0:0<=x.2
 l1:x.2<=12
 cm:x.1.came<=B
def rnk(cs:List Cl)(t:Int)(c:Cl):Nat:=(cs.filter λo=>decide (o.n≠c.n)&&ahd o c t).length
structure RkD(cs:List Cl)(t:Int)(h i:Nat)(kvs:List (Key × V)):Prop where
 len:kvs.length=((cs.take i).filter λc=>decide (rnk cs t c<h)).length
 val:∀(k:Nat) c,k<i->cs[k]?=some c->rnk cs t c<h->valV kvs (.inl (rnk cs t c:Int))=some (.int c.n)
 key:∀j:Key,valV kvs j≠none->∃(k:Nat)(c:Cl),k<i/\cs[k]?=some c/\j=.inl (rnk cs t c:Int)
def zbG(ws:List Int)(x:Cl × Int):Int:=if x.1.n∈ws then x.2-1 else x.2
def behL(H:Hp)(ws:List Int)(xs:List (Addr × Cl × Int)):List (Addr × Cl × Int):=(xs.map λk=>(kcOf H k.1,k.2.1,zbG ws k.2)).filter λk=>decide (0<k.2.2)
structure IsBh(H:Hp)(l:Addr)(ys:List (Addr × Cl × Int))(bs:List (Addr × List V)):Prop where
 at_:H l=some (.lst (bs.map λb=>V.ref b.1))
 rw:∀b,b∈bs->H b.1=some (.tup b.2)
 eq:bs.map (·.2)=ys.map λk=>[V.ref k.1,V.int k.2.2]
def IsBh.same{H H':Hp}{l:Addr}{ys:List (Addr × Cl × Int)}{bs:List (Addr × List V)}(s:Same H H')(h:IsBh H l ys bs):IsBh H' l ys bs:=⟨s _ _ h.at_,λb hb=>s _ _ (h.rw b hb),h.eq⟩
def IsBh.len{H:Hp}{l:Addr}{ys:List (Addr × Cl × Int)}{bs:List (Addr × List V)}(h:IsBh H l ys bs):bs.length=ys.length:=by
 have:=tW List.length h.eq
 rw[tm,tm]at this
 exact this
def zipB(bs:List (Addr × List V))(ys:List (Addr × Cl × Int)):List (Addr × Cl × Int):=List.zipWith (λb k=>(b.1,k.2)) bs ys
def IsBh.chs{K:am}{H:Hp}{l:Addr}{ys:List (Addr × Cl × Int)}{bs:List (Addr × List V)}(h:IsBh H l ys bs)(hc:∀k,k∈ys->IsCl K H k.1 k.2.1):
    IsChs K H l (zipB bs ys)/\(zipB bs ys).map (·.2)=ys.map (·.2):=by
 have hl:=h.len
 have e2:(zipB bs ys).map (·.2)=ys.map (·.2):=by
  unfold zipB
  rw[map_zipWith]
  refine rM (by simp[hl]) λi h1 h2=>?_
  simp
 have e1:((zipB bs ys).map λq=>V.ref q.1)=bs.map λb=>V.ref b.1:=by
  unfold zipB
  rw[map_zipWith]
  refine rM (by simp[hl]) λi h1 h2=>?_
  simp
 refine⟨⟨by rw[e1];exact h.at_,λq hq=>?_⟩,e2⟩
 obtain⟨i,hi,ei⟩:=t6 hq
 have hi2:i<bs.length/\i<ys.length:=by
  unfold zipB at hi
  rw[List.length_zipWith]at hi
  omega
 have eq:q=(bs[i].1,ys[i].2):=by
  have e3:(zipB bs ys)[i]?=some (bs[i].1,ys[i].2):=by
   unfold zipB
   rw[List.getElem?_zipWith,tj hi2.1,tj hi2.2]
  rw[tj hi,ei]at e3
  exact tL e3
 have eb:bs[i].2=[V.ref ys[i].1,V.int ys[i].2.2]:=by
  have:=tW (λl:List (List V)=>l[i]?) h.eq
  simp[hi2.1,hi2.2]at this
  exact this
 have hb:=h.rw _ (sI hi2.1)
 rw[eb]at hb
 subst eq
 exact⟨ys[i].1,hb,hc _ (sI hi2.2)⟩
def zuE{X:Cx}{K:am}(hK:X.K=K):OpR X (compareOp .In) (rIn K false):=hK▸zoe
def Room.units1{k:Nat}{A:Around}(r:Room k A):A.units+1<cLine:=by have:=r.un;omega
def ztc{K:am}{H H':Hp}{p:Addr}{x:Cl × Int}(h:IsCh K H p x)(s:Same H H'):kcOf H' p=kcOf H p:=by
 obtain⟨pc,a,_⟩:=h.ex
 unfold kcOf
 rw[a,s _ _ a]
def zoY{K:am}{H H':Hp}{l:Addr}{xs:List (Addr × Cl × Int)}(h:IsChs K H l xs)(s:Same H H')(ws:List Int):behL H' ws xs=behL H ws xs:=by
 unfold behL
 congr 1
 exact pE λk hk=>by rw[ztc (h.ch k hk) s]
def zhH(t:Int)(k:Addr × Cl × Int):Bool:=decide (0<k.2.2)&&decide (k.2.1.came<=t)
def zen(H:Hp)(t:Int)(xs:List (Addr × Cl × Int)):List (Addr × Cl):=(xs.filter (zhH t)).map λk=>(kcOf H k.1,k.2.1)
def csOf(t:Int)(xs:List (Addr × Cl × Int)):List Cl:=(xs.filter (zhH t)).map (·.2.1)
def zkb(H:Hp)(t:Int)(xs:List (Addr × Cl × Int)):(zen H t xs).map (·.2)=csOf t xs:=by
 unfold zen csOf
 rw[t5]
 rfl
def zfY(t:Int)(h:Nat)(xs:List (Addr × Cl × Int)):List Int:=((ord (csOf t xs) t).map (·.n)).take h
def zoZ{t:Int}{xs:List (Addr × Cl × Int)}(ok:∀q,q∈xs->q.2.1.Ok)(nd:(xs.map (·.2.1.n)).Nodup):Good (csOf t xs):=by
 refine⟨λc hc=>?_,?_⟩
 ·obtain⟨k,hk,rfl⟩:=mem_map.mp hc
  exact ok k (mem_filter.mp hk).1
 ·unfold csOf
  rw[t5]
  exact nd.sublist (List.Sublist.map _ pF)
def znf(H:Hp)(t:Int)(xs:List (Addr × Cl × Int)):(zen H t xs).length<=xs.length:=by
 unfold zen
 rw[tm]
 exact sf _ _
def zpa{K:am}{H:Hp}{l:Addr}{xs:List (Addr × Cl × Int)}(h:IsChs K H l xs)(t:Int){q:Addr × Cl}(hq:q∈zen H t xs):IsCl K H q.1 q.2:=by
 obtain⟨k,hk,rfl⟩:=mem_map.mp hq
 exact(h.ch k (mem_filter.mp hk).1).kc.2
def zlf(H:Hp)(t:Int)(xs:List (Addr × Cl × Int)):(zen H t xs).map (λq=>V.ref q.1)=(xs.filter (zhH t)).map λk=>V.ref (kcOf H k.1):=by
 unfold zen
 rw[t5]
 rfl
def zmp{H:Hp}{ws:List Int}{xs:List (Addr × Cl × Int)}{k:Addr × Cl × Int}(h:k∈behL H ws xs):∃q,q∈xs/\k=(kcOf H q.1,q.2.1,zbG ws q.2)/\0<zbG ws q.2:=by
 obtain⟨h1,h2⟩:=mem_filter.mp h
 obtain⟨q,hq,rfl⟩:=mem_map.mp h1
 exact⟨q,hq,rfl,tP h2⟩
def ztd{H:Hp}{ws:List Int}{xs:List (Addr × Cl × Int)}(nd:(xs.map (·.2.1.n)).Nodup):((behL H ws xs).map (·.2.1.n)).Nodup:=by
 have e:((xs.map λk=>(kcOf H k.1,k.2.1,zbG ws k.2)).map (·.2.1.n))=xs.map (·.2.1.n):=by
  rw[t5]
  rfl
 rw[<-e]at nd
 exact nd.sublist (List.Sublist.map _ pF)
def zqZ(H:Hp)(ws:List Int)(xs:List (Addr × Cl × Int)):(behL H ws xs).length<=xs.length:=by
 have:=sf (λk:Addr × Cl × Int=>decide (0<k.2.2)) (xs.map λk=>(kcOf H k.1,k.2.1,zbG ws k.2))
 rw[tm]at this
 exact this
def plV:List V->Bool
 | [_,.int i]=>decide (0<i)
 | _=>false
def zvK{H:Hp}{ws:List Int}{xs:List (Addr × Cl × Int)}{bs:List (Addr × List V)}(eb:bs.map (·.2)=xs.map λk=>[V.ref (kcOf H k.1),V.int (zbG ws k.2)]):
    (bs.filter λb=>plV b.2).map (·.2)=(behL H ws xs).map λk=>[V.ref k.1,V.int k.2.2]:=by
 have e:(bs.filter λb=>plV b.2).map (·.2)=(bs.map (·.2)).filter plV:=by
  rw[sM]
  rfl
 rw[e,eb,sM]
 unfold behL
 rw[sM,t5]
 rfl
def zhd{α:Type}(xs:List α):(xs.filter λ_=>true)=xs:=filter_eq_self.mpr λ_ _=>rfl
def zvL(K:am):R2:=λx y H Q=>∃l b xs zs,x=.ref l/\y=.ref b/\SqL K H l xs/\SqL K H b zs/\xs.length+zs.length<=sizeLine/\∀p H2,Same H H2->H p=none->H2 p=some (.lst (xs++zs))->Q (.ref p) H2
def zlg{X:Cx}:OpR X (binaryOp .Add) (zvL X.K):=by
 intro ai s σ H x y v u Q I rx ry h
 obtain⟨l,b,xs,zs,rfl,rfl,hx,hy,hz,q⟩:=h
 cases rx
 cases ry
 obtain⟨its,r,p1,z1⟩:=I.list hx
 obtain⟨jts,r2,p2,z2⟩:=I.list hy
 obtain⟨⟨c1,d1,t1,f1⟩,g1,e1,n1,k1⟩:=p1.isList
 obtain⟨⟨c2,d2,t2,f2⟩,g2,e2,n2,k2⟩:=p2.isList
 simp only at e1 k1 e2 k2
 subst e1 k1 e2 k2
 have ea:its.toArray++jts.toArray=(its++jts).toArray:=by simp
 have l1:=r.length
 have l2:=r2.length
 refine concat_meets ⟨_,g1,rfl⟩ ⟨_,g2,rfl⟩ noFill_list_add seq_list_add F.slot_list_add F.entry_list_add (F.args_list_add_2 _ _) (list_addW l b its.toArray jts.toArray n1 n2 d1 d2 f1 f2 (by rw[size_toArray,size_toArray];omega)) ⟨g1,g2,?_⟩
 rw[ea]
 exact⟨.ref _,_,I.lnew (t':=s.toks) (r.append r2) (by rw[tR];omega),rfl,q _ _ (zbs I.fresh _) I.fresh zar⟩
structure FunD(K:am)(x qual:Str)(st:Stmt)(f:Addr)(fd:FuncData):Prop where
 ex:∃(oc:Value)(od:ak)(T:Addr)(kV doc pm:Value)(an:ak)(cdv ct:Value)(osl:ap)(o:Obj)(n:Nat),
  fd=W.fnOf x qual (zav st) (zap st) (zac st) (.ref T) kV doc pm an cdv ct/\K.lookup f=some ⟨oc,od,.func fd,osl⟩/\W.codeIn K cdv qual=true/\K.lookup T=some o/\o.data=.seq #[.none] n
 kp:W.keepIn K (.ref f)=true
def zte{K:am}{x qual:Str}{st:Stmt}{f T:Addr}{oc:Value}{od an:ak}{osl:ap}{kV doc pm cdv ct:Value}{o:Obj}{n:Nat}
    (l:K.lookup f=some ⟨oc,od,.func (W.fnOf x qual (zav st) (zap st) (zac st) (.ref T) kV doc pm an cdv ct),osl⟩) (c:W.codeIn K cdv qual=true) (k:W.keepIn K (.ref f)=true)
    (t:K.lookup T=some o) (d:o.data=.seq #[.none] n):FunD K x qual st f (W.fnOf x qual (zav st) (zap st) (zac st) (.ref T) kV doc pm an cdv ct):=⟨⟨oc,od,T,kV,doc,pm,an,cdv,ct,osl,o,n,rfl,l,c,t,d⟩,k⟩
def FunD.ok{P:Program}{w:World}{K:am}{mg:af}{bj:Heap}{x qual:Str}{st:Stmt}{f:Addr}{fd:FuncData}{N ps:List Str}{k:Nat}{sp:Sp}(F:FunD K x qual st f fd)(S:FnScope N ps (zac st))(len:∀vs H Q E,sp vs H Q E->vs.length=ps.length)
    (hbody:∀(cdv:Value)(A:Around)(outer:List Env)(s:Shared)(H:Hp)(vs:List V)(Q:VK)(E:XK),Room k (A.deeper (envOfC qual (zac st) s.heap.objs.size f cdv))->sp vs H Q E->
      ∃t,PSs (cxOf CX0 P w K mg bj N qual (zac st) f cdv A outer s H E).nox (zap st) t/\t { nx:=λ_ H'=>Q .non H',rt:=Q } (zgV N vs) H):FnOk P w K mg bj CX0 (k+1) f fd ps sp:=by
 obtain⟨oc,od,T,kV,doc,pm,an,cdv,ct,osl,o,n,rfl,lk,hcd,_,_⟩:=F.ex
 refine bc lk hcd S len λA outer s H vs Q E hr hsp=>?_
 obtain⟨t,h,q⟩:=hbody cdv A outer s H vs Q E hr hsp
 exact⟨t,h.nox,q⟩
def FunD.binds{K:am}{x qual:Str}{st:Stmt}{f:Addr}{fd:FuncData}{ps:List Str}(F:FunD K x qual st f fd)
    (h:∀(dV kV doc pm:Value)(an:ak)(cdv ct:Value)(us:aj),us.length=ps.length->∃k:Option (Array Value)->Sem (List (Str × Value)),bindArgs (W.fnOf x qual (zav st) (zap st) (zac st) dV kV doc pm an cdv ct) ⟨us,[]⟩=(seqItems? dV >>= k)/\k (some #[.none])=pure (ps.zip us)):zbq K fd ps []:=by
 obtain⟨oc,od,T,kV,doc,pm,an,cdv,ct,osl,o,n,rfl,lk,hcd,t,d⟩:=F.ex
 intro s us KX hl
 obtain⟨k,k1,k2⟩:=h (.ref T) kV doc pm an cdv ct us (by simpa using hl)
 exact rJ (T:=T) (o:=o) (items := #[.none]) (n:=n) (k:=k) rfl (KX T o t) d k1 (by rw[k2,rE])
def FunD.bindsD{K:am}{x qual:Str}{st:Stmt}{f:Addr}{fd:FuncData}{ps:List Str}(F:FunD K x qual st f fd)
    (h:∀(dV kV doc pm:Value)(an:ak)(cdv ct:Value)(us:aj),(us++[Value.none]).length=ps.length->∃k:Option (Array Value)->Sem (List (Str × Value)),bindArgs (W.fnOf x qual (zav st) (zap st) (zac st) dV kV doc pm an cdv ct) ⟨us,[]⟩=(seqItems? dV >>= k)/\k (some #[.none])=pure (ps.zip (us++[.none]))):zbq K fd ps [.none]:=by
 obtain⟨oc,od,T,kV,doc,pm,an,cdv,ct,osl,o,n,rfl,lk,hcd,t,d⟩:=F.ex
 intro s us KX hl
 obtain⟨k,k1,k2⟩:=h (.ref T) kV doc pm an cdv ct us hl
 exact rJ (T:=T) (o:=o) (items := #[.none]) (n:=n) (k:=k) rfl (KX T o t) d k1 k2
structure DfnD(K:am)(mg:af)(x:Str)(st:Stmt)(ps:List Str)(f:Addr)(fd:FuncData):Prop where
 F:FunD K x x st f fd
 b:zbq K fd ps []
 bd:zbq K fd ps [.none]
 m:mg x=some (.ref f)
structure CalD(P:Program)(w:World)(K:am)(mg:af)(bj:Heap)(x:Str)(k:Nat)(ps:List Str)(sp:Sp):Prop where
 ex:∃f fd,FnOk P w K mg bj CX0 k f fd ps sp/\zbq K fd ps []/\zbq K fd ps [.none]/\mg x=some (.ref f)/\W.keepIn K (.ref f)=true
def DfnD.cal{P:Program}{w:World}{K:am}{mg:af}{bj:Heap}{x:Str}{st:Stmt}{ps:List Str}{f:Addr}{fd:FuncData}{k:Nat}{sp:Sp}
    (D:DfnD K mg x st ps f fd) (G:FnOk P w K mg bj CX0 k f fd ps sp):CalD P w K mg bj x k ps sp:=⟨⟨f,fd,G,D.b,D.bd,D.m,D.F.kp⟩⟩
section
variable{X:Cx}{k:Nat}{ps:List Str}{sp:Sp}{x:Str}{p pos:Pos}{e:Expr}{es:List Expr}{t:TA}
def zpb(C:CalD X.prog X.w X.K X.mg X.bj x k ps sp)(hr:Room k X.A)(hg:Gl X x)(ha:PA X (e::es) t)(hdb:(x==("__debug__" : Str))=false:=by decide)
    (he:starEach (e::es) X.env=(false,eval e X.env)::starEach es X.env:=by rfl) (hpl:(backTo pos (starEach es X.env)).any (·.1)=false:=by rfl):
    PE X (.Call (.Name x p) (e::es) [] pos) (zsA sp [.non] E0 t):=by
 obtain⟨f,fd,G,_,b,m,kp⟩:=C.ex
 exact dP G hr hg m kp b (.cons rfl .nil) zaT ha hdb he hpl
end
abbrev Ch:=List (Cl × Int)
def csC(t:Int)(c:Ch):List Cl:=(c.filter λk=>decide (0<k.2)&&decide (k.1.came<=t)).map (·.1)
def wkC(t:Int)(h:Nat)(c:Ch):List Int:=((ord (csC t c) t).map (·.n)).take h
def bhC(ws:List Int)(c:Ch):Ch:=(c.map λk=>(k.1,zbG ws k)).filter λk=>decide (0<k.2)
def zuF(t:Int)(xs:List (Addr × Cl × Int)):csOf t xs=csC t (xs.map (·.2)):=by
 unfold csOf csC
 rw[sM,t5]
 rfl
def ztf(t:Int)(h:Nat)(xs:List (Addr × Cl × Int)):zfY t h xs=wkC t h (xs.map (·.2)):=by
 unfold zfY wkC
 rw[zuF]
def zuG(H:Hp)(ws:List Int)(xs:List (Addr × Cl × Int)):(behL H ws xs).map (·.2)=bhC ws (xs.map (·.2)):=by
 unfold behL bhC
 rw[sM,sM,t5,sM,t5]
 rfl
def runN(h:Nat):Nat->Int->Ch->List (Int × List Int) × Ch
 | 0,_,c=>([],c)
 | n+1,t,c=>let r:=runN h n t c;(r.1++[(t+n,wkC (t+n) h r.2)],bhC (wkC (t+n) h r.2) r.2)
def sumC(c:Ch):Nat:=(c.map λk=>k.2.toNat).sum
def bE{ws:List Int}{c:Ch}{k:Cl × Int}(h:k∈bhC ws c):0<k.2:=tP (mem_filter.mp h).2
theorem zpc(ws:List Int):∀c:Ch,sumC (bhC ws c)<=sumC c
 | []=>tF _
 | k::c=>by
   have ih:=zpc ws c
   have e:bhC ws (k::c)=(if decide (0<zbG ws k)=true then[(k.1,zbG ws k)]else[])++bhC ws c:=by
    unfold bhC
    rw[t3,se]
    split<;>rfl
   rw[e]
   have le:zbG ws k<=k.2:=by
    unfold zbG
    split<;>omega
   unfold sumC at *
   split
   ·simp
    omega
   ·simp
    omega
theorem zrN{ws:List Int}:∀{c:Ch}{k:Cl × Int},k∈c->0<k.2->k.1.n∈ws->sumC (bhC ws c)<sumC c
 | [],_,hk,_,_=>absurd hk not_mem_nil
 | j::c,k,hk,pos,hw=>by
   have ih:=zpc ws c
   have e:bhC ws (j::c)=(if decide (0<zbG ws j)=true then[(j.1,zbG ws j)]else[])++bhC ws c:=by
    unfold bhC
    rw[t3,se]
    split<;>rfl
   rw[e]
   have le:zbG ws j<=j.2:=by
    unfold zbG
    split<;>omega
   rcases mem_cons.mp hk with rfl | hk
   ·have lt:zbG ws k=k.2-1:=by
     unfold zbG
     rw[if_pos hw]
    unfold sumC at *
    split
    ·simp
     omega
    ·simp
     omega
   ·have ih2:=zrN hk pos hw
    unfold sumC at *
    split
    ·simp
     omega
    ·simp
     omega
def zra{t:Int}{h:Nat}{c:Ch}(h0:0<h)(hc:c≠[])(pos:∀k,k∈c->0<k.2)(cm:∀k,k∈c->k.1.came<=1000):sumC (bhC (wkC t h c) c)+(1001-(t+1)).toNat<sumC c+(1001-t).toNat:=by
 by_cases e:csC t c=[]
 ·
  have late:t<1000:=by
   cases c with
   | nil=>exact(hc rfl).elim
   | cons k c=>
     have:k∉(k::c).filter λk=>decide (0<k.2)&&decide (k.1.came<=t):=λz=>by
      have:k.1∈csC t (k::c):=mem_map.mpr ⟨k,z,rfl⟩
      rw[e]at this
      cases this
     have p:=pos k tN
     have q:=cm k tN
     refine Int.not_le.mp λz=>this (mem_filter.mpr ⟨tN,?_⟩)
     rw[decide_eq_true p,decide_eq_true (show k.1.came<=t by omega)]
     rfl
  have:=zpc (wkC t h c) c
  omega
 ·have lo:(ord (csC t c) t).length=(csC t c).length:=(zaU _ _).length_eq
  have lp:0<(csC t c).length:=List.length_pos_iff.mpr e
  obtain⟨x,xs,eo⟩:=List.exists_cons_of_ne_nil (show ord (csC t c) t≠[]from λz=>by rw[z]at lo;simp at lo;omega)
  have hm:x.n∈wkC t h c:=by
   unfold wkC
   rw[eo]
   cases h with
   | zero=>omega
   | succ h=>simp
  have mem:x∈csC t c:=(zaU (csC t c) t).mem_iff.mp (by rw[eo];exact tN)
  obtain⟨k,hk,ek⟩:=mem_map.mp mem
  rw[<-ek]at hm
  have hk:=(mem_filter.mp hk).1
  have:=zrN (ws:=wkC t h c) hk (pos k hk) hm
  omega
def ztg(c:Ch):bhC [] c=c.filter λk=>decide (0<k.2):=by
 unfold bhC
 have e:(c.map λk=>(k.1,zbG [] k))=c:=by
  have:∀k:Cl × Int,(k.1,zbG [] k)=k:=λk=>by
   unfold zbG
   rw[if_neg (by simp)]
  rw[show(λk:Cl × Int=>(k.1,zbG [] k))=id from funext this,List.map_id]
 rw[e]
def aH(h n:Nat)(t:Int)(c:Ch):runN h (n+1) t c=((runN h n t c).1++[(t+n,wkC (t+n) h (runN h n t c).2)],bhC (wkC (t+n) h (runN h n t c).2) (runN h n t c).2):=rfl
theorem zpd(h:Nat)(t:Int)(c:Ch):∀n,(runN h n t c).1.length=n
 | 0=>rfl
 | n+1=>by
   rw[aH,tR,zpd h t c n]
   rfl
structure IsRun(H:Hp)(l:Addr)(rs:List (Addr × Addr × Int × List Int)):Prop where
 at_:H l=some (.lst (rs.map λr=>V.ref r.1))
 row:∀r,r∈rs->H r.1=some (.tup [.int r.2.2.1,.ref r.2.1])
 num:∀r,r∈rs->H r.2.1=some (.lst (r.2.2.2.map V.int))
def IsRun.same{H H':Hp}{l:Addr}{rs:List (Addr × Addr × Int × List Int)}(s:Same H H')(h:IsRun H l rs):IsRun H' l rs:=⟨s _ _ h.at_,λr hr=>s _ _ (h.row r hr),λr hr=>s _ _ (h.num r hr)⟩
def IsRun.app{H H':Hp}{l p m:Addr}{rs:List (Addr × Addr × Int × List Int)}{t:Int}{ws:List Int}(h:IsRun H l rs)(k:But l H H')(e:H' l=some (.lst ((rs.map λr=>V.ref r.1)++[.ref p])))(hp:H p=some (.tup [.int t,.ref m]))(hm:H m=some (.lst (ws.map V.int)))
    (ne:m≠l) (nl:∀r,r∈rs->r.2.1≠l):IsRun H' l (rs++[(p,m,t,ws)]):=by
 have np:∀q ys,H q=some (.tup ys)->q≠l:=λq ys g z=>by
  rw[z,h.at_]at g
  cases g
 refine⟨by rw[e,t4];rfl,λr hr=>?_,λr hr=>?_⟩
 ·rcases mem_append.mp hr with hr | hr
  ·exact k _ _ (np _ _ (h.row r hr)) (h.row r hr)
  ·rw[mem_singleton.mp hr]
   exact k _ _ (np _ _ hp) hp
 ·rcases mem_append.mp hr with hr | hr
  ·exact k _ _ (nl r hr) (h.num r hr)
  ·rw[mem_singleton.mp hr]
   exact k _ _ ne hm
def Itd(a:Addr)(o:Obj)(kvs:List (Key × V)):It:=
 ⟨λi H=>H a=some (.frz o (.dK kvs))/\i<kvs.length,λi H x H'=>H'=H/\∃kv,kvs[i]?=some kv/\x=kV kv.1,λi H=>H a=some (.frz o (.dK kvs))/\kvs.length<=i⟩
theorem zth{P:Program}{w:World}{k:Key}{u:Value}(h:(zaV P w).is k u=true):RelV (kV k) u:=by
 rw[ziC]at h
 cases k with
 | inl i=>
   cases u<;>first
    | (exact absurd h tG)
    | (have h:(_==_)=true:=h;rw[beq_iff_eq]at h;subst h;exact⟨_,rfl⟩)
 | inr x=>
   cases u<;>first
    | (exact absurd h tG)
    | (have h:(_==_)=true:=h;rw[beq_iff_eq]at h;subst h;exact⟨_,rfl⟩)
def zrO{P:Program}{w:World}{H:Hp}{h:Heap}{a:Addr}{o:Obj}{kvs:List (Key × V)}{es:Array DictEntry}{ep:Nat}(ok:HOk P w H h)(e:H a=some (.frz o (.dK kvs)))(d:o.data=.dict es ep):
    ∃vs,KV kvs vs/\h.DictAt (zaV P w) a vs ep:=by
 obtain⟨ho,_,_,vs,rel,ob,es',ep',h1,h2,h3,h4⟩:=(show h.get? a=some o/\zbf P w H h a (.dK kvs)from ok a _ e)
 rw[ho]at h1
 cases h1
 rw[d]at h3
 cases h3
 exact⟨vs,rel,o,es,ho,h2,d,h4⟩
def zpe{P:Program}{w:World}{K:am}{tg:Expr}(a it:Addr)(o:Obj)(kvs:List (Key × V)){es:Array DictEntry}{ep:Nat}(d:o.data=.dict es ep):
    Turn P w K tg (Itd a o kvs) [it] it (λi h=>h.IsKeyIter it a i kvs.length ep) where
 mem:=by simp
 obj:=λi h st b hb=>by
  have e:b=it:=by simpa using hb
  subst e
  obtain⟨o,e,c,d⟩:=st
  exact⟨o,e,λv z=>by rw[d]at z;cases z⟩
 keep:=λi h h' st k=>st.at λo e=>k it (by simp) o e
 item:=by
  intro X hP hw hK hc i ai s σ H E I hf st hg
  subst hP hw hK
  obtain⟨hq,hi⟩:=hg
  obtain⟨vs,rel,dd⟩:=zrO I.hok hq d
  obtain⟨f0,f1,f2,f3,f4,f5⟩:=hf it (by simp)
  have lv:=rel.length
  obtain⟨⟨k,x⟩,hx⟩:∃p,vs[i]?=some p:=⟨vs[i]'(by omega),tj (by omega)⟩
  obtain⟨⟨k',x'⟩,hx'⟩:∃p,kvs[i]?=some p:=⟨kvs[i]'hi,tj hi⟩
  have ek:k'=k:=by
   have:=tW (·[i]?) rel.keys
   simp only[getElem?_map,hx,hx',Option.map_some]at this
   exact tL this
  subst ek
  rw[lv]at st
  refine wpAny_pyNext_dict_item st dd hx λkey h' hkey st' sb=>?_
  have I1:Inv X ai σ H { s with heap:=h' }:=I.turned (t':=s.toks) (λb o hb e=>(sb.2 b hb).trans e) f0 f1 f3 f4 f5
  obtain⟨o',e,c,d'⟩:=id st'
  rw[<-lv]at st'
  exact⟨key,rfl,zmX (s := { s with heap:=h' }) e c d' (by decide) ⟨kV k',H,I1,zth hkey,⟨rfl,_,hx',rfl⟩,st',λb hb=>(hf b hb).1⟩⟩
 done:=by
  intro X hP hw hK hc i ai s σ H E I hf st hg
  subst hP hw hK
  obtain⟨hq,hi⟩:=hg
  obtain⟨vs,rel,dd⟩:=zrO I.hok hq d
  obtain⟨f0,f1,f2,f3,f4,f5⟩:=hf it (by simp)
  have lv:=rel.length
  rw[lv]at st
  exact wpAny_pyNext_dict_end (I.ok.hd hc) st dd (rf (by omega)) λh' eb=>⟨rfl,I.turned (t':=s.toks) (λb o hb e=>eb b o hb e) f0 f1 f3 f4 f5⟩
 self:=λ_ _ _ _ _ st h=>wpAny_pyIter_keyiter st h
section
variable{X:Cx}{tg:Expr}
def zvM(tl:TE):TI:=λσ H R=>tl σ H λx H1=>∃a kvs,x=.ref a/\Rd H1 a (.dK kvs)/\∀o H2,But a H1 H2->H2 a=some (.frz o (.dK kvs))->R (Itd a o kvs) H2
def zpf{l:Expr}{tl:TE}(hl:PE X l tl):PI X tg l (zvM tl):=by
 with_unfolding_all
  intro ai s σ H R I h
  refine thn (hl ai s σ H _ I h) λv s1 ⟨x,H1,I1,r1,q1⟩=>?_
  obtain⟨a,kvs,e,hq,q⟩:=q1
  subst e
  cases r1
  obtain⟨z,y,vs,rel,o,es,ep,ho,oc,od,r⟩:=zjR I1.hok hq
  have lv:=rel.length
  refine wpAny_pyIter_dict y (show s1.heap.DictAt (zaV X.prog X.w) a vs ep from⟨o,es,ho,oc,od,r⟩) ?_
  have I2:∃H2,But a H1 H2/\H2 a=some (.frz o (.dK kvs))/\Inv X ai σ H2 s1:=by
   rcases hq with hq | ⟨o',hq⟩
   ·exact⟨_,λb u hb e=>by rw[zaw hb];exact e,zar,I1.write (x:=a) (e:=a) (o:=.frz o (.dK kvs)) (h':=s1.heap) (t':=s1.toks) (by rw[hq];trivial) (.inl rfl) (λ_ _ _ q=>q) ⟨o,ho⟩ ⟨ho,z,y,vs,rel,o,es,ep,ho,oc,od,r⟩⟩
   ·obtain⟨ho',_⟩:=(show s1.heap.get? a=some o'/\_ from I1.hok a _ hq)
    rw[ho]at ho'
    cases ho'
    exact⟨H1,λ_ _ _ e=>e,hq,I1⟩
  obtain⟨H2,k2,h2,I2⟩:=I2
  refine⟨s1.heap.objs.size,[s1.heap.objs.size],_,_,H2,rfl,I2.kept (t':=s1.toks) λb o e=>tz _ e,zpe a _ o kvs od,?_,λb hb=>?_,q o H2 k2 h2⟩
  ·show Heap.IsKeyIter _ _ _ _ _ _
   rw[lv]
   exact⟨_,tJ _ rfl,rfl,rfl⟩
  ·have e:b=s1.heap.objs.size:=by simpa using hb
   subst e
   exact I2.fpOk (tF _) (I2.hok.fresh (tF _))
end
theorem zpg{a:Addr}{ob:Obj}{kvs:List (Key × V)}{js:List Nat}{tc:TT}{te:TE}{σ:St}{H1:Hp}{Q:VK}(p:Nat->Bool)(f:Nat->V)(hl:H1 a=some (.frz ob (.dK kvs)))
  (ht:∀i kv Hh (Q':Bool->Hp->Prop),kvs[i]?=some kv->Same H1 Hh->(∀Hh',Same Hh Hh'->Q' (p i) Hh')->tc (some (kV kv.1)::caps σ js) Hh Q')
  (he:∀i kv Hh (Q':VK),kvs[i]?=some kv->p i=true->Same H1 Hh->(∀Hh',Same Hh Hh'->Q' (f i) Hh')->te (some (kV kv.1)::caps σ js) Hh Q')
  (hz:kvs.length<sizeLine) (q:∀D H2,Same H1 H2->H1 D=none->H2 D=some (.lst (((List.range kvs.length).filter p).map f))->Q (.ref D) H2):
  zdK (Itd a ob kvs) js tc te σ H1 Q:=by
 intro D H2 s2 hD h2
 refine⟨λi m acc H3=>m=kvs.length-i/\i<=kvs.length/\acc=((List.range i).filter p).map f/\Same H1 H3/\H3 D=some (.lst acc),⟨_,rfl,tV _,by simp,s2,h2⟩,?_⟩
 rintro i m acc H3 ⟨rfl,hi,ea,s3,h3⟩
 have hl3:=s3 _ _ hl
 have hll:acc.length<=kvs.length:=by
  rw[ea,tm]
  refine tU (sf _ _) ?_
  rw[qm]
  exact hi
 refine⟨h3,by omega,?_⟩
 by_cases hlt:i<kvs.length
 ·refine .inr ⟨⟨hl3,hlt⟩,λy H4 z=>?_⟩
  obtain⟨e,kv,ey2,rfl⟩:=z
  subst e
  refine ht i kv _ _ ey2 s3 λH5 s5=>?_
  have h5:=s5 _ _ h3
  have s35:=s3.trans s5
  have tk:(List.range (i+1)).filter p=(List.range i).filter p++(if p i=true then[i]else[]):=by
   rw[oi,qu]
   congr 1
   cases h:p i<;>simp[h]
  cases hp:p i with
  | true=>
    refine iteT (he i kv _ _ ey2 hp s35 λH6 s6=>⟨s6 _ _ h5,λH7 k7 h7=>⟨kvs.length-(i+1),by omega,rfl,hlt,?_,λb o e=>?_,h7⟩⟩)
    ·rw[tk,hp,if_pos rfl,t4,<-ea]
     rfl
    ·by_cases hb:b=D
     ·subst hb
      rw[hD]at e
      cases e
     ·exact k7 b o hb (s6 b o (s35 b o e))
  | false=>
    refine iteF ⟨kvs.length-(i+1),by omega,rfl,hlt,?_,s35,h5⟩
    rw[tk,hp,if_neg tG,rE]
    exact ea
 ·have e:i=kvs.length:=by omega
  subst e
  refine .inl ⟨⟨hl3,tF _⟩,?_⟩
  rw[ea]at h3
  exact q D _ s3 hD h3
section
variable{X:Cx}
def rInD:R2:=λx y H Q=>∃(a:Addr)(o:Option V),y=.ref a/\DGet H a x o/\Q (.bl o.isSome) H
def zuH(hu:X.A.units+1<cLine):OpR X (compareOp .In) rInD:=by
 intro ai s σ H x y v u Q I rx ry h
 obtain⟨a,o,rfl,g,q⟩:=h
 cases ry
 exact d_in hu I g rx λs' I'=>⟨.bl _,H,I',rfl,q⟩
end
def dI(L:al):List (Key × V):=L.map λp=>(.inl p.1,V.int p.2)
def valI(L:al)(k:Int):Option Int:=(L.find? λp=>decide (p.1=k)).map (·.2)
def putI(L:al)(k v:Int):List (Int × Int):=if(L.any λp=>decide (p.1=k))=true then L.map (λp=>if p.1=k then(p.1,v)else p)else L++[(k,v)]
theorem zph(L:al)(k:Int):valV (dI L) (.inl k)=(valI L k).map V.int:=by
 induction L with
 | nil=>rfl
 | cons p L ih=>
   unfold dI valI at *
   rw[t3]
   by_cases e:p.1=k
   ·rw[zbr (by rw[e]),List.find?_cons_of_pos (by simp[e])]
    rfl
   ·rw[zbj (λz=>e (sQ z)),List.find?_cons_of_neg (by simp[e])]
    exact ih
theorem zuI(L:al)(k:Int):((dI L).any λkv=>decide (kv.1=.inl k))=L.any λp=>decide (p.1=k):=by
 induction L with
 | nil=>rfl
 | cons p L ih=>
   unfold dI at *
   rw[t3,qS,qS,ih]
   congr 1
   by_cases e:p.1=k
   ·simp[e]
   ·rw[tS e]
    exact tS λz=>e (sQ z)
def zrP(L:al)(k v:Int):putK (dI L) (.inl k) (.int v)=dI (putI L k v):=by
 unfold putK putI
 rw[zuI]
 by_cases c:(L.any λp=>decide (p.1=k))=true
 ·rw[if_pos c,if_pos c]
  unfold dI
  rw[t5,t5]
  refine pE λp _=>?_
  show(if(Sum.inl p.1:Key)=.inl k then _ else _)=_
  by_cases e:p.1=k
  ·rw[if_pos (by rw[e])]
   show _=(λq:Int × Int=>((Sum.inl q.1:Key),V.int q.2)) (if p.1=k then(p.1,v)else p)
   rw[if_pos e]
  ·rw[if_neg (λz=>e (sQ z))]
   show _=(λq:Int × Int=>((Sum.inl q.1:Key),V.int q.2)) (if p.1=k then(p.1,v)else p)
   rw[if_neg e]
 ·rw[if_neg c,if_neg c]
  unfold dI
  rw[t4]
  rfl
def zrQ(L:al):(dI L).length=L.length:=tm _
def zrb(L:al)(k v:Int):(putI L k v).length<=L.length+1:=by
 unfold putI
 split
 ·rw[tm]
  omega
 ·rw[tR]
  exact tF _
theorem zmq{L:al}{p:Int × Int}(h:p∈L):∃v,valI L p.1=some v:=by
 unfold valI
 cases e:L.find? λq=>decide (q.1=p.1) with
 | some q=>exact⟨_,rfl⟩
 | none=>
   have:=List.find?_eq_none.mp e p h
   simp at this
def zdN(t:Int):List Int->List (Int × Int)->List (Int × Int)
 | [],L=>L
 | n::ns,L=>zdN t ns (putI L n t)
def zcJ:List (Int × List Int)->List (Int × Int)->List (Int × Int)
 | [],L=>L
 | r::rs,L=>zcJ rs (zdN r.1 r.2 L)
theorem ziQ(t n:Int):∀(ns:List Int)(L:al),zdN t (ns++[n]) L=putI (zdN t ns L) n t
 | [],L=>rfl
 | m::ns,L=>ziQ t n ns (putI L m t)
theorem ziR(r:Int × List Int):∀(rs:List (Int × List Int))(L:al),zcJ (rs++[r]) L=zdN r.1 r.2 (zcJ rs L)
 | [],L=>rfl
 | q::rs,L=>ziR r rs (zdN q.1 q.2 L)
theorem zhI(t:Int):∀(ns:List Int)(L:al),(zdN t ns L).length<=L.length+ns.length
 | [],L=>tF _
 | n::ns,L=>by
   have a:=zhI t ns (putI L n t)
   have b:=zrb L n t
   show(zdN t ns (putI L n t)).length<=_
   rw[length_cons]
   omega
theorem zkc{B:Nat}:∀(rs:List (Int × List Int))(L:al),(∀r,r∈rs->r.2.length<=B)->(zcJ rs L).length<=L.length+B*rs.length
 | [],L,_=>tF _
 | r::rs,L,h=>by
   have a:=zkc rs (zdN r.1 r.2 L) λq hq=>h q (tO _ hq)
   have b:=zhI r.1 r.2 L
   have c:=h r tN
   show(zcJ rs (zdN r.1 r.2 L)).length<=_
   rw[length_cons,Nat.mul_succ]
   omega
def zng(L T:al)(k:Int):Bool:=match valI T k with
 | some v=>decide (v<(valI L k).getD 0)
 | none=>false
def zhJ(L T:al):List Int:=(L.map (·.1)).filter (zng L T)
def zpi(L T:al):(L.filter λp=>zng L T p.1).map (λp=>V.int p.1)=(zhJ L T).map V.int:=by
 unfold zhJ
 rw[sM,t5]
 rfl
theorem zrc{L T:al}{k:Int}(h:k∈zhJ L T):∃v u,valI T k=some v/\valI L k=some u/\v<u:=by
 obtain⟨h1,h2⟩:=mem_filter.mp h
 obtain⟨p,hp,rfl⟩:=mem_map.mp h1
 obtain⟨u,hu⟩:=zmq hp
 unfold zng at h2
 cases e:valI T p.1 with
 | none=>rw[e]at h2;cases h2
 | some v=>
   rw[e]at h2
   rw[hu]at h2
   exact⟨v,u,rfl,hu,tP h2⟩
def ziS{H:Hp}{a:Addr}{L:al}(h:Rd H a (.dK (dI L)))(k:Int):DGet H a (.int k) ((valI L k).map V.int):=.inl ⟨_,.inl k,h,rfl,(zph L k).symm⟩
def Rd.same{H H':Hp}{a:Addr}{u:HO}(s:Same H H')(h:Rd H a u):Rd H' a u:=h.imp (s _ _) λ⟨o,e⟩=>⟨o,s _ _ e⟩
section
variable{X:Cx}{ai:ae}{σ:St}{H:Hp}{s:Shared}
end
section
variable{X:Cx}
end
structure GdC(c:Ch):Prop where
 ok:∀k,k∈c->k.1.Ok
 nd:(c.map (·.1.n)).Nodup
def zuJ{ws:List Int}{c:Ch}{j:Cl × Int}(hj:j∈c)(h:0<zbG ws j):(j.1,zbG ws j)∈bhC ws c:=
 mem_filter.mpr ⟨mem_map.mpr ⟨j,hj,rfl⟩,decide_eq_true h⟩
inductive Hist(h:Nat)(b:Int)(c0:Ch):Nat->List (Int × List Int)->Ch->Prop
 | zero:Hist h b c0 0 [] c0
 | succ {n:Nat} {rs:List (Int × List Int)} {c:Ch} {h':Nat}:Hist h b c0 n rs c->h<=h'->Hist h b c0 (n+1) (rs++[(b+n,wkC (b+n) h' c)]) (bhC (wkC (b+n) h' c) c)
theorem zkd{h:Nat}{b:Int}{d:Ch}{j:Int}:∀(q m:Nat),j∈(runN h m b d).2.map (·.1.n)->(∀k,k∈(runN h m b d).2->0<k.2)->(runN h (m+q) b d).2=[]->∃i,m<=i/\i<m+q/\j∈wkC (b+i) h (runN h i b d).2
 | 0,m,hj,_,e=>by
   rw[Nat.add_zero]at e
   rw[e]at hj
   cases hj
 | q+1,m,hj,pos,e=>by
   by_cases w:j∈wkC (b+m) h (runN h m b d).2
   ·exact⟨m,tF _,by omega,w⟩
   ·obtain⟨k,hk,ek⟩:=mem_map.mp hj
    have hj':j∈(runN h (m+1) b d).2.map (·.1.n):=by
     rw[aH]
     have lk:zbG (wkC (b+m) h (runN h m b d).2) k=k.2:=if_neg (by rw[ek];exact w)
     exact mem_map.mpr ⟨_,zuJ hk (by rw[lk];exact pos k hk),ek⟩
    have pos':∀k,k∈(runN h (m+1) b d).2->0<k.2:=by
     rw[aH]
     exact λk hk=>bE hk
    obtain⟨i,a1,a2,a3⟩:=zkd q (m+1) hj' pos' (by rw[show m+1+q=m+(q+1) by omega];exact e)
    exact⟨i,by omega,by omega,a3⟩
theorem zmr{h:Nat}{b:Int}{d:Ch}{i:Nat}:∀{n:Nat},i<n->(b+i,wkC (b+i) h (runN h i b d).2)∈(runN h n b d).1
 | n+1,hi=>by
   rw[aH]
   by_cases e:i=n
   ·subst e
    exact mem_append.mpr (.inr (mem_singleton.mpr rfl))
   ·exact mem_append.mpr (.inl (zmr (by omega)))
theorem zrR{h:Nat}{b:Int}{d:Ch}:∀n,(runN h n b d).1.Pairwise (λr q=>r.1<q.1)/\∀r,r∈(runN h n b d).1->r.1<b+n
 | 0=>⟨.nil,λr hr=>by cases hr⟩
 | n+1=>by
   obtain⟨p,u⟩:=zrR (h:=h) (b:=b) (d:=d) n
   rw[aH]
   refine⟨List.pairwise_append.mpr ⟨p,List.pairwise_singleton _ _,λr hr q hq=>?_⟩,λr hr=>?_⟩
   ·rw[mem_singleton.mp hq]
    exact u r hr
   ·rcases mem_append.mp hr with hr | hr
    ·have:=u r hr
     omega
    ·rw[mem_singleton.mp hr]
     show b+(n:Int)<b+((n+1:Nat):Int)
     omega
theorem zrd{L:al}{k v j:Int}:valI (putI L k v) j=if j=k then some v else valI L j:=by
 have h:=zde (dI L) (.inl k) (.inl j) (V.int v)
 rw[zrP,zph,zph]at h
 by_cases e:j=k
 ·rw[if_pos (by rw[e])]at h
  rw[if_pos e]
  cases z:valI (putI L k v) j with
  | none=>rw[z]at h;cases h
  | some u=>rw[z]at h;cases h;rfl
 ·rw[if_neg (λz=>e (sQ z))]at h
  rw[if_neg e]
  cases z:valI (putI L k v) j with
  | none=>
    rw[z]at h
    cases y:valI L j with
    | none=>rfl
    | some u=>rw[y]at h;cases h
  | some w=>
    rw[z]at h
    cases y:valI L j with
    | none=>rw[y]at h;cases h
    | some u=>rw[y]at h;cases h;rfl
theorem zfs{t j:Int}:∀{ns:List Int}{L:al},valI (zdN t ns L) j=if j∈ns then some t else valI L j
 | [],L=>by simp[zdN]
 | n::ns,L=>by
   show valI (zdN t ns (putI L n t)) j=_
   rw[zfs (ns:=ns),zrd]
   by_cases a:j∈ns
   ·rw[if_pos a,if_pos (tO _ a)]
   ·rw[if_neg a]
    by_cases e:j=n
    ·rw[if_pos e,if_pos (by rw[e];exact tN)]
    ·rw[if_neg e,if_neg (λz=>(mem_cons.mp z).elim e a)]
theorem zft{j:Int}:∀{rs:List (Int × List Int)}{L:al}{v:Int},rs.Pairwise (λr q=>r.1<q.1)->(valI L j=some v/\(∀r,r∈rs->v<=r.1))\/(∃r,r∈rs/\r.1=v/\j∈r.2)->∃u,valI (zcJ rs L) j=some u/\v<=u
 | [],L,v,_,h=>by
   rcases h with⟨h,_⟩ | ⟨r,hr,_⟩
   ·exact⟨v,h,rA _⟩
   ·cases hr
 | r::rs,L,v,p,h=>by
   rw[pairwise_cons]at p
   show ∃u,valI (zcJ rs (zdN r.1 r.2 L)) j=some u/\v<=u
   rcases h with⟨h,le⟩ | ⟨q,hq,e,hj⟩
   ·have lr:=le r tN
    by_cases a:j∈r.2
    ·obtain⟨u,h1,h2⟩:=zft (rs:=rs) (L:=zdN r.1 r.2 L) (v:=r.1) p.2 (.inl ⟨by rw[zfs,if_pos a],λq hq=>rX (p.1 q hq)⟩)
     exact⟨u,h1,by omega⟩
    ·exact zft p.2 (.inl ⟨by rw[zfs,if_neg a];exact h,λq hq=>le q (tO _ hq)⟩)
   ·rcases mem_cons.mp hq with z | hq
    ·subst z
     refine zft p.2 (.inl ⟨by rw[zfs,if_pos hj,e],λq hq=>?_⟩)
     rw[<-e]
     exact rX (p.1 q hq)
    ·exact zft p.2 (.inr ⟨q,hq,e,hj⟩)
section
variable{X:Cx}{ai:ae}{σ:St}{H:Hp}{s:Shared}
end
theorem zke{α β:Type}{F : α -> β->Prop}:∀{l₁:List α}{l₂:List β},l₁.length=l₂.length->(∀(j:Nat) a b,l₁[j]?=some a->l₂[j]?=some b->F a b)->Paired F l₁ l₂
 | [],[],_,_=>.nil
 | a::l₁,b::l₂,h,f=>.cons (f 0 a b rfl rfl) (zke (by simpa using h) λj x y hx hy=>f (j+1) x y hx hy)
theorem zfZ{α β:Type}{F : α -> β->Prop}:∀{l₁:List α}{l₂:List β},Paired F l₁ l₂->∀{j:Nat}{a : α}{b : β},l₁[j]?=some a->l₂[j]?=some b->F a b
 | _,_,.nil,j,a,b,h,_=>by simp at h
 | _,_,.cons x r,0,a,b,h1,h2=>by
   cases h1
   cases h2
   exact x
 | _,_,.cons x r,j+1,a,b,h1,h2=>zfZ r (j:=j) h1 h2
inductive Shw(K:am)(H:Hp):V->Str->Prop
 | non:Shw K H .non "None"
 | bl (b:Bool):Shw K H (.bl b) (if b then "True" else "False")
 | int (i:Int) (h:i.natAbs.log2<1920):Shw K H (.int i) (toString i)
 | str (x:Str) (h:(reprText x).length<=sizeLine):Shw K H (.str x) (reprText x)
 | lst {a:Addr} (i:Int) (h:SqL K H a [.int i]) (hs:(PyData.list [.int i]).showable=true) (hz:(PyData.list [.int i]).shown.length<=sizeLine):Shw K H (.ref a) (PyData.list [.int i]).shown
 | tup {a:Addr} (i:Int) (h:SqT K H a [.int i]) (hs:(PyData.tuple [.int i]).showable=true) (hz:(PyData.tuple [.int i]).shown.length<=sizeLine):Shw K H (.ref a) (PyData.tuple [.int i]).shown
section
variable{X:Cx}
end
section
variable{X:Cx}{tg:Expr}
end
section
variable{X:Cx}
end
abbrev Cel:=Addr × Obj × V
def zuK(p:Cel):HO:=.ext λh=>h.get? p.1=some p.2.1
structure CellOk(p:Cel):Prop where
 ex:∃u,p.2.1.data=.cell (some u)/\RelV p.2.2 u
structure FnV(P:Program)(w:World)(K:am)(mg:af)(bj:Heap)(k:Nat)(H:Hp)(f:Addr)(sp:Sp):Prop where
 obj:∃o fd,H f=some (.frz o (.own f))/\o.data=.func fd
 run:∀(A:Around)(outer:List Env)(s:Shared)(H1:Hp)(us:aj)(vs:List V)(Q:VK),Room k A->Env0 P w K mg bj A outer s H1->Same H H1->Vals vs us->sp vs H1 Q E0->
  codeAny (model P w) A (.call (.ref f) ⟨us,[]⟩) (λr s'=>∃u,r=.ok (.ret u)/\CE outer P w H1 s Q u s') s
section
variable{X:Cx}{k i:Nat}{x:Str}{p pos:Pos}{e:Expr}{es:List Expr}{t:TA}
end
structure LScope(scope:Scope)(x:Str)(N:List Str):Prop where
 kind:scope.kind=.function
 nocell:∀y∈scope.names,y.2≠.cell
 own:scope.names.lookup x=some .local
 head:N[0]?=some x
 apart:∀y,scope.names.lookup y=some .local->(y,NameKind.free)∉scope.names
structure CloV(H:Hp)(q:Str)(ar:Arguments)(body:Expr)(scope:Scope)(f:Addr)(cl:List (Str × Addr))(N:List Str)(cs:List Cel):Prop where
 ex:∃pm c ct oc us t o,H f=some (.frz o (.own f))/\o.data=.func (W.kla_fn "<lambda>" q ar body scope cl pm (.ref c) ct)/\H c=some (.frz oc (.own c))/\oc.data=.fields us/\us[1]?=some (.str q t)
 inj:∀y z c,cl.lookup y=some c->cl.lookup z=some c->y=z
 has:∀x,(x,NameKind.free)∈scope.names->∃c,cl.lookup x=some c
 cov:∀x c,cl.lookup x=some c->∃p,p∈cs/\p.1=c
 len:N.length=cs.length+1
 cap:∀(k:Nat)(p:Cel)(y:Str),N[k+1]?=some y->cs[k]?=some p->cl.lookup y=some p.1/\(y,NameKind.free)∈scope.names
 cel:∀p,p∈cs->H p.1=some (zuK p)/\CellOk p
 nd:(cs.map (·.1)).Nodup
theorem zhK{α:Type}(R:Nat -> α->Prop):∀n,(∀k,k<n->∃a,R k a)->∃l:List α,l.length=n/\∀k a,l[k]?=some a->R k a
 | 0,_=>⟨[],rfl,λk a h=>by simp at h⟩
 | n+1,h=>by
   obtain⟨l,e,r⟩:=zhK R n λk hk=>h k (by omega)
   obtain⟨a,ha⟩:=h n (by omega)
   refine⟨l++[a],by rw[tR,e];rfl,λk b hb=>?_⟩
   by_cases z:k<n
   ·rw[sR (by omega)]at hb
    exact r k b hb
   ·rw[sN (by omega),e]at hb
    cases y:k-n with
    | zero=>
      rw[y]at hb
      cases hb
      rw[show k=n by omega]
      exact ha
    | succ j=>rw[y]at hb;cases hb
end L2
namespace L2
open PySem PySem.Spec PyProof.Rows PySem.W
end L2
namespace PySem
open Sem (wp)
namespace F
def entry_dict_loop:entryFor table "dict.update.loop" = some Builtin.«dict.update.loop» := entryFor_of_tree (by kernel_rfl)
def plain_dict_loop:plainId "dict.update.loop" = true:=by decide +kernel
def miss_list_keys:typeLookup (.type "list") "keys" = pure none:=by rw[typeLookup_type,builtinLookup_eq_fast];kernel_rfl
end F
def zkf{prog:Program}{w:World}{A:Around}{E:ac}{s:Shared}{a:Addr}{o:Obj}{xs:Array Value}{k:Nat}{Q:Option Value->Shared->Prop}
    (hx:s.heap.get? a=some o) (hc:o.cls=.type "list") (hdat:o.data=.seq xs k) (hd:o.dict=none) (hA:A.handled=none)
    (h:∀h' tk,(∀b o,s.heap.get? b=some o->h'.get? b=some o)->Q none { s with heap:=h',toks:=tk }):
    wpAny (model prog w) A (getAttr? (.ref a) "keys") Q E s:=by
 obtain⟨c,dct,dat,sl⟩:=o
 cases(show c=_ from hc);cases(show dat=_ from hdat);cases(show dct=_ from hd)
 rcases s with⟨h0,gs,dr,n0,oz⟩
 have isL:∀tk',(⟨h0,gs,dr,tk',oz⟩:Shared).TypeIs (.ref a) "list" := λ_=>⟨_,hx,rfl⟩
 have v1:=sub_AttributeError;have v5:=am_list_getattr_none
 have v3:=F.slot_list_getattribute.lookup;have v4:=F.slot_list_getattribute.bind (.ref a)
 unfold getAttr? getAttrBy?;unfold getAttrBy
 repeat (any_goals (first | assumption | exact isL _ | ((with_reducible show wpAny _ _ (call (Value.builtin "list.__getattribute__") _ _) _ _ _);refine pZ F.slot_list_getattribute (isL _) am_entry_list_getattribute (F.args_list_getattribute_2 _ _) (meets_getattribute_miss_list a xs k sl "keys" _ F.miss_list_keys (by decide +kernel) (by decide +kernel)) ⟨hx,hA,λh' tk' e hx'=>?_⟩) | wp_step))
 rcases hx'.there with⟨_,_,he⟩
 have hE:∀tk'',(⟨h',gs,dr,tk'',oz⟩:Shared).TypeIs (.ref e) "AttributeError" := λ_=>⟨_,he,rfl⟩
 (show wpAny _ _ (getattributeRaised _ _ _ _ _ _ _) _ _ _);unfold getattributeRaised
 repeat (any_goals (first | assumption | exact hE _ | wp_step))
 exact h h' tk' hx'.keeps
section
variable{prog:Program}{w:World}{K:Type} [DecidableEq K] {knd:KeyKind prog w K} {A:Around} {R:Result->Shared->Prop}
def zga(kvs:List (K × Value)):List (Addr × K × Value × Value)->List (K × Value)
 | []=>kvs
 | p::ps=>zga (stored kvs p.2.1 p.2.2.2) ps
def znh(kvs:List (K × Value))(k:K)(v:Value):(stored kvs k v).length<=kvs.length+1:=by
 unfold stored
 split<;>simp
theorem zgb(d l it:Addr)(hh:A.handled=none)(ps:List (Addr × K × Value × Value))(n1:it≠d)(n2:it≠l)(n3:d≠l)(n4:∀p,p∈ps->p.1≠it/\p.1≠d)(hk:∀p,p∈ps->knd.is p.2.1 p.2.2.1=true):
  ∀(m i:Nat)(s:Shared)(kvs:List (K × Value)),ps.length-i=m->i<=ps.length->s.heap.IsListIter it l i->s.heap.IsList l (ps.map λp=>Value.ref p.1).toArray->(∀p,p∈ps->s.heap.IsTuple p.1 #[p.2.2.1,p.2.2.2])->s.heap.DictOf knd d kvs->kvs.length+(ps.length-i)<=sizeLine->
   (∀h' tk,(∀b o,b≠it->b≠d->s.heap.get? b=some o->h'.get? b=some o)->h'.DictOf knd d (zga kvs (ps.drop i))->R (.ok (.ret .none)) { s with heap:=h',toks:=tk })->
   codeAny (model prog w) A (.builtin "dict.update.loop" ⟨[.ref d,.ref it,rawInt i,.none],[]⟩) R s:=by
 intro m
 induction m with
 | zero=>
   intro i s kvs hm hi hit hl hp hd hz hR
   have e:i=ps.length:=by omega
   subst e
   refine sY F.entry_dict_loop ?_
   rw[sJ F.plain_dict_loop _]
   show wpAny _ A.in1 (pyNext (.ref it) >>= _) _ _ s
   refine tD (wpAny_pyNext_list_end hh hit hl (by simp) λh' eb=>?_)
   show wpAny _ A.in1 (Builtin.Dict.addKeywords d [] >>= λ_=>ret Value.none) _ _ _
   refine tD (tH ?_)
   refine tH (hR h' s.toks (λb o h1 h2 e=>eb b o h1 e) ?_)
   rw[List.drop_length]
   obtain⟨o,es,ep,ho,r⟩:=hd
   exact⟨o,es,ep,eb d o n1.symm ho,r⟩
 | succ m ih=>
   intro i s kvs hm hi hit hl hp hd hz hR
   have il:i<ps.length:=by omega
   have ei:ps[i]?=some ps[i]:=tj il
   have hpm:ps[i]∈ps:=sI il
   have ed:ps.drop i=ps[i]::ps.drop (i+1):=List.drop_eq_getElem_cons il
   generalize ps[i]=p at ei hpm ed
   refine sY F.entry_dict_loop ?_
   rw[sJ F.plain_dict_loop _]
   show wpAny _ A.in1 (pyNext (.ref it) >>= _) _ _ s
   refine tD (wpAny_pyNext_list_item hit hl (x:=.ref p.1) (by simp[ei]) λh' hit' sb=>?_)
   have kp:∀b o,b≠it->s.heap.get? b=some o->h'.get? b=some o:=λb o hb e=>(sb.2 b hb).trans e
   have htup:h'.IsTuple p.1 #[p.2.2.1,p.2.2.2]:=let ⟨o,e,r⟩:=hp p hpm;⟨o,kp _ o (n4 p hpm).1 e,r⟩
   have hd':h'.DictOf knd d kvs:=let ⟨o,es,ep,ho,r⟩:=hd;⟨o,es,ep,kp d o n1.symm ho,r⟩
   obtain⟨ot,ht1,ht2,nt,ht3⟩:=id htup
   show wpAny _ A.in1 (holding [Value.ref p.1] _ >>= _) _ _ _
   refine tD (t7 ?_)
   refine tD (qe ?_)
   unfold Builtin.Dict.pairItems
   refine tD (wpAny_typeOf (T := "tuple") ⟨ot,ht1,ht2⟩ ?_)
   rw[if_pos (by decide)]
   obtain⟨oc,od,dt,osl⟩:=ot
   cases(show dt=.seq #[p.2.2.1,p.2.2.2] nt from ht3)
   refine tD (m:=seqItems? (.ref p.1)) ?_
   unfold seqItems?
   refine tD (wpAny_load ht1 (tH (tH ?_)))
   show wpAny _ A.in1 (holding [p.2.2.1,p.2.2.2] (dictSet d p.2.2.1 p.2.2.2)) _ _ _
   refine t7 (wpAny_dictSet_pairs (hk p hpm) hd' (λh2 hd2 sb2=>?_) (by omega))
   have kp2:∀b o,b≠it->b≠d->s.heap.get? b=some o->h2.get? b=some o:=λb o h1 h3 e=>(sb2.2 b h3).trans (kp b o h1 e)
   refine tH ⟨qb F.plain_dict_loop _,?_⟩
   refine ih (i+1) _ (stored kvs p.2.1 p.2.2.2) (by omega) il ?_ ?_ (λq hq=>?_) hd2 (by have:=znh kvs p.2.1 p.2.2.2;omega) λh3 tk h4 h5=>?_
   ·obtain⟨o,e,r⟩:=hit'
    exact⟨o,(sb2.2 it n1).trans e,r⟩
   ·obtain⟨o,e,r⟩:=hl
    exact⟨o,kp2 l o n2.symm n3.symm e,r⟩
   ·obtain⟨o,e,r⟩:=hp q hq
    exact⟨o,kp2 q.1 o (n4 q hq).1 (n4 q hq).2 e,r⟩
   ·refine hR h3 tk (λb o h1 h2' e=>h4 b o h1 h2' (kp2 b o h1 h2' e)) ?_
    rw[ed]
    exact h5
def zhL{E:ac}{s:Shared}{l:Addr}{ol:Obj}{nl:Nat}(hh:A.handled=none)(ps:List (Addr × K × Value × Value)){Q:ac}(g1:s.heap.get? l=some ol)(g2:ol.cls=.type "list")(g3:ol.data=.seq (ps.map λp=>Value.ref p.1).toArray nl)(g4:ol.dict=none)
    (hp:∀p,p∈ps->s.heap.IsTuple p.1 #[p.2.2.1,p.2.2.2]) (hk:∀p,p∈ps->knd.is p.2.1 p.2.2.1=true) (hz:ps.length<=sizeLine)
    (h:∀h' tk,(∀b o,s.heap.get? b=some o->h'.get? b=some o)->h'.DictOf knd s.heap.objs.size (zga [] ps)->Q (.ref s.heap.objs.size) { s with heap:=h',toks:=tk }):
    wpAny (model prog w) A (call (.type "dict") [.ref l]) Q E s:=by
 refine callType_codes (Q₁:=λx t=>x=.ref s.heap.objs.size/\t = { s with heap:=s.heap.push { cls:=.type "dict",data:=.dict #[] } }) F.kt_called_dict (F.kt_typeCall_dict_1 _) F.entry_dict_init (kt_code_dict_new _ ⟨rfl,rfl⟩) ?_
 rintro obj s₁ ⟨rfl,rfl⟩
 have neu:(s.heap.push { cls:=.type "dict",data:=.dict #[] }).DictOf knd s.heap.objs.size []:=Heap.DictOf.new _
 have old1:∀b o,s.heap.get? b=some o->(s.heap.push { cls:=.type "dict",data:=.dict #[] }).get? b=some o:=λb o e=>tz _ e
 refine⟨neu.typeIs,F.args_dict_init_2 _ _,?_⟩
 unfold Builtin.«dict.__init__»;refine tD ?_
 unfold Builtin.Dict.selfAndRest;refine tD (wpAny_notOrdered_dict neu.typeIs ?_)
 show wpAny _ _ (pure (s.heap.objs.size,[Value.ref l])) _ _ _
 refine tH ?_
 show wpAny _ _ (Builtin.Dict.updateFrom "dict.__init__" s.heap.objs.size (.ref l) [] .none) _ _ _
 unfold Builtin.Dict.updateFrom;refine tD (wpAny_typeOf (T := "list") ⟨ol,old1 _ _ g1,g2⟩ ?_)
 rw[if_pos (by decide)]
 refine tD (zkf (old1 _ _ g1) g2 g3 g4 hh λh1 tk1 k1=>?_)
 rw[if_pos (by rfl)]
 refine tD (wpAny_rule ?_)
 have old2:∀b o,s.heap.get? b=some o->h1.get? b=some o:=λb o e=>k1 b o (old1 b o e)
 have hl2:h1.IsList l (ps.map λp=>Value.ref p.1).toArray:=⟨ol,old2 _ _ g1,g2,nl,g3⟩
 refine tD (r8 hl2 ?_)
 have lt:s.heap.objs.size<h1.objs.size:=by
  obtain⟨o,es,ep,ho,_⟩:=neu
  exact tI (k1 _ o ho)
 have old3:∀b o,h1.get? b=some o->(h1.push { cls:=.type "list_iterator",data:=.fields #[.ref l,.int 0 0] }).get? b=some o:=λb o e=>tz _ e
 have ltl:l<s.heap.objs.size:=tI g1
 have ltp:∀p,p∈ps->p.1<s.heap.objs.size:=λp hpp=>let ⟨o,e,_⟩:=hp p hpp;tI e
 refine tH ⟨qb F.plain_dict_loop _,zgb (A:=A.in1) (knd:=knd) s.heap.objs.size l h1.objs.size hh ps (qG lt) (qG (pj ltl lt)) (qG ltl) (λp hpp=>⟨tM (pj (ltp p hpp) lt),tM (ltp p hpp)⟩) hk ps.length 0 _ [] rfl (tV _) ⟨_,tJ _ rfl,rfl,rfl⟩ ⟨ol,old3 _ _ (old2 _ _ g1),g2,nl,g3⟩ (λp hpp=>?_) ?_ (by simpa using hz) λh' tk kp hd=>?_⟩
 ·obtain⟨o,e,r⟩:=hp p hpp
  exact⟨o,old3 _ _ (old2 _ _ e),r⟩
 ·obtain⟨o,es,ep,ho,r⟩:=neu
  exact⟨o,es,ep,old3 _ _ (k1 _ _ ho),r⟩
 ·refine⟨rfl,h h' tk (λb o e=>?_) hd⟩
  have lb:=tI e
  exact kp b o (tM (pj lb lt)) (tM lb) (old3 _ _ (old2 _ _ e))
end
end PySem
namespace L2
open PySem PySem.Spec PyProof.Rows
def aD(kvs:List (Key × V)):List (Key × V)->List (Key × V)
 | []=>kvs
 | p::ps=>aD (putK kvs p.1 p.2) ps
theorem KV.all{kvs:List (Key × V)}{vs:List (Key × Value)}{qs:List (Addr × Key × Value × Value)}{ps:List (Key × V)}(r:KV kvs vs)(h:Paired (λ(p:Key × V)(q:Addr × Key × Value × Value)=>p.1=q.2.1/\RelV p.2 q.2.2.2) ps qs):KV (aD kvs ps) (zga vs qs):=by
 induction h generalizing kvs vs with
 | nil=>exact r
 | cons x _ ih=>
   obtain⟨e,rv⟩:=x
   show KV (aD (putK _ _ _) _) (zga (stored _ _ _) _)
   rw[<-e]
   exact ih (r.put _ rv)
theorem zni{X:Cx}(hh:X.A.handled=none):zdH X (.type "dict") (λxs H Q=>∃(l:Addr)(bs:List (Addr × Key × V)),xs=[V.ref l]/\H l=some (.lst (bs.map λb=>V.ref b.1))/\(∀b,b∈bs->H b.1=some (.tup [kV b.2.1,b.2.2]))/\
  ∀d H2,Same H H2->H d=none->H2 d=some (.dK (aD [] (bs.map (·.2))))->Q (.ref d) H2):=by
 intro ai s σ H xs us Q I r h
 obtain⟨l,bs,rfl,hl,hb,q⟩:=h
 obtain⟨u,rfl,ru⟩:=zgU r
 cases(show u=Value.ref l from ru)
 obtain⟨hz,its,n,rv,g⟩:=(show _ from I.hok l _ hl)
 have hn:H s.heap.objs.size=none:=I.hok.fresh (tF _)
 have R:∀i,i<bs.length->∃q:Addr × Key × Value × Value,∃b,bs[i]?=some b/\q.1=b.1/\s.heap.IsTuple q.1 #[q.2.2.1,q.2.2.2]/\(zaV X.prog X.w).is q.2.1 q.2.2.1=true/\b.2.1=q.2.1/\RelV b.2.2 q.2.2.2:=λi hi=>by
  have eb:bs[i]?=some bs[i]:=tj hi
  have hm:=sI hi
  generalize bs[i]=b at eb hm
  obtain⟨_,ws,rw',p⟩:=(show _ from I.hok b.1 _ (hb b hm))
  obtain⟨u1,u2,rfl,r1,r2⟩:=aQ rw'
  have hkey:(zaV X.prog X.w).is b.2.1 u1=true:=by
   rw[ziC]
   cases hk:b.2.1 with
   | inl i=>
     rw[hk]at r1
     obtain⟨t,rfl⟩:=r1
     exact qg _
   | inr x=>
     rw[hk]at r1
     obtain⟨t,rfl⟩:=r1
     exact qg _
  exact⟨(b.1,b.2.1,u1,u2),b,eb,rfl,p,hkey,rfl,r2⟩
 obtain⟨qs,lq,rq⟩:=zhK _ bs.length R
 have eits:its=qs.map λp=>Value.ref p.1:=by
  have l1:its.length=bs.length:=by
   have:=rv.length
   rw[tm]at this
   exact this.symm
  refine List.ext_getElem? λi=>?_
  rw[getElem?_map]
  cases e:qs[i]? with
  | none=>
    have:=List.getElem?_eq_none_iff.mp e
    rw[rf (by omega)]
    rfl
  | some q'=>
    obtain⟨b,e1,e2,_⟩:=rq i q' e
    have il:i<its.length:=by
     have:=(List.getElem?_eq_some_iff.mp e).1
     omega
    have ei:=tj il
    have:=zfZ rv (show(bs.map λb=>V.ref b.1)[i]?=some (V.ref b.1) by rw[getElem?_map,e1];rfl) ei
    rw[ei]
    show some its[i]=some (Value.ref q'.1)
    rw[show its[i]=Value.ref b.1 from this,e2]
 have mem:∀q',q'∈qs->s.heap.IsTuple q'.1 #[q'.2.2.1,q'.2.2.2]/\(zaV X.prog X.w).is q'.2.1 q'.2.2.1=true:=λq' hq=>by
  obtain⟨i,hi,ei⟩:=t6 hq
  have e:=tj hi
  rw[ei]at e
  obtain⟨_,_,_,a3,a4,_⟩:=rq i q' e
  exact⟨a3,a4⟩
 have zq:qs.length<=sizeLine:=by
  rw[tm]at hz
  omega
 refine zhL (knd:=zaV X.prog X.w) hh qs g rfl (by rw[<-eits]) rfl (λq' hq=>(mem q' hq).1) (λq' hq=>(mem q' hq).2) zq λh' tk kp hd=>?_
 have rel:KV (aD [] (bs.map (·.2))) (zga [] qs):=KV.all .nil (zke (by rw[tm,lq]) λj p q' hp hq=>by
  obtain⟨b,e1,_,_,_,a5,a6⟩:=rq j q' hq
  rw[getElem?_map,e1]at hp
  cases hp
  exact⟨a5,a6⟩)
 have zl:(aD [] (bs.map (·.2))).length<=sizeLine:=by
  have:∀(ps:List (Key × V))(kvs:List (Key × V)),(aD kvs ps).length<=kvs.length+ps.length:=by
   intro ps
   induction ps with
   | nil=>intro kvs;exact tF _
   | cons p ps ih=>
     intro kvs
     have h1:=ih (putK kvs p.1 p.2)
     have h2:(putK kvs p.1 p.2).length<=kvs.length+1:=by
      unfold putK
      split
      ·rw[tm]
       omega
      ·rw[tR]
       exact tF _
     show(aD (putK kvs p.1 p.2) ps).length<=_
     rw[length_cons]
     omega
  have:=this (bs.map (·.2)) []
  rw[tm,length_nil]at this
  omega
 exact⟨.ref _,_,I.laid (a:=s.heap.objs.size) (o:=.dK (aD [] (bs.map (·.2)))) (h':=h') (t':=tk) kp (tF _) (zrB zl (beq_eq_false_iff_ne.mpr (Ne.symm (tM I.big))) rel hd),rfl,q _ _ (zbs hn _) hn zar⟩
theorem ziT:∀(ps kvs:List (Key × V)),((kvs++ps).map (·.1)).Nodup->aD kvs ps=kvs++ps
 | [],kvs,_=>by simp[aD]
 | p::ps,kvs,nd=>by
   have no:valV kvs p.1=none:=by
    cases e:valV kvs p.1 with
    | none=>rfl
    | some v=>
      rw[t4,List.nodup_append]at nd
      have hm:p.1∈kvs.map (·.1):=by
       clear nd
       induction kvs with
       | nil=>rw[zqt]at e;cases e
       | cons q kvs ih=>
         by_cases z:q.1=p.1
         ·rw[t3,z]
          exact tN
         ·rw[zbj z]at e
          exact tO _ (ih e)
      exact(nd.2.2 _ hm _ tN rfl).elim
   show aD (putK kvs p.1 p.2) ps=_
   rw[zqu _ no,ziT ps (kvs++[(p.1,p.2)]) (by rw[pH];exact nd),pH]
   rfl
def zuL{L:al}(nd:(L.map (·.1)).Nodup):aD [] (dI L)=dI L:=by
 rw[ziT]
 ·rfl
 ·show((dI L).map (·.1)).Nodup
  unfold dI
  rw[t5]
  have:(L.map ((λx:Key × V=>x.1) ∘ λp:Int × Int=>((Sum.inl p.1:Key),V.int p.2)))=(L.map (·.1)).map (λi=>(Sum.inl i:Key)):=by
   rw[t5]
   rfl
  rw[this,rj,pV]
  exact(nodup_iff_pairwise_ne.mp nd).imp λh z=>h (sQ z)
def zvN(K:am):List V->Hp->VK->Prop:=λxs H Q=>∃p ys,xs=[.ref p]/\(SqL K H p ys\/SqT K H p ys)/\∀l H2,Same H H2->H l=none->H2 l=some (.lst ys)->Q (.ref l) H2
def znj{X:Cx}{K:am}(hK:X.K=K):zdH X (.type "list") (zvN K):=hK▸zhy
end L2
namespace PySem
open Sem (wp)
section
variable{prog:Program}{w:World}{A:Around}{E:ac}{s:Shared}
end
end PySem
namespace PySem
open Sem (wp)
open AutoSeq1 (wpAny_loadPart')
set_option maxHeartbeats 8000000 in
section
variable{prog:Program}{w:World}{A:Around}{E:ac}{s:Shared}
end
end PySem
namespace L2
open PySem PySem.Spec PyProof.Rows
section
variable{M:Model}{A:Around}{E:ac}{s:Shared}{env:Env}
end
structure Zap(z TI TO i1 i2:Addr):Prop where
 n1:TI≠z
 n2:TO≠z
 n3:i1≠z
 n4:i2≠z
 n5:TI≠TO
 n6:TI≠i1
 n7:TI≠i2
 n8:TO≠i1
 n9:TO≠i2
 n0:i1≠i2
structure RowOk(ds:List Cl)(lf:Int->Int)(h:Nat)(t:Int)(ws:List Int):Prop where
 len:ws.length<=h
 nd:ws.Nodup
 inn:∀w,w∈ws->∃d,d∈ds/\d.n=w/\1<=lf w/\d.came<=t
 srt:∀(i:Nat) d e,ws[i]?=some d.n->ws[i+1]?=some e.n->d∈ds->e∈ds->ahd d e t=true
 rest:∀d,d∈ds->d.n∉ws->0<lf d.n->d.came<=t->ws.length=h/\∀e,e∈ds->ws.getLast?=some e.n->ahd e d t=true
def dn(ws:List Int)(L:al):List (Int × Int):=L.map λp=>(p.1,if p.1∈ws then p.2-1 else p.2)
def zre{a:Addr}{ob:Obj}{kvs:List (Key × V)}{g:TG}{tb:TS}{D:Ends}{σ:St}{H:Hp}(Pv:Nat->St->Hp->Prop)(h0:Pv 0 σ H)(hl:∀i σ H,Pv i σ H->H a=some (.frz ob (.dK kvs)))
    (hs:∀i kv σ H,kvs[i]?=some kv->Pv i σ H->g (kV kv.1) σ H λσ2 H2=>tb { D with nx:=Pv (i+1),ct:=Pv (i+1),bk:=D.nx } σ2 H2) (hd:∀ σ H,Pv kvs.length σ H->D.nx σ H):
    ∃W:Nat->Nat->St->Hp->Prop,(∃m,W 0 m σ H)/\∀i m σ H,W i m σ H->
     ((Itd a ob kvs).stop i H/\D.nx σ H)\/((Itd a ob kvs).go i H/\∃N:St->Hp->Prop,(∀ σ' H',N σ' H'->∃m',m'<m/\W (i+1) m' σ' H')/\∀x H',(Itd a ob kvs).yld i H x H'->g x σ H' λσ2 H2=>tb { D with nx:=N,ct:=N,bk:=D.nx } σ2 H2):=by
 refine⟨λi m σ H=>m=kvs.length-i/\i<=kvs.length/\Pv i σ H,⟨kvs.length,by simp,tV _,h0⟩,?_⟩
 rintro i m σ H ⟨rfl,hi,p⟩
 have q:=hl i σ H p
 by_cases hlt:i<kvs.length
 ·refine .inr ⟨⟨q,hlt⟩,Pv (i+1),λσ' H' p'=>⟨kvs.length-(i+1),by omega,rfl,hlt,p'⟩,λx H' y=>?_⟩
  obtain⟨rfl,kv,hk,rfl⟩:=y
  exact hs i kv σ _ hk p
 ·have e:i=kvs.length:=by omega
  subst e
  exact .inl ⟨⟨q,tF _⟩,hd σ H p⟩
end L2
namespace PySem
open Sem (wp)
section
variable{prog:Program}{w:World}{A:Around}{E:ac}{s:Shared}
end
end PySem
namespace PySem
open Sem (wp)
section
variable{prog:Program}{w:World}{A:Around}{E:ac}{s:Shared}
end
end PySem
namespace L2
open PySem PySem.Spec PyProof.Rows
section
variable{X:Cx}
end
section
variable{X:Cx}
end
section
variable{X:Cx}
def zvO(K:am):V->Option Int->Option Int->Hp->VK->Prop:=λx lo hi H Q=>∃a xs,x=.ref a/\SqT K H a xs/\
 ¬(HT.sIx xs.length 0 lo=0/\HT.sIx xs.length xs.length hi=xs.length)/\∀p H2,Same H H2->H p=none->H2 p=some (.tup (cutV xs lo hi))->Q (.ref p) H2
def zti{K:am}(hK:X.K=K):SlR X (zvO K):=by
 subst hK
 intro ai s σ H v u vl vu lo hi sl Q I rx hs pl pu h
 obtain⟨a,xs,e,hx,ne,q⟩:=h
 exact ztY ai s σ H v u vl vu lo hi sl Q I rx hs pl pu ⟨a,xs,e,hx,ne,λp n=>q p _ (zbs n _) n zar⟩
end
section
variable{X:Cx}{tg:Expr}
end
structure MOk(CX:CXT)(P:Program)(w:World)(K:am)(mg:af)(bj:Heap)(k:Nat)(C:Addr)(m:Str)(sp:Sp):Prop where
 cl:Cls K C
 ex:∃f fd ps,Meth K C m f/\FnOk P w K mg bj CX k f fd ps sp/\zbq K fd ps []
inductive EMth(P:Program)(w:World)(K:am)(mg:af)(bj:Heap)(CX:CXT)(k:Nat)(m:Str)(E:XK)(t:TA)(σ:St)(Q:VK)(x:V)(H:Hp):Prop
 | mk (a C dx:Addr) (fs:List (Str × V)) (sp:Sp) (hx:x=.ref a) (h:H a=some (.ins C dx fs)) (l:fs.lookup m=none) (M:MOk CX P w K mg bj k C m sp) (q:t σ H λvs H2=>sp (x::vs) H2 Q E):EMth P w K mg bj CX k m E t σ Q x H
def tMth(P:Program)(w:World)(K:am)(mg:af)(bj:Heap)(CX:CXT)(k:Nat)(m:Str)(E:XK)(ta:TE)(t:TA):TE:=λσ H Q=>ta σ H (EMth P w K mg bj CX k m E t σ Q)
section
variable{X:Cx}{CX:CXT}{k:Nat}{E:XK}{m:Str}{pos apos:Pos}{e o:Expr}{es:List Expr}{ta:TE}{t:TA}
def zdD{pl:Sem Bool}(he:PE X o ta)(hr:Room k X.A)(hx:zcM CX X E)(ha:PA X (e::es) t)
    (hst:starEach (e::es) X.env=(false,eval e X.env)::starEach es X.env:=by rfl) (hpl:(backTo pos (starEach es X.env)).any (·.1)=false:=by rfl)
    (ht:eval (.Call (.Attribute o m apos) (e::es) [] pos) X.env=(do
      let ov <-eval o X.env
      standAt apos.atName
      let (f,first) <-holding [ov] (getMethod ov m pl)
      callWith pos f first (backTo pos (starEach (e::es) X.env)) (backToKw pos (keywordEach [] X.env))):=by rfl):
    PE X (.Call (.Attribute o m apos) (e::es) [] pos) (tMth X.prog X.w X.K X.mg X.bj CX k m E ta t):=by
 with_unfolding_all
  intro ai s σ H Q I h
  refine pd (pl:=pl) (thn (he ai s σ H _ I h) λu s1 ⟨x,H1,I1,rx,a,C,dx,fs,sp,ex,ea,l,M,q⟩=>?_) ht
  subst ex
  obtain rfl:u=Value.ref a:=rx
  obtain⟨f,fd,ps,hm,F,hb⟩:=M.ex
  refine bC I1 ea M.cl hm l ?_
  refine qH (first:=[.ref a]) (h₀:=X.bj) I.ok.mod.kin hm.kp (thn (ha pos ai s1 σ H1 _ I1 q) λus s2 ⟨vs,H2,I2,r,q2⟩=>⟨I2.kIn,?_⟩) hst hpl
  exact zjK (us:=.ref a::us) (vs:=.ref a::vs) (dvs:=[]) F hr hb .nil hx I2 (.cons rfl r) (by rw[rE];exact q2)
def zaO{pl:Sem Bool}(he:PE X o ta)(hr:Room k X.A)(hx:zcM CX X E)
    (ht:eval (.Call (.Attribute o m apos) [] [] pos) X.env=(do
      let ov <-eval o X.env
      standAt apos.atName
      let (f,first) <-holding [ov] (getMethod ov m pl)
      callWith pos f first (backTo pos (starEach [] X.env)) (backToKw pos (keywordEach [] X.env))):=by rfl):
    PE X (.Call (.Attribute o m apos) [] [] pos) (tMth X.prog X.w X.K X.mg X.bj CX k m E ta tNil):=by
 with_unfolding_all
  intro ai s σ H Q I h
  refine pd (pl:=pl) (thn (he ai s σ H _ I h) λu s1 ⟨x,H1,I1,rx,a,C,dx,fs,sp,ex,ea,l,M,q⟩=>?_) ht
  subst ex
  obtain rfl:u=Value.ref a:=rx
  obtain⟨f,fd,ps,hm,F,hb⟩:=M.ex
  refine bC I1 ea M.cl hm l ?_
  exact W.callWith_K0 (first:=[.ref a]) I1.kIn hm.kp (zjK (us:=[.ref a]) (vs:=[.ref a]) (dvs:=[]) F hr hb .nil hx I1 (.cons rfl .nil) q)
end
structure FunE(K:am)(x qual:Str)(st:Stmt)(f:Addr)(fd:FuncData)(u:Value):Prop where
 ex:∃(oc:Value)(od:ak)(T:Addr)(kV doc pm:Value)(an:ak)(cdv ct:Value)(osl:ap)(o:Obj)(n:Nat),
  fd=W.fnOf x qual (zav st) (zap st) (zac st) (.ref T) kV doc pm an cdv ct/\K.lookup f=some ⟨oc,od,.func fd,osl⟩/\W.codeIn K cdv qual=true/\K.lookup T=some o/\o.data=.seq #[u] n
 kp:W.keepIn K (.ref f)=true
def ztj{K:am}{x qual:Str}{st:Stmt}{f T:Addr}{oc:Value}{od an:ak}{osl:ap}{kV doc pm cdv ct u:Value}{o:Obj}{n:Nat}
    (l:K.lookup f=some ⟨oc,od,.func (W.fnOf x qual (zav st) (zap st) (zac st) (.ref T) kV doc pm an cdv ct),osl⟩) (c:W.codeIn K cdv qual=true) (k:W.keepIn K (.ref f)=true)
    (t:K.lookup T=some o) (d:o.data=.seq #[u] n):FunE K x qual st f (W.fnOf x qual (zav st) (zap st) (zac st) (.ref T) kV doc pm an cdv ct) u:=⟨⟨oc,od,T,kV,doc,pm,an,cdv,ct,osl,o,n,rfl,l,c,t,d⟩,k⟩
def FunE.ok{P:Program}{w:World}{K:am}{mg:af}{bj:Heap}{x qual:Str}{st:Stmt}{f:Addr}{fd:FuncData}{u:Value}{N ps:List Str}{k:Nat}{sp:Sp}(F:FunE K x qual st f fd u)(S:FnScope N ps (zac st))(len:∀vs H Q E,sp vs H Q E->vs.length=ps.length)
    (hbody:∀(cdv:Value)(A:Around)(outer:List Env)(s:Shared)(H:Hp)(vs:List V)(Q:VK)(E:XK),Room k (A.deeper (envOfC qual (zac st) s.heap.objs.size f cdv))->sp vs H Q E->
      ∃t,PSs (cxOf CX0 P w K mg bj N qual (zac st) f cdv A outer s H E).nox (zap st) t/\t { nx:=λ_ H'=>Q .non H',rt:=Q } (zgV N vs) H):FnOk P w K mg bj CX0 (k+1) f fd ps sp:=by
 obtain⟨oc,od,T,kV,doc,pm,an,cdv,ct,osl,o,n,rfl,lk,hcd,_,_⟩:=F.ex
 refine bc lk hcd S len λA outer s H vs Q E hr hsp=>?_
 obtain⟨t,h,q⟩:=hbody cdv A outer s H vs Q E hr hsp
 exact⟨t,h.nox,q⟩
def FunE.binds{K:am}{x qual:Str}{st:Stmt}{f:Addr}{fd:FuncData}{u:Value}{ps:List Str}(F:FunE K x qual st f fd u)
    (h:∀(dV kV doc pm:Value)(an:ak)(cdv ct:Value)(us:aj),us.length=ps.length->∃k:Option (Array Value)->Sem (List (Str × Value)),bindArgs (W.fnOf x qual (zav st) (zap st) (zac st) dV kV doc pm an cdv ct) ⟨us,[]⟩=(seqItems? dV >>= k)/\k (some #[u])=pure (ps.zip us)):zbq K fd ps []:=by
 obtain⟨oc,od,T,kV,doc,pm,an,cdv,ct,osl,o,n,rfl,lk,hcd,t,d⟩:=F.ex
 intro s us KX hl
 obtain⟨k,k1,k2⟩:=h (.ref T) kV doc pm an cdv ct us (by simpa using hl)
 exact rJ (T:=T) (o:=o) (items := #[u]) (n:=n) (k:=k) rfl (KX T o t) d k1 (by rw[k2,rE])
def FunE.bindsD{K:am}{x qual:Str}{st:Stmt}{f:Addr}{fd:FuncData}{u:Value}{ps:List Str}(F:FunE K x qual st f fd u)
    (h:∀(dV kV doc pm:Value)(an:ak)(cdv ct:Value)(us:aj),(us++[u]).length=ps.length->∃k:Option (Array Value)->Sem (List (Str × Value)),bindArgs (W.fnOf x qual (zav st) (zap st) (zac st) dV kV doc pm an cdv ct) ⟨us,[]⟩=(seqItems? dV >>= k)/\k (some #[u])=pure (ps.zip (us++[u]))):zbq K fd ps [u]:=by
 obtain⟨oc,od,T,kV,doc,pm,an,cdv,ct,osl,o,n,rfl,lk,hcd,t,d⟩:=F.ex
 intro s us KX hl
 obtain⟨k,k1,k2⟩:=h (.ref T) kV doc pm an cdv ct us hl
 exact rJ (T:=T) (o:=o) (items := #[u]) (n:=n) (k:=k) rfl (KX T o t) d k1 k2
def zms(K:am)(names:List Str):Sp:=λvs H Q _=>∃(x C dx:Addr)(args:List V),vs=.ref x::args/\H x=some (.ins C dx [])/\Cls K C/\(∀f,f∈names->zal K C f)/\args.length=names.length/\
 ∀H',But x H H'->H' x=some (.ins C dx (names.zip args))->Q .non H'
structure Mak(P:Program)(w:World)(K:am)(mg:af)(bj:Heap)(x:Str)(C:Addr)(k:Nat)(names:List Str)(dv:V):Prop where
 cl:Cls K C
 no:∀f,f∈names->zal K C f
 ex:∃f fd ps u,Mk K C f/\FnOk P w K mg bj CX0 k f fd ps (zms K names)/\zbq K fd ps []/\(RelV dv u->zbq K fd ps [u])/\RelV dv u/\mg x=some (.ref C)
def tMak(C:Addr)(names:List Str)(dvs:List V)(t:TA):TE:=λσ H Q=>t σ H λvs H1=>(vs++dvs).length=names.length/\∀a dx H2,Same H1 H2->H1 a=none->H2 a=some (.ins C dx (names.zip (vs++dvs)))->Q (.ref a) H2
section
variable{X:Cx}{k:Nat}{x:Str}{C:Addr}{names:List Str}{dv:V}{p pos:Pos}{e:Expr}{es:List Expr}{t:TA}
def zkg{H:Hp}{vs:List V}{Q:VK}(cl:Cls X.K C)(no:∀f,f∈names->zal X.K C f)(l:vs.length=names.length)(q:∀a dx H2,Same H H2->H a=none->H2 a=some (.ins C dx (names.zip vs))->Q (.ref a) H2):
    ∀y dx,H y=none->H dx=none->dx≠y->zms X.K names (.ref y::vs) (upd (upd H dx (.own y)) y (.ins C dx [])) (λv H2=>v=.non/\Q (.ref y) H2) E0:=λy dx ny nd ne=>
 ⟨y,C,dx,vs,rfl,zar,cl,no,l,λH' k h=>⟨rfl,q y dx H' (λb o e=>by
   have b1:b≠y:=λz=>by rw[z,ny]at e;cases e
   have b2:b≠dx:=λz=>by rw[z,nd]at e;cases e
   refine k b o b1 ?_
   rw[zaw b1,zaw b2]
   exact e) ny h⟩⟩
def zrS(M:Mak X.prog X.w X.K X.mg X.bj x C k names dv)(hr:Room (k+1) X.A)(hg:Gl X x)(ha:PA X (e::es) t)(hdb:(x==("__debug__" : Str))=false:=by decide)
    (he:starEach (e::es) X.env=(false,eval e X.env)::starEach es X.env:=by rfl) (hpl:(backTo pos (starEach es X.env)).any (·.1)=false:=by rfl):PE X (.Call (.Name x p) (e::es) [] pos) (tMak C names [] t):=by
 obtain⟨f,fd,ps,u,mk,F,b,_,_,m⟩:=M.ex
 with_unfolding_all
  intro ai s σ H Q I h
  refine sH (zhg I hg m ?_ hdb)
  refine qH (h₀:=X.bj) I.ok.mod.kin mk.kp (thn (ha pos ai s σ H _ I h) λus s1 ⟨vs,H1,I1,r,l,q⟩=>⟨I1.kIn,?_⟩) he hpl
  exact dQ mk F hr b .nil zaT I1 r (zkg M.cl M.no l q)
def zlh(M:Mak X.prog X.w X.K X.mg X.bj x C k names dv)(hr:Room (k+1) X.A)(hg:Gl X x)(ha:PA X (e::es) t)(hdb:(x==("__debug__" : Str))=false:=by decide)
    (he:starEach (e::es) X.env=(false,eval e X.env)::starEach es X.env:=by rfl) (hpl:(backTo pos (starEach es X.env)).any (·.1)=false:=by rfl):PE X (.Call (.Name x p) (e::es) [] pos) (tMak C names [dv] t):=by
 obtain⟨f,fd,ps,u,mk,F,_,b,ru,m⟩:=M.ex
 with_unfolding_all
  intro ai s σ H Q I h
  refine sH (zhg I hg m ?_ hdb)
  refine qH (h₀:=X.bj) I.ok.mod.kin mk.kp (thn (ha pos ai s σ H _ I h) λus s1 ⟨vs,H1,I1,r,l,q⟩=>⟨I1.kIn,?_⟩) he hpl
  exact dQ mk F hr (b ru) (.cons ru .nil) zaT I1 r (zkg M.cl M.no l q)
end
structure Own(K:am)(C:Addr):Prop where
 cl:Cls K C
 ha:W.findIn K (.ref C) "__class__" = some (some (.builtin "object.__class__"))
 hn:W.specialIn K (.builtin "object.__class__") "__get__" = some (some (.builtin "getset_descriptor.__get__"))
 htk:W.takesIn K (.builtin "object.__class__")=some true
 hm:W.mroIn K C (.type "object")=some true
def Own.ty{K:am}{C a dx:Addr}{H:Hp}{fs:List (Str × V)}(o:Own K C)(e:H a=some (.ins C dx fs)):TyOf K H (.ref a) (.ref C):=.ins e o.cl o.ha o.hn o.htk o.hm
structure Mfn(K:am)(x qual:Str)(st:Stmt)(ps:List Str)(f:Addr)(fd:FuncData):Prop where
 F:Fun K x qual st f fd
 b:zbq K fd ps []
structure MfnE(K:am)(x qual:Str)(st:Stmt)(ps:List Str)(f:Addr)(fd:FuncData)(u:Value):Prop where
 F:FunE K x qual st f fd u
 b:zbq K fd ps []
 bd:zbq K fd ps [u]
def MfnE.mak{P:Program}{w:World}{K:am}{mg:af}{bj:Heap}{x qual cn:Str}{st:Stmt}{ps names:List Str}{f C:Addr}{fd:FuncData}{u:Value}{k:Nat}{dv:V}
    (D:MfnE K x qual st ps f fd u) (G:FnOk P w K mg bj CX0 k f fd ps (zms K names)) (cl:Cls K C) (no:∀f,f∈names->zal K C f) (mk:Mk K C f) (m:mg cn=some (.ref C)) (r:RelV dv u):Mak P w K mg bj cn C k names dv:=
 ⟨cl,no,f,fd,ps,u,mk,G,D.b,λ_=>D.bd,r,m⟩
inductive EFldS(K:am)(f:Str)(y:V)(N:Hp->Prop)(x:V)(H:Hp):Prop
 | mk (a C dx:Addr) (fs:List (Str × V)) (hx:x=.ref a) (h:H a=some (.ins C dx fs)) (c:Cls K C) (n:zal K C f) (l:fs.length<1000) (q:∀H3,But a H H3->H3 a=some (.ins C dx (putF f y fs))->N H3):EFldS K f y N x H
def zvP(K:am)(ta tv:TE)(f:Str):TS:=λD σ H=>tv σ H λy H1=>ta σ H1 (EFldS K f y (D.nx σ))
section
variable{X:Cx}{o value:Expr}{f:Str}{pos pos':Pos}{ta tv:TE}
def zaM(ha:PE X o ta)(hv:PE X value tv)(hs:swapsWith value (some (.Attribute o f pos')) pos.line X.env=pure false:=by rfl):PS X (.Assign [.Attribute o f pos'] value pos) (zvP X.K ta tv f):=by
 with_unfolding_all
  intro ai s σ H D I h
  refine plainObj_wpAny_Assign_Attribute (thn (hv ai s σ H _ I h) λu s1 ⟨y,H1,I1,ry,q⟩=>thn (ha ai s1 σ H1 _ I1 q) λov s2 ⟨x,H2,I2,rx,a,C,dx,fs,ex,ea,c,n,l,q2⟩=>?_) hs
  subst ex
  obtain rfl:ov=Value.ref a:=rx
  exact ziE I2 ea c n l ry λs3 I3=>⟨σ,_,I3,q2 _ (But.upd a H2 _) zar⟩
end
section
variable{X:Cx}{k:Nat}{ps:List Str}{sp:Sp}{x:Str}{p pos:Pos}
end
section
variable{κ:Type} [DecidableEq κ]
def metK(val:Nat -> κ):Nat->List κ
 | 0=>[]
 | i+1=>if val i∈metK val i then metK val i else metK val i++[val i]
theorem zpj(val:Nat -> κ):∀i,(metK val i).length<=i
 | 0=>tF _
 | i+1=>by
   have ih:=zpj val i
   show(if val i∈metK val i then metK val i else metK val i++[val i]).length<=i+1
   split
   ·omega
   ·rw[tR]
    show _+1<=i+1
    omega
theorem zhe(val:Nat -> κ):∀i k,k∈metK val i↔∃j,j<i/\val j=k
 | 0,k=>⟨λh=>(not_mem_nil h).elim,λ⟨j,h,_⟩=>absurd h (Nat.not_lt_zero j)⟩
 | i+1,k=>by
   have ih:=zhe val i
   show k∈(if val i∈metK val i then metK val i else metK val i++[val i])↔_
   constructor
   ·intro h
    split at h
    ·obtain⟨j,a,b⟩:=(ih k).mp h
     exact⟨j,by omega,b⟩
    ·rcases mem_append.mp h with h | h
     ·obtain⟨j,a,b⟩:=(ih k).mp h
      exact⟨j,by omega,b⟩
     ·exact⟨i,re i,(mem_singleton.mp h).symm⟩
   ·rintro⟨j,a,b⟩
    by_cases e:j=i
    ·subst e
     split
     ·rename_i c
      rw[<-b]
      exact c
     ·exact mem_append.mpr (.inr (by rw[b];exact mem_singleton.mpr rfl))
    ·have m:=(ih k).mpr ⟨j,by omega,b⟩
     split
     ·exact m
     ·exact mem_append.mpr (.inl m)
theorem zmt(val:Nat -> κ):∀i,(∀a b,a<i->b<i->val a=val b->a=b)->(metK val i).length=i
 | 0,_=>rfl
 | i+1,h=>by
   have ih:=zmt val i λa b x y=>h a b (by omega) (by omega)
   show(if val i∈metK val i then metK val i else metK val i++[val i]).length=i+1
   rw[if_neg λc=>?_,tR,ih]
   ·rfl
   ·obtain⟨j,a,b⟩:=(zhe val i (val i)).mp c
    have:=h j i (by omega) (by omega) b
    omega
abbrev nset(led:Bool):Obj := { cls:=.type "set",dict:=none,data:=.set #[] 0 (.fresh 0 0 led) }
variable{prog:Program}{w:World}{knd:KeyKind prog w κ}
def SetOf.conv{h:Heap}{a:Addr}{S S' : κ->Bool}{n n':Nat}(hS:h.SetOf knd a S n)(e:∀k,S k=S' k)(en:n=n'):h.SetOf knd a S' n':=by
 cases(show S=S' from funext e)
 cases en
 exact hS
theorem zrf{A:Around}{R:Result->Shared->Prop}{it:Addr}{fp wr:List Addr}{G:Array GenState->Array GenState->Prop}{n:Nat}{P:Nat->Value->Prop}{St:Nat->Shared->Prop}
  (W:WalksS prog w A.in1 it fp wr G n P St) (d:Addr) (hd:d∉fp) (val:Nat -> κ) (hv:∀i v,P i v->knd.is (val i) v=true/\v.scannable=true) (hb:n+1<scanBound):∀(k i:Nat)(s:Shared),n-i=k->i<=n->St i s->
    s.heap.SetOf knd d (λy=>decide (y∈metK val i)) (metK val i).length->
    (∀s',Moved (d::wr) G s s'->s'.heap.SetOf knd d (λy=>decide (y∈metK val n)) (metK val n).length->R (.ok (.ret .none)) s')->
    codeAny (model prog w) A (.builtin "set.update.loop" ⟨[.ref d,.ref it],[]⟩) R s:=by
 have dw:d∉wr:=λz=>hd (W.sub _ z)
 have sb:∀b∈wr,b∈d::wr:=λb z=>tO _ z
 intro k
 induction k with
 | zero=>
   intro i s e1 e2 st hS q
   obtain rfl:i=n:=by omega
   refine sY qf ?_
   rw[sJ sU _]
   refine tD (m:=pyNext (.ref it)) (W.done s _ _ st λs' mv=>?_)
   refine tH (a:=Fin.done (.ret Value.none)) (q s' (mv.mono sb) ?_)
   obtain⟨o,es,ep,t,ho,rest⟩:=hS
   exact⟨o,es,ep,t,mv.heap d _ dw ho,rest⟩
 | succ k ih=>
   intro i s e1 e2 st hS q
   have lt:i<n:=by omega
   refine sY qf ?_
   rw[sJ sU _]
   refine tD (m:=pyNext (.ref it)) (W.item i s _ _ lt st λv s' hp st' mv=>?_)
   obtain⟨hk,hs⟩:=hv i v hp
   have hS':s'.heap.SetOf knd d (λy=>decide (y∈metK val i)) (metK val i).length:=by
    obtain⟨o,es,ep,tb,ho,rest⟩:=hS
    exact⟨o,es,ep,tb,mv.heap d _ dw ho,rest⟩
   refine tD (m:=holding [v] (setAdd d v)) (t7 ?_)
   unfold setAdd
   refine t7 (tD (knd.pyHash (k:=val i) hk ?_))
   have room:(metK val i).length+1<scanBound:=by
    have:=zpj val i
    omega
   refine wpAny_setAddHashed_of (knd:=knd) (s := { s' with toks:=s'.toks+1 }) hk hs hS' room λh' z2 hS2=>?_
   have hS3:h'.SetOf knd d (λy=>decide (y∈metK val (i+1))) (metK val (i+1)).length:=by
    refine SetOf.conv hS2 (λy=>?_) ?_
    ·have:(y∈metK val (i+1))↔(y∈metK val i\/y=val i):=by
      rw[zhe,zhe]
      constructor
      ·rintro⟨j,a,b⟩
       by_cases c:j=i
       ·exact .inr (by rw[<-b,c])
       ·exact .inl ⟨j,by omega,b⟩
      ·rintro(⟨j,a,b⟩ | c)
       ·exact⟨j,by omega,b⟩
       ·exact⟨i,re i,c.symm⟩
     rw[<-Bool.decide_or]
     exact decide_eq_decide.mpr this.symm
    ·show _=(if val i∈metK val i then metK val i else metK val i++[val i]).length
     by_cases c:val i∈metK val i
     ·simp[c]
     ·simp[c]
   refine tH ⟨qb sU _,ih (i+1) _ (by omega) lt (W.frame _ s' _ _ st' (rn _) λb hb' o e=>?_) hS3 λs'' mv2 hS4=>?_⟩
   ·rw[z2.2 b λz=>hd (by rw[<-z];exact hb')]
    exact e
   ·refine q s'' (Moved.trans W.gtrans ((mv.mono sb).then_heap (rn _) λb o hb' e=>?_) mv2) hS4
    rw[z2.2 b λz=>hb' (by rw[z];exact tN)]
    exact e
theorem zpk{A:Around}{E:ac}{s:Shared}{l:Addr}{items:Array Value}{Q:ac}(hh:A.handled=none)(hl:s.heap.IsList l items)(val:Nat -> κ)(hv:∀i v,items[i]?=some v->knd.is (val i) v=true/\v.scannable=true)
  (hb:items.size+1<scanBound) (h:∀(h':Heap)(tk:Nat),h'.SetOf knd s.heap.objs.size (λy=>decide (y∈metK val items.size)) (metK val items.size).length->(∀b o,b<s.heap.objs.size->s.heap.get? b=some o->h'.get? b=some o)->Q (.ref s.heap.objs.size) { s with heap:=h',toks:=tk }):
  wpAny (model prog w) A (call (.type "set") [.ref l]) Q E s:=by
 have cs:=PySem.F.called_set
 obtain⟨c,tl,hmro⟩:=cs.mro
 have hmade:=cs.made
 have hsub:=cs.sub
 refine qU (codeAny_of_tree ?_)
 refine tH (a:=Fin.again _) ⟨Code.quiet_builtin _ (by decide +kernel),sY PySem.F.entry_type_call ?_⟩
 rw[Around.under_plain (weight_type_call_type "set" [.ref l] []) rfl]
 have h1:=cs.notType
 have h2:=cs.canCreate
 have hct:=PySem.F.typeCall_set_1 (.ref l)
 repeat (any_goals (first | assumption | wp_step))
 refine rG (code_set_new_1 (.ref l) (E:=E) (Q₁:=λobj s1=>∃led:Bool,obj=.ref s.heap.objs.size/\s1 = { s with heap:=s.heap.push (nset led) }) λled=>⟨led,rfl,rfl⟩) λr s1 hr=>?_
 match r,hr with
 | .error e,hr=>exact hr
 | .ok (.ret obj),hr=>
   obtain⟨led,rfl,rfl⟩:=hr
   have hS:(s.heap.push (nset led)).get? s.heap.objs.size=some (nset led):=tJ _ rfl
   have hT:Shared.TypeIs { s with heap:=s.heap.push (nset led) } (.ref s.heap.objs.size) "set" := ⟨_,hS,rfl⟩
   have hli:=cs.init.lookup
   have hbi:=cs.init.bind (.ref s.heap.objs.size)
   repeat (any_goals (first | assumption | wp_step))
   refine rG (codeAny_call_builtin (R:=wants (λr s2=>r=.none/\∃h' tk,s2 = { s with heap:=h',toks:=tk }/\h'.SetOf knd s.heap.objs.size (λy=>decide (y∈metK val items.size)) (metK val items.size).length/\(∀b o,b<s.heap.objs.size->s.heap.get? b=some o->h'.get? b=some o)) E) cs.init.plain PySem.F.entry_set_init (check_set_init_1 hT ?_)) λr2 s2 hr2=>?_
   ·obtain⟨ol,hol,hcl,nl,hdl⟩:=hl
    obtain⟨ocls,odict,odata,oslots⟩:=ol
    dsimp only at hcl hdl
    subst hcl hdl
    have hol':(s.heap.push (nset led)).get? l=some { cls:=.type "list",dict:=odict,data:=.seq items nl,slots:=oslots }:=tz _ hol
    have hsls:=PySem.F.sub_list_set
    have hslf:=PySem.F.sub_list_frozenset
    have hne:(Value.type "list" == Value.type "dict")=false:=by decide
    have hl1:(s.heap.push (nset led)).IsList l items:=⟨_,hol',rfl,nl,rfl⟩
    unfold Builtin.«set.__init__» noKeywords Builtin.Frozenset.updateFrom
    generalize hPI:pyIter=PI
    wp_walk
    subst hPI
    refine r8 hl1 (tD (wpAny_runValue ?_))
    have lS:l<s.heap.objs.size:=tI hol
    have hh3:A.in1.in1.in1.handled=none:=by simp[hh]
    have zz:(s.heap.push (nset led)).objs.size=s.heap.objs.size+1:=pD ..
    refine zrf (knd:=knd) ((Walks.list hh3 _ l (by rw[zz];exact tM (pG lS)) items).toS) s.heap.objs.size (by
     rw[zz]
     simp only[mem_cons,not_mem_nil,or_false,not_or]
     exact⟨tM (re _),qG lS⟩) val hv hb (items.size-0) 0 _ (by omega) (tV _) ⟨⟨_,tJ _ rfl,rfl,rfl⟩,(hl1.push _)⟩ ?S0 ?R0
    case S0=>
     refine SetOf.conv ((setObjOf_fresh (knd:=knd) led).setOf (tz _ hS) (by unfold scanBound;omega)) (λy=>?_) rfl
     exact(tS λz=>not_mem_nil z).symm
    case R0=>
     intro s' hm hS'
     obtain⟨h',g',d',tk',os'⟩:=s'
     cases(show g'=s.gens from hm.gens)
     cases(show d'=s.drawn from hm.drawn)
     cases(show os'=s.os from hm.os)
     refine tH (tH (a:=Fin.done (.ret Value.none)) ⟨rfl,h',tk',rfl,hS',λb o hb e=>?_⟩)
     refine hm.heap b o ?_ (tz _ (tz _ e))
     rw[zz]
     simp only[mem_cons,not_mem_nil,or_false,not_or]
     exact⟨tM hb,tM (pG hb)⟩
   ·match r2,hr2 with
    | .error e,hr2=>exact hr2
    | .ok (.ret r),hr2=>
      obtain⟨rfl,h',tk,rfl,hS',hk'⟩:=hr2
      repeat (any_goals (first | assumption | wp_step))
      exact h _ _ hS' hk'
end
def zuM:bootBuiltins "set" = some (.type "set"):=by decide +kernel
def zvQ(K:am)(ta:TA):TE:=λσ H Q=>ta σ H λvs H1=>∃(l:Addr)(zs:List Str),vs=[.ref l]/\SqL K H1 l (zs.map V.str)/\zs.length<=100/\Q (.int (metK (λi=>zs.getD i Str.empty) zs.length).length) H1
section
variable{X:Cx}{a:Expr}{ta:TA}{p p2 pos pos2:Pos}
def zpl(hc:X.calm=true)(hgl:Gl X "len")(hml:X.mg "len" = none)(hg:Gl X "set")(hm:X.mg "set" = none)(ha:PA X [a] ta)
    (hs:starEach [a] X.env=[(false,eval a X.env)]:=by rfl)
    (hs2:starEach [Expr.Call (.Name "set" p2) [a] [] pos2] X.env=[(false,eval (.Call (.Name "set" p2) [a] [] pos2) X.env)]:=by rfl):
    PE X (.Call (.Name "len" p) [.Call (.Name "set" p2) [a] [] pos2] [] pos) (zvQ X.K ta):=by
 with_unfolding_all
  intro ai s σ H Q I h
  refine Call_ (zfk I hgl hml boot_len (qI ?_ hs2 rfl))
  rw[hs2]
  refine rP ?_
  refine Call_ (zfk I hg hm zuM (sX (thn (ha pos2 ai s σ H _ I h) λus s1 ⟨vs,H1,I1,r1,q1⟩=>?_) hs rfl))
  obtain⟨l,zs,rfl,hq,hz,q⟩:=q1
  obtain⟨u,rfl,ru⟩:=zgU r1
  cases(show u=Value.ref l from ru)
  obtain⟨its,rv,pl,_⟩:=I1.list hq
  have ln:its.length=zs.length:=by
   have:=rv.length
   rw[tm]at this
   exact this.symm
  have sb:(102:Nat)<scanBound:=by decide
  refine zpk (knd:=strKind X.prog X.w) (I1.ok.hd hc) pl.isList (λi=>zs.getD i Str.empty) (λi v hi=>?_) (by rw[size_toArray];omega) λh' tk hS kp=>?_
  ·have hi':its[i]?=some v:=by simpa using hi
   have hlt:i<zs.length:=by
    have:=(List.getElem?_eq_some_iff.mp hi').1
    omega
   have ez:zs[i]?=some zs[i]:=tj hlt
   have:=zfZ rv (show(zs.map V.str)[i]?=some (V.str zs[i]) by rw[getElem?_map,ez];rfl) hi'
   obtain⟨t,rfl⟩:=this
   have eg:zs.getD i Str.empty=zs[i]:=by rw[tK,ez];rfl
   rw[eg]
   exact⟨strKind_is _ _ _ _,rfl⟩
  refine qB ?_
  have I2:Inv X ai σ H1 { s1 with heap:=h',toks:=tk }:=I1.kept λb o e=>kp b o (tI e) e
  obtain⟨o,es,ep,t,ho,hex,hd,rest⟩:=hS
  have hf':=rest.2.2.2.1
  have en:es.size=(metK (λi=>zs.getD i Str.empty) zs.length).length:=by
   have e:=rest.2.2.2.2
   rw[show its.toArray.size=zs.length by rw[size_toArray,ln]]at e
   exact e
  have h63:(es.size:Int)<2 ^ 63:=by
   have hb:=rest.2.2.1
   have:scanBound<=1000000000:=by decide
   omega
  refine call_len_set (a:=s1.heap.objs.size) ho hex hd hf' h63 ⟨.int _,H1,I2.tok _,⟨_,by rw[en]⟩,q⟩
end
def zmu(CX:CXT)(X:Cx)(E:XK)(σ:St):Prop:=∀(ai:ae)(H:Hp)(s:Shared)(e:Value)(s':Shared),Inv X ai σ H s->CX X.stack H s E e s'->X.xe e s'
def zcM.at{CX:CXT}{X:Cx}{E:XK}(h:zcM CX X E)(σ:St):zmu CX X E σ:=λai H s e s' I c=>h ai σ H s e s' I c
section
variable{X:Cx}{CX:CXT}{k:Nat}{f C:Addr}{fd:FuncData}{ps:List Str}{sp spi:Sp}{E:XK}{x m:Str}{p pos apos:Pos}{e o:Expr}{es:List Expr}{ta:TE}{t:TA}
theorem zpm{ai:ae}{σ:St}{H:Hp}{s:Shared}{Q:VK}{us:aj}{vs:List V}(M:Mk X.K C f)(F:FnOk X.prog X.w X.K X.mg X.bj CX k f fd ps sp)(hr:Room (k+1) X.A)(hb:zbq X.K fd ps [])
  (hx:zmu CX X E σ) (I:Inv X ai σ H s) (r:Vals vs us)
  (h:∀x dx,H x=none->H dx=none->dx≠x->sp (.ref x::vs) (upd (upd H dx (.own x)) x (.ins C dx [])) (λv H2=>v=.non/\Q (.ref x) H2) E):
  wpAny (model X.prog X.w) X.A (call (.ref C) us) (EP X ai σ Q) X.xe s:=by
 have hq:=h (s.heap.objs.size+1) s.heap.objs.size (I.hok.fresh (rn _)) (I.hok.fresh (tF _)) (tM (re _))
 have I2:=Inv.made (C:=C) I
 have r2:Vals (V.ref (s.heap.objs.size+1)::vs) (Value.ref (s.heap.objs.size+1)::us):=.cons rfl r
 have hl:(Value.ref (s.heap.objs.size+1)::us++[]).length=ps.length:=by
  have e:=r2.length
  rw[F.len _ _ _ _ hq]at e
  rw[rE]
  exact e.symm
 have hbb:=hb _ (Value.ref (s.heap.objs.size+1)::us) I2.kIn hl
 rw[rE]at hbb
 refine qU (dO (f:=f) I.kIn M.makes M.init (beq_iff_eq.mp M.fn) (rG (F.run _ X.stack _ _ ⟨Value.ref (s.heap.objs.size+1)::us,[]⟩ (Value.ref (s.heap.objs.size+1)::us) _ _ E (hr.make C us [])
  (I2.env0.make C us []) hbb r2 hq) λr s' hq'=>?_))
 match r,hq' with
 | .error e,hq'=>exact hx ai _ _ e s' I2 hq'
 | .ok (.ret u),hq'=>
   obtain⟨v,H',I3,rv,ev,q3⟩:=I2.after hq'
   subst ev
   exact⟨rv,⟨V.ref (s.heap.objs.size+1),H',I3,rfl,q3⟩⟩
structure MakG(CX:CXT)(P:Program)(w:World)(K:am)(mg:af)(bj:Heap)(x:Str)(C:Addr)(k:Nat)(sp:Sp):Prop where
 ex:∃f fd ps spi,Mk K C f/\FnOk P w K mg bj CX k f fd ps spi/\zbq K fd ps []/\mg x=some (.ref C)/\
  ∀vs H Q E,sp vs H Q E->∀y dx,H y=none->H dx=none->dx≠y->spi (.ref y::vs) (upd (upd H dx (.own y)) y (.ins C dx [])) (λv H2=>v=.non/\Q (.ref y) H2) E
def zvR(sp:Sp)(E:XK)(t:TA):TE:=λσ H Q=>t σ H λvs H1=>sp vs H1 Q E
def zhM(M:MakG CX X.prog X.w X.K X.mg X.bj x C k sp)(hr:Room (k+1) X.A)(hg:Gl X x)(hx:zcM CX X E)(ha:PA X (e::es) t)(hdb:(x==("__debug__" : Str))=false:=by decide)
    (he:starEach (e::es) X.env=(false,eval e X.env)::starEach es X.env:=by rfl) (hpl:(backTo pos (starEach es X.env)).any (·.1)=false:=by rfl):PE X (.Call (.Name x p) (e::es) [] pos) (zvR sp E t):=by
 obtain⟨f,fd,ps,spi,mk,F,b,m,im⟩:=M.ex
 with_unfolding_all
  intro ai s σ H Q I h
  refine sH (zhg I hg m ?_ hdb)
  refine qH (h₀:=X.bj) I.ok.mod.kin mk.kp (thn (ha pos ai s σ H _ I h) λus s1 ⟨vs,H1,I1,r,q⟩=>⟨I1.kIn,?_⟩) he hpl
  exact zpm mk F hr b (hx.at σ) I1 r (im _ _ _ _ q)
end
section
variable{X:Cx}{CX:CXT}{k:Nat}{E:XK}{m:Str}{pos apos:Pos}{e o:Expr}{es:List Expr}{ta:TE}{t:TA}
def zmv{P:Program}{w:World}{K:am}{mg:af}{bj:Heap}{pl:Sem Bool}(h1:X.prog=P)(h2:X.w=w)(h3:X.K=K)(h4:X.mg=mg)(h5:X.bj=bj)(he:PE X o ta)(hr:Room k X.A)(hx:zcM CX X E)
    (ht:eval (.Call (.Attribute o m apos) [] [] pos) X.env=(do
      let ov <-eval o X.env
      standAt apos.atName
      let (f,first) <-holding [ov] (getMethod ov m pl)
      callWith pos f first (backTo pos (starEach [] X.env)) (backToKw pos (keywordEach [] X.env))):=by rfl):
    PE X (.Call (.Attribute o m apos) [] [] pos) (tMth P w K mg bj CX k m E ta tNil):=by
 subst h1 h2 h3 h4 h5
 exact zaO he hr hx ht
def ztk{P:Program}{w:World}{K:am}{mg:af}{bj:Heap}{pl:Sem Bool}(h1:X.prog=P)(h2:X.w=w)(h3:X.K=K)(h4:X.mg=mg)(h5:X.bj=bj)(he:PE X o ta)(hr:Room k X.A)(hx:zcM CX X E)(ha:PA X (e::es) t)
    (hst:starEach (e::es) X.env=(false,eval e X.env)::starEach es X.env:=by rfl) (hpl:(backTo pos (starEach es X.env)).any (·.1)=false:=by rfl)
    (ht:eval (.Call (.Attribute o m apos) (e::es) [] pos) X.env=(do
      let ov <-eval o X.env
      standAt apos.atName
      let (f,first) <-holding [ov] (getMethod ov m pl)
      callWith pos f first (backTo pos (starEach (e::es) X.env)) (backToKw pos (keywordEach [] X.env))):=by rfl):
    PE X (.Call (.Attribute o m apos) (e::es) [] pos) (tMth P w K mg bj CX k m E ta t):=by
 subst h1 h2 h3 h4 h5
 exact zdD he hr hx ha hst hpl ht
def zdO{K:am}{f:Str}(h3:X.K=K)(he:PE X o ta)(hb:attributeBase o f X.env (eval o X.env)=eval o X.env):PE X (.Attribute o f pos) (tFld K ta f):=by
 subst h3
 exact zaq he hb
end
open PySem.SeqAt in
def zli{A:Around}{s:Shared}{d:Addr}{es:Array DictEntry}{ep:Nat}{dd:ak}{sl:ap}(b:Str)(u:Tok)(ho:s.heap.get? d=some { cls:=.type "dict",dict:=dd,data:=.dict es ep,slots:=sl })(hu:A.units<cLine):RcAt A s (.str b u) (.ref d) false:=λprog w E Q h=>by
 have m1:Meets (Builtin.«str.__eq__» ⟨[.str b u,.ref d],[]⟩) (λ_ R s=>s.heap.get? d=some { cls:=.type "dict",dict:=dd,data:=.dict es ep,slots:=sl }/\R (.ok (.ret .notImplemented)) s):=
  .of_wp λprog w A R s h=>by
   obtain⟨hp,g,d',tk,os⟩:=s
   obtain⟨hl,h⟩:=h
   wp_walk using AutoSeq1.wpAny_loadPart' hl,wpAny_load hl
   exact⟨_,rfl,h⟩
 have f1:isSubtype (.type "str") (.type "dict")=pure false:=by rw[isSubtype_type];kernel_rfl
 have f2:isSubtype (.type "dict") (.type "str")=pure false:=by rw[isSubtype_type];kernel_rfl
 have m2:Meets (Builtin.«dict.__eq__» ⟨[.ref d,.str b u],[]⟩) (λ_ R s=>s.heap.get? d=some { cls:=.type "dict",dict:=dd,data:=.dict es ep,slots:=sl }/\R (.ok (.ret .notImplemented)) s):=
  .of_wp λprog w A R s h=>by
   obtain⟨hp,g,d',tk,os⟩:=s
   obtain⟨hl,h⟩:=h
   wp_walk using AutoSeq1.wpAny_loadPart' hl,wpAny_load hl
   exact⟨_,rfl,h⟩
 exact rc_eq_decline_or (k:=false) (typeIs_str s b u) ⟨_,ho,rfl⟩ (by decide) f2 PySem.F.slot_str_eq PySem.F.slot_dict_eq_refl
  (λ_ hq=>pZ PySem.F.slot_str_eq (typeIs_str s b u) PySem.F.entry_str_eq (PySem.F.args_str_eq_2 _ _) m1 ⟨ho,hq⟩)
  (λ_ hq=>pZ PySem.F.slot_dict_eq_refl ⟨_,ho,rfl⟩ PySem.F.entry_dict_eq (PySem.F.args_dict_eq_2 _ _) m2 ⟨ho,hq⟩)
  (λ_ hq=>wpAny_of_eq (rfl:isSame (.str b u) (.ref d)=pure false) hq) (.inr hu) h
def rEqS:R2:=λx y H Q=>∃z,x=.str z/\((∃z',y=.str z'/\Q (.bl (decide (z=z'))) H)\/(y=.non/\Q (.bl false) H)\/(∃b,y=.bl b/\Q (.bl false) H)\/(∃i,y=.int i/\Q (.bl false) H) \/
 ∃p o,y=.ref p/\H p=some o/\((∃xs,o=.tup xs)\/(∃xs,o=.lst xs)\/∃kvs,o=.dK kvs)/\Q (.bl false) H)
def zuN{X:Cx}(hu:X.A.units<cLine):OpR X (compareOp .Eq) rEqS:=by
 intro ai s σ H x y v u Q I rx ry h
 obtain⟨z,rfl,h⟩:=h
 obtain⟨t,rfl⟩:=rx
 rcases h with⟨z',rfl,q⟩ | ⟨rfl,q⟩ | ⟨b,rfl,q⟩ | ⟨i,rfl,q⟩ | ⟨p,o,rfl,ho,hk,q⟩
 ·exact zdd ai s σ H (.str z) (.str z') _ u Q I ⟨t,rfl⟩ ry ⟨rfl,by
   have:decide (V.str z=V.str z')=decide (z=z'):=by simp
   rw[this]
   exact q⟩
 ·cases(show u=Value.none from ry)
  exact SeqAt.RcAt.str_none z t X.prog X.w X.xe _ ⟨.bl false,H,I,rfl,q⟩
 ·cases(show u=Value.bool b from ry)
  exact SeqAt.RcAt.str_bool z t b X.prog X.w X.xe _ ⟨.bl false,H,I,rfl,q⟩
 ·obtain⟨t',rfl⟩:=ry
  exact SeqAt.RcAt.str_int z t i t' X.prog X.w X.xe _ ⟨.bl false,H,I,rfl,q⟩
 ·cases(show u=Value.ref p from ry)
  rcases hk with⟨xs,rfl⟩ | ⟨xs,rfl⟩ | ⟨kvs,rfl⟩
  ·obtain⟨_,its,_,pl⟩:=(show zbf X.prog X.w H s.heap p (.tup xs)from I.hok p _ ho)
   exact SeqAt.RcAt.str_tuple z t pl hu X.prog X.w X.xe _ ⟨.bl false,H,I,rfl,q⟩
  ·obtain⟨_,its,n,_,g⟩:=(show zbf X.prog X.w H s.heap p (.lst xs)from I.hok p _ ho)
   exact SeqAt.RcAt.str_list z t ⟨_,g,rfl,n,rfl⟩ hu X.prog X.w X.xe _ ⟨.bl false,H,I,rfl,q⟩
  ·obtain⟨_,_,vs,_,ob,es,ep,e,⟨c1,c2,c3⟩,hd,_⟩:=(show zbf X.prog X.w H s.heap p (.dK kvs)from I.hok p _ ho)
   obtain⟨cls,dd,data,sl⟩:=ob
   dsimp only at c1 hd
   subst c1 hd
   exact zli z t e hu X.prog X.w X.xe _ ⟨.bl false,H,I,rfl,q⟩
end L2
namespace PySem
section
variable{M:Model}{A:Around}{E:ac}{s:Shared}
end
end PySem
namespace L2
open PySem PySem.Spec PyProof.Rows
structure FliesA(h:Heap)(H:Hp)(low:Nat)(a C T:Addr)(dx:ak)(vs:Array Value):Prop where
 at_:H a=some (XcO a C dx vs)
 tr:vs[1]?=some (.ref T)
 new:low<=T
 free:H T=none
 ne:T≠a
 dict:∀y,dx=some y->∃fs,H y=some (.xd fs)
 recd:∃oT ts fl,h.get? T=some oT/\oT.data=.fields ts/\ts[3]?=some fl
section
variable{X:Cx}{ai:ae}{σ:St}{H:Hp}{s:Shared}{a C T:Addr}{dx:ak}{vs:Array Value}
end
section
variable{P:Program}{w:World}{K:am}{mg:af}{bj:Heap}{N:List Str}{qual:Str}{scope:Scope}{f:Addr}{cd:Value}{A:Around}{outer:List Env}{s₀:Shared}{H₀:Hp}{E:XK}
end
structure LamD(X:Cx)(H:Hp)(q nm:Str)(ar:Arguments)(body:List Stmt)(scope:Scope)(f:Addr)(cl:List (Str × Addr)):Prop where
 ex:∃doc pm c ct oc us t o,H f=some (.frz o (.own f))/\o.data=.func (W.fnX nm q ar body scope cl .none .none doc pm none (.ref c) ct)/\H c=some (.frz oc (.own c))/\oc.data=.fields us/\us[1]?=some (.str q t)
 c1:∀x c,cl.lookup x=some c->X.env.cells.lookup x=some c
 c2:∀x,(x,NameKind.free)∈scope.names->∃c,cl.lookup x=some c
 c3:∀x c,cl.lookup x=some c->(x,NameKind.free)∈scope.names
section
variable{X:Cx}{ai:ae}{σ:St}{H:Hp}{s:Shared}
end
structure CloD(H:Hp)(q nm:Str)(ar:Arguments)(body:List Stmt)(scope:Scope)(f:Addr)(cl:List (Str × Addr))(N:List Str)(cs:List Cel):Prop where
 ex:∃doc pm c ct oc us t o,H f=some (.frz o (.own f))/\o.data=.func (W.fnX nm q ar body scope cl .none .none doc pm none (.ref c) ct)/\H c=some (.frz oc (.own c))/\oc.data=.fields us/\us[1]?=some (.str q t)
 inj:∀y z c,cl.lookup y=some c->cl.lookup z=some c->y=z
 has:∀x,(x,NameKind.free)∈scope.names->∃c,cl.lookup x=some c
 cov:∀x c,cl.lookup x=some c->∃p,p∈cs/\p.1=c
 len:N.length=cs.length+1
 cap:∀(k:Nat)(p:Cel)(y:Str),N[k+1]?=some y->cs[k]?=some p->cl.lookup y=some p.1/\(y,NameKind.free)∈scope.names
 cel:∀p,p∈cs->H p.1=some (zuK p)/\CellOk p
 nd:(cs.map (·.1)).Nodup
structure CalD1(P:Program)(w:World)(K:am)(mg:af)(bj:Heap)(x:Str)(k:Nat)(ps:List Str)(sp:Sp):Prop where
 ex:∃f fd,FnOk P w K mg bj (CX1 P w) k f fd ps sp/\zbq K fd ps []/\zbq K fd ps [.none]/\mg x=some (.ref f)/\W.keepIn K (.ref f)=true
end L2
namespace L2
open PySem PySem.Spec PyProof.Rows PySem.W
end L2
namespace L2
open PySem PySem.Spec PyProof.Rows PySem.W
structure Odr(prog:Program)(w:World)(A:Around)(E:ac)(s:Shared)(k0:SortKind)(G:Keyed->Prop)(L:Keyed->Keyed->Bool):Prop where
 ask:∀(x y:Keyed)(st:SortSt)(Q:Option Bool->SortSt->Prop),G x->G y->kindOf st=k0->Q (some (L x y)) st->wpS (model prog w) A E s (lt' x y) Q st
 tr:∀x y z,G x->G y->G z->L x y=true->L y z=true->L x z=true
 as:∀x y,G x->G y->L x y=true->L y x=false
section
variable{prog:Program}{w:World}{A:Around}{E:ac}{s:Shared}{k0:SortKind}{G:Keyed->Prop}{L:Keyed->Keyed->Bool}
end
end L2
namespace L2
open PySem PySem.Spec PyProof.Rows PySem.W
section
variable{prog:Program}{w:World}{A:Around}{E:ac}{s:Shared}{k0:SortKind}{G:Keyed->Prop}{L:Keyed->Keyed->Bool}
def Inc(L:Keyed->Keyed->Bool)(l:List Keyed):Prop:=l.Pairwise λx y=>L x y=true
structure Two(G:Keyed->Prop)(L:Keyed->Keyed->Bool)(xs ys:List Keyed):Prop where
 gx:∀x,x∈xs->G x
 gy:∀y,y∈ys->G y
 ix:Inc L xs
 iy:Inc L ys
 tot:∀x y,x∈xs->y∈ys->L x y=true\/L y x=true
 tr:∀x y z,G x->G y->G z->L x y=true->L y z=true->L x z=true
 as:∀x y,G x->G y->L x y=true->L y x=false
structure Mrg(L:Keyed->Keyed->Bool)(xs ys out:List Keyed)(i j:Nat):Prop where
 inc:Inc L out
 pm:out.Perm (xs.take i++ys.take j)
 lo:∀o z,o∈out->(z∈xs.drop i\/z∈ys.drop j)->L o z=true
end
end L2
namespace L2
open PySem PySem.Spec PyProof.Rows PySem.W
section
variable{prog:Program}{w:World}{A:Around}{E:ac}{s:Shared}{k0:SortKind}{G:Keyed->Prop}{L:Keyed->Keyed->Bool}
end
end L2
namespace L2
open PySem PySem.Spec PyProof.Rows PySem.W
section
variable{prog:Program}{w:World}{A:Around}{E:ac}{s:Shared}{k0:SortKind}{G:Keyed->Prop}{L:Keyed->Keyed->Bool}
structure Hrg(L:Keyed->Keyed->Bool)(xs ys R:List Keyed)(i j:Nat):Prop where
 inc:Inc L R
 pm:R.Perm (xs.drop i++ys.drop j)
 hi:∀o z,o∈R->(z∈xs.take i\/z∈ys.take j)->L z o=true
end
end L2
namespace L2
open PySem PySem.Spec PyProof.Rows PySem.W
section
variable{prog:Program}{w:World}{A:Around}{E:ac}{s:Shared}{k0:SortKind}{G:Keyed->Prop}{L:Keyed->Keyed->Bool}
structure Whl(G:Keyed->Prop)(L:Keyed->Keyed->Bool)(l0 l:List Keyed):Prop where
 g:∀x,x∈l->G x
 d:l.Pairwise λx y=>L x y=true\/L y x=true
 pm:l.Perm l0
end
end L2
namespace L2
open PySem PySem.Spec PyProof.Rows PySem.W
section
variable{prog:Program}{w:World}{A:Around}{E:ac}{s:Shared}{k0:SortKind}{G:Keyed->Prop}{L:Keyed->Keyed->Bool}
end
end L2
namespace L2
open PySem PySem.Spec PyProof.Rows PySem.W
section
variable{prog:Program}{w:World}{A:Around}{E:ac}{s:Shared}{k0:SortKind}{G:Keyed->Prop}{L:Keyed->Keyed->Bool}
end
end L2
namespace L2
open PySem PySem.Spec PyProof.Rows PySem.W
section
variable{prog:Program}{w:World}{A:Around}{E:ac}{s:Shared}{k0:SortKind}{G:Keyed->Prop}{L:Keyed->Keyed->Bool}
end
end L2
namespace L2
open PySem PySem.Spec PyProof.Rows PySem.W
section
variable{prog:Program}{w:World}{A:Around}{E:ac}{s:Shared}
end
end L2
namespace L2
open PySem PySem.Spec PyProof.Rows PySem.W
section
variable{X:Cx}
end
end L2
namespace L2
open PySem PySem.Spec PyProof.Rows
theorem zja(c:Cl)(t:Int):ahd c c t=false:=by
 cases h:ahd c c t with
 | false=>rfl
 | true=>exact(zbl h h).elim
theorem zrT{c d:Cl}{t:Int}(h:ahd c d t=true):ahd d c t=false:=by
 cases k:ahd d c t with
 | false=>rfl
 | true=>exact(zbl h k).elim
def zmw{cs:List Cl}(g:Good cs){t:Int}{j:Nat}{c:Cl}(h:(ord cs t)[j]?=some c):j=cs.countP λd=>ahd d c t:=by
 have s:=zlb g t
 have jl:=(List.getElem?_eq_some_iff.mp h).1
 have e:ord cs t=(ord cs t).take j++c::(ord cs t).drop (j+1):=by
  obtain⟨_,rfl⟩:=List.getElem?_eq_some_iff.mp h
  rw[List.getElem_cons_drop,List.take_append_drop]
 rw[<-(zaU cs t).countP_eq]
 unfold Srt at s
 rw[e,List.pairwise_append]at s
 obtain⟨_,s2,s3⟩:=s
 rw[e,List.countP_append,pM,zja]
 have z1:((ord cs t).take j).countP (λd=>ahd d c t)=j:=by
  rw[List.countP_eq_length.mpr λd hd=>s3 d hd c tN,sj]
  omega
 have z2:((ord cs t).drop (j+1)).countP (λd=>ahd d c t)=0:=by
  rw[List.countP_eq_zero]
  intro d hd
  rw[zrT ((pairwise_cons.mp s2).1 d hd)]
  decide
 rw[z1,z2]
 rfl
theorem zmx{α:Type}{p1 p2 p3 p4 : α->Bool}:∀{l:List α},(∀x,x∈l->(p4 x=true↔(p1 x=true/\p2 x=false)\/p3 x=true)/\(p2 x=true->p1 x=true)/\(p3 x=true->p1 x=false))->(l.countP p4:Int)=l.countP p1-l.countP p2+l.countP p3
 | [],_=>rfl
 | x::l,h=>by
   have ih:=zmx (l:=l) λy hy=>h y (tO _ hy)
   obtain⟨h1,h2,h3⟩:=h x tN
   rw[pM,pM,pM,pM]
   cases a1:p1 x<;>cases a2:p2 x<;>cases a3:p3 x<;>cases a4:p4 x<;>simp_all<;>omega
def zkh{cs:List Cl}(g:Good cs){t:Int}{r q:Row}(tr:t<r.1)(tq:t<q.1)(wr:Walk cs r)(wq:Walk cs q)(e1:r.2.1=q.2.1)(e2:r.2.2=q.2.2):r=q:=by
 obtain⟨b,f,hb,hf,hn,a1,a2,a3,a4⟩:=wr
 obtain⟨b',f',hb',hf',hn',c1,c2,c3,c4⟩:=wq
 have eb:b=b':=aG g hb hb' (by rw[<-a3,<-c3,e1])
 have ef:f=f':=aG g hf hf' (by rw[<-a4,<-c4,e2])
 subst eb ef
 have m1:=(zhc hn (t:=t)).mpr ⟨tr,a1,a2⟩
 have m2:=(zhc hn (t:=t)).mpr ⟨tq,c1,c2⟩
 have:r.1=q.1:=tL (m1.2.symm.trans m2.2)
 exact Prod.ext this (Prod.ext e1 e2)
def zuO{rows:List Row}(h:rows.Pairwise λr q=>rlt r q=true):rows.Nodup:=by
 rw[rj]
 refine h.imp λ{r q} h e=>?_
 subst e
 have:=bO h
 rw[h]at this
 cases this
def Betw.nd{cs:List Cl}{t v:Int}{rows:List Row}(B:Betw cs t v rows):rows.Nodup:=zuO B.srt
def zpn{cs:List Cl}(g:Good cs){t v:Int}(tv:t<=v){rows:List Row}(B:Betw cs t v rows){c:Cl}(hc:c∈cs):(rows.filter λr=>decide (r.2.1=c.n)).length=cs.countP λd=>ahd d c t&&ahd c d v:=by
 have n1:((rows.filter λr=>decide (r.2.1=c.n)).map (·.2.2)).Nodup:=by
  rw[rj,pV]
  refine qo (λ{r q} hr hq ne e=>ne ?_) (nodup_iff_pairwise_ne.mp (B.nd.sublist pF))
  obtain⟨r1,r2⟩:=mem_filter.mp hr
  obtain⟨q1,q2⟩:=mem_filter.mp hq
  have r2:=tP r2
  have q2:=tP q2
  exact zkh g ((B.mem r).mp r1).1.1 ((B.mem q).mp q1).1.1 ((B.mem r).mp r1).2 ((B.mem q).mp q1).2 (by rw[r2,q2]) e
 have n2:((cs.filter λd=>ahd d c t&&ahd c d v).map (·.n)).Nodup:=g.nd.sublist (filter_sublist.map _)
 have m:∀x,x∈(rows.filter λr=>decide (r.2.1=c.n)).map (·.2.2)↔x∈(cs.filter λd=>ahd d c t&&ahd c d v).map (·.n):=λx=>by
  have tw:=zev (cs:=cs) tv (r:=(0,c.n,x))
  constructor
  ·intro hx
   obtain⟨r,hr,rfl⟩:=mem_map.mp hx
   obtain⟨r1,r2⟩:=mem_filter.mp hr
   have r2:=tP r2
   obtain⟨⟨b1,b2⟩,b3⟩:=(B.mem r).mp r1
   obtain⟨_,b,f,hb,hf,hn,a1,a2,a3,a4⟩:=tw.mpr ⟨rfl,r.1,b1,b2,by show Walk cs (r.1,c.n,r.2.2);rw[<-r2];exact b3⟩
   have eb:b=c:=aG g hb hc a3.symm
   subst eb
   refine mem_map.mpr ⟨f,mem_filter.mpr ⟨hf,by rw[a1,a2];rfl⟩,a4.symm⟩
  ·intro hx
   obtain⟨f,hf,rfl⟩:=mem_map.mp hx
   obtain⟨f1,f2⟩:=mem_filter.mp hf
   rw[Bool.and_eq_true]at f2
   have hn:c.n≠f.n:=λe=>by
    have:=aG g hc f1 e
    subst this
    rw[zja]at f2
    exact absurd f2.1 (by decide)
   obtain⟨_,u,u1,u2,u3⟩:=tw.mp ⟨rfl,c,f,hc,f1,hn,f2.1,f2.2,rfl,rfl⟩
   exact mem_map.mpr ⟨(u,c.n,f.n),mem_filter.mpr ⟨(B.mem _).mpr ⟨⟨u1,u2⟩,u3⟩,decide_eq_true rfl⟩,rfl⟩
 have:=((List.perm_ext_iff_of_nodup n1 n2).mpr m).length_eq
 rw[tm,tm]at this
 rw[this,List.countP_eq_length_filter]
def zpo{cs:List Cl}(g:Good cs){t v:Int}(tv:t<=v){rows:List Row}(B:Betw cs t v rows){c:Cl}(hc:c∈cs):(rows.filter λr=>decide (r.2.2=c.n)).length=cs.countP λd=>ahd c d t&&ahd d c v:=by
 have n1:((rows.filter λr=>decide (r.2.2=c.n)).map (·.2.1)).Nodup:=by
  rw[rj,pV]
  refine qo (λ{r q} hr hq ne e=>ne ?_) (nodup_iff_pairwise_ne.mp (B.nd.sublist pF))
  obtain⟨r1,r2⟩:=mem_filter.mp hr
  obtain⟨q1,q2⟩:=mem_filter.mp hq
  have r2:=tP r2
  have q2:=tP q2
  exact zkh g ((B.mem r).mp r1).1.1 ((B.mem q).mp q1).1.1 ((B.mem r).mp r1).2 ((B.mem q).mp q1).2 e (by rw[r2,q2])
 have n2:((cs.filter λd=>ahd c d t&&ahd d c v).map (·.n)).Nodup:=g.nd.sublist (filter_sublist.map _)
 have m:∀x,x∈(rows.filter λr=>decide (r.2.2=c.n)).map (·.2.1)↔x∈(cs.filter λd=>ahd c d t&&ahd d c v).map (·.n):=λx=>by
  have tw:=zev (cs:=cs) tv (r:=(0,x,c.n))
  constructor
  ·intro hx
   obtain⟨r,hr,rfl⟩:=mem_map.mp hx
   obtain⟨r1,r2⟩:=mem_filter.mp hr
   have r2:=tP r2
   obtain⟨⟨b1,b2⟩,b3⟩:=(B.mem r).mp r1
   obtain⟨_,b,f,hb,hf,hn,a1,a2,a3,a4⟩:=tw.mpr ⟨rfl,r.1,b1,b2,by show Walk cs (r.1,r.2.1,c.n);rw[<-r2];exact b3⟩
   have ef:f=c:=aG g hf hc a4.symm
   subst ef
   refine mem_map.mpr ⟨b,mem_filter.mpr ⟨hb,by rw[a1,a2];rfl⟩,a3.symm⟩
  ·intro hx
   obtain⟨f,hf,rfl⟩:=mem_map.mp hx
   obtain⟨f1,f2⟩:=mem_filter.mp hf
   rw[Bool.and_eq_true]at f2
   have hn:f.n≠c.n:=λe=>by
    have:=aG g f1 hc e
    subst this
    rw[zja]at f2
    exact absurd f2.1 (by decide)
   obtain⟨_,u,u1,u2,u3⟩:=tw.mp ⟨rfl,f,c,f1,hc,hn,f2.1,f2.2,rfl,rfl⟩
   exact mem_map.mpr ⟨(u,f.n,c.n),mem_filter.mpr ⟨(B.mem _).mpr ⟨⟨u1,u2⟩,u3⟩,decide_eq_true rfl⟩,rfl⟩
 have:=((List.perm_ext_iff_of_nodup n1 n2).mpr m).length_eq
 rw[tm,tm]at this
 rw[this,List.countP_eq_length_filter]
def pcn(rows:List Row)(n:Int):Nat:=(rows.filter λr=>decide (r.2.1=n)).length
def qcn(rows:List Row)(n:Int):Nat:=(rows.filter λr=>decide (r.2.2=n)).length
def zpp{cs:List Cl}(g:Good cs){t v:Int}(tv:t<=v){rows:List Row}(B:Betw cs t v rows){c:Cl}{i j:Nat}(hi:(ord cs t)[i]?=some c)(hj:(ord cs v)[j]?=some c):(j:Int)=i-pcn rows c.n+qcn rows c.n:=by
 have hc:c∈cs:=(zaU cs t).mem_iff.mp (tE hi)
 unfold pcn qcn
 rw[zpn g tv B hc,zpo g tv B hc,zmw g hi,zmw g hj]
 refine zmx λd hd=>?_
 by_cases e:d=c
 ·subst e
  simp[zja]
 ·have hn:d.n≠c.n:=λz=>e (aG g hd hc z)
  have od:=g.ok d hd
  have oc:=g.ok c hc
  have tt:∀u,(ahd d c u=true/\ahd c d u=false)\/(ahd d c u=false/\ahd c d u=true):=λu=>by
   cases k:ahd d c u with
   | true=>exact .inl ⟨rfl,zrT k⟩
   | false=>exact .inr ⟨rfl,by rw[zbI hn,k];rfl⟩
  rcases tt t with⟨a1,a2⟩ | ⟨a1,a2⟩<;>rcases tt v with⟨b1,b2⟩ | ⟨b1,b2⟩<;>simp[a1,a2,b1,b2]
def zjb{κ:Type} [DecidableEq κ] (kvs:List (κ × V)) (k : κ) (v:V):(putK kvs k v).length<=kvs.length+1:=by
 unfold putK
 split
 ·rw[tm]
  omega
 ·rw[tR]
  exact tF _
def zrg{rows:List Row}{i:Nat}{r:Row}(h:rows[i]?=some r)(n:Int):pcn (rows.take (i+1)) n=pcn (rows.take i) n+if r.2.1=n then 1 else 0:=by
 unfold pcn
 rw[pW,h,qu,tR]
 show _+([r].filter _).length=_
 by_cases z:r.2.1=n
 ·simp[z]
 ·simp[z]
def zrh{rows:List Row}{i:Nat}{r:Row}(h:rows[i]?=some r)(n:Int):qcn (rows.take (i+1)) n=qcn (rows.take i) n+if r.2.2=n then 1 else 0:=by
 unfold qcn
 rw[pW,h,qu,tR]
 show _+([r].filter _).length=_
 by_cases z:r.2.2=n
 ·simp[z]
 ·simp[z]
structure TOk(b:Bool)(t:SetTable):Prop where
 ri:t.place.toList.Pairwise (· < ·)
 du:t.dummies = #[]
 le:t.led=b
section
variable{prog:Program}{w:World}{A:Around}{E:ac}{s:Shared}
end
section
variable{prog:Program}{w:World}{A:Around}{R:Result->Shared->Prop}{I:Addr}{fp wr:List Addr}{G:Array GenState->Array GenState->Prop}{n:Nat}{P:Nat->Value->Prop}{St:Nat->Shared->Prop}
end
section
variable{prog:Program}{w:World}{A:Around}{E:ac}{s:Shared}
end
section
variable{prog:Program}{w:World}{A:Around}{E:ac}{s:Shared}
end
end L2
namespace L2
open PySem PySem.Spec PyProof.Rows PySem.W
end L2
namespace L2
open PySem PySem.Spec PyProof.Rows
section
variable{prog:Program}{w:World}{A:Around}{E:ac}{s:Shared}
end
section
variable{prog:Program}{w:World}{A:Around}{E:ac}{s:Shared}
structure SetWk(prog:Program)(w:World)(s s1:Shared)(a I:Addr)(fp:List Addr)(n:Nat)(vs:aj)(St:Nat->Heap->Prop):Prop where
 wk:∀A':Around,A'.handled=none->Walks prog w A' I fp [I] n (λi v=>vs[i]?=some v) St
 at0:St 0 s1.heap
 lt:∀b∈fp,b<s1.heap.objs.size
 inI:I∈fp
 kp:∀b o,s.heap.get? b=some o->s1.heap.get? b=some o
 ge:∀b∈fp,b=a\/s.heap.objs.size<=b
 sm:s1 = { s with heap:=s1.heap,drawn:=s1.drawn }
 gI:s.heap.objs.size<=I
end
section
variable{prog:Program}{w:World}{A:Around}{E:ac}{s:Shared}
end
section
variable{X:Cx}{e:Expr}{te:TE}{p p2 pos pos2:Pos}
end
section
variable{X:Cx}{a b:Expr}{rest:List Expr}{pos:Pos}{ta tb:TE}
end
def itG{α β:Type}(xs:List α)(g : α -> β)(d : β)(i:Nat) : β:=match xs[i]? with
 | some x=>g x
 | none=>d
theorem zhN{α β:Type}(P : α->Bool)(g : α -> β)(d : β):∀xs:List α,((List.range xs.length).filter (tak xs P)).map (itG xs g d)=(xs.filter P).map g
 | []=>rfl
 | x::xs=>by
   rw[length_cons,sV,se,sM]
   have e1:(tak (x::xs) P ∘ Nat.succ)=tak xs P:=rfl
   have e2:∀l:List Nat,(l.map Nat.succ).map (itG (x::xs) g d)=l.map (itG xs g d):=λl=>by
    rw[t5]
    rfl
   rw[e1,se]
   have e3:tak (x::xs) P 0=P x:=rfl
   rw[e3]
   cases P x with
   | true=>
     rw[if_pos rfl,if_pos rfl,t3,t3,e2,zhN P g d xs]
     rfl
   | false=>
     rw[if_neg tG,if_neg tG,e2,zhN P g d xs]
def Tups(H H':Hp):Prop:=∀b xs,H b=some (.tup xs)->H' b=some (.tup xs)
def Same.tups{H H':Hp}(s:Same H H'):Tups H H':=λb xs e=>s b _ e
def zmy{α:Type}{K:PySem.W.Frag}{a:Addr}{xs:List V}{js:List Nat}{tc:TT}{te:TE}{σ:St}{H1:Hp}{Q:VK}(p:Nat->Bool)(f:Nat -> α)(W:Hp->Addr -> α->Prop)(mono:∀H H' u c,Tups H H'->W H u c->W H' u c)(hl:SqL K H1 a xs)
    (ht:∀i x Hh (Q':Bool->Hp->Prop),xs[i]?=some x->Same H1 Hh->(∀Hh',Same Hh Hh'->Q' (p i) Hh')->tc (some x::caps σ js) Hh Q')
    (he:∀i x Hh (Q':VK),xs[i]?=some x->p i=true->Same H1 Hh->(∀b Hh',Same Hh Hh'->W Hh' b (f i)->Q' (.ref b) Hh')->te (some x::caps σ js) Hh Q')
    (hz:xs.length<sizeLine) (q:∀D H2 (bs:List (Addr × α)),Same H1 H2->H1 D=none->H2 D=some (.lst (bs.map λb=>V.ref b.1))->bs.map (·.2)=((List.range xs.length).filter p).map f->(∀b,b∈bs->W H2 b.1 b.2)->Q (.ref D) H2):
    zdK (Itl K a) js tc te σ H1 Q:=
 zhG p f W (λH H' u c t h=>mono H H' u c (λa xs e=>t _ _ (λ_ z=>by cases z) e) h) hl ht he hz q
def znk{X:Cx}{K:am}(hK:X.K=K)(hu:X.A.units<cLine):OpR X (compareOp .Eq) (rEqT K):=hK▸zoj hu
structure Twin(c d:Cl):Prop where
 wt:c.wt=d.wt
 wb:c.wb=d.wb
 st:c.st=d.st
 sb:c.sb=d.sb
structure FunE2(K:am)(x qual:Str)(st:Stmt)(f:Addr)(fd:FuncData)(u1 u2:Value):Prop where
 ex:∃(oc:Value)(od:ak)(T:Addr)(kV doc pm:Value)(an:ak)(cdv ct:Value)(osl:ap)(o:Obj)(n:Nat),
  fd=W.fnOf x qual (zav st) (zap st) (zac st) (.ref T) kV doc pm an cdv ct/\K.lookup f=some ⟨oc,od,.func fd,osl⟩/\W.codeIn K cdv qual=true/\K.lookup T=some o/\o.data=.seq #[u1,u2] n
 kp:W.keepIn K (.ref f)=true
def zri{K:am}{x qual:Str}{st:Stmt}{f T:Addr}{oc:Value}{od an:ak}{osl:ap}{kV doc pm cdv ct u1 u2:Value}{o:Obj}{n:Nat}
    (l:K.lookup f=some ⟨oc,od,.func (W.fnOf x qual (zav st) (zap st) (zac st) (.ref T) kV doc pm an cdv ct),osl⟩) (c:W.codeIn K cdv qual=true) (k:W.keepIn K (.ref f)=true)
    (t:K.lookup T=some o) (d:o.data=.seq #[u1,u2] n):FunE2 K x qual st f (W.fnOf x qual (zav st) (zap st) (zac st) (.ref T) kV doc pm an cdv ct) u1 u2:=⟨⟨oc,od,T,kV,doc,pm,an,cdv,ct,osl,o,n,rfl,l,c,t,d⟩,k⟩
def FunE2.ok{P:Program}{w:World}{K:am}{mg:af}{bj:Heap}{x qual:Str}{st:Stmt}{f:Addr}{fd:FuncData}{u1 u2:Value}{N ps:List Str}{k:Nat}{sp:Sp}(F:FunE2 K x qual st f fd u1 u2)(S:FnScope N ps (zac st))(len:∀vs H Q E,sp vs H Q E->vs.length=ps.length)
    (hbody:∀(cdv:Value)(A:Around)(outer:List Env)(s:Shared)(H:Hp)(vs:List V)(Q:VK)(E:XK),Room k (A.deeper (envOfC qual (zac st) s.heap.objs.size f cdv))->sp vs H Q E->
      ∃t,PSs (cxOf CX0 P w K mg bj N qual (zac st) f cdv A outer s H E).nox (zap st) t/\t { nx:=λ_ H'=>Q .non H',rt:=Q } (zgV N vs) H):FnOk P w K mg bj CX0 (k+1) f fd ps sp:=by
 obtain⟨oc,od,T,kV,doc,pm,an,cdv,ct,osl,o,n,rfl,lk,hcd,_,_⟩:=F.ex
 refine bc lk hcd S len λA outer s H vs Q E hr hsp=>?_
 obtain⟨t,h,q⟩:=hbody cdv A outer s H vs Q E hr hsp
 exact⟨t,h.nox,q⟩
def FunE2.binds{K:am}{x qual:Str}{st:Stmt}{f:Addr}{fd:FuncData}{u1 u2:Value}{ps:List Str}(ds:aj)(F:FunE2 K x qual st f fd u1 u2)
    (h:∀(dV kV doc pm:Value)(an:ak)(cdv ct:Value)(us:aj),(us++ds).length=ps.length->∃k:Option (Array Value)->Sem (List (Str × Value)),bindArgs (W.fnOf x qual (zav st) (zap st) (zac st) dV kV doc pm an cdv ct) ⟨us,[]⟩=(seqItems? dV >>= k)/\k (some #[u1,u2])=pure (ps.zip (us++ds))):zbq K fd ps ds:=by
 obtain⟨oc,od,T,kV,doc,pm,an,cdv,ct,osl,o,n,rfl,lk,hcd,t,d⟩:=F.ex
 intro s us KX hl
 obtain⟨k,k1,k2⟩:=h (.ref T) kV doc pm an cdv ct us hl
 exact rJ (T:=T) (o:=o) (items := #[u1,u2]) (n:=n) (k:=k) rfl (KX T o t) d k1 k2
structure MfnE2(K:am)(x qual:Str)(st:Stmt)(ps:List Str)(f:Addr)(fd:FuncData)(u1 u2:Value):Prop where
 F:FunE2 K x qual st f fd u1 u2
 b1:zbq K fd ps [u2]
 b2:zbq K fd ps [u1,u2]
structure MOk2(CX:CXT)(P:Program)(w:World)(K:am)(mg:af)(bj:Heap)(k:Nat)(C:Addr)(m:Str)(d1 d2:V)(sp:Sp):Prop where
 cl:Cls K C
 ex:∃f fd ps u1 u2,Meth K C m f/\FnOk P w K mg bj CX k f fd ps sp/\zbq K fd ps [u2]/\zbq K fd ps [u1,u2]/\RelV d1 u1/\RelV d2 u2
def zvS(P:Program)(w:World)(K:am)(mg:af)(bj:Heap)(CX:CXT)(k:Nat)(m:Str)(E:XK)(ta:TE)(t:TA):TE:=λσ H Q=>ta σ H λx H1=>
 ∃a C dx fs d1 d2 sp,x=.ref a/\H1 a=some (.ins C dx fs)/\fs.lookup m=none/\MOk2 CX P w K mg bj k C m d1 d2 sp/\t σ H1 λvs H2=>sp ((x::vs)++[d2]) H2 Q E
def zuP(P:Program)(w:World)(K:am)(mg:af)(bj:Heap)(CX:CXT)(k:Nat)(m:Str)(E:XK)(ta:TE):TE:=λσ H Q=>ta σ H λx H1=>
 ∃a C dx fs d1 d2 sp,x=.ref a/\H1 a=some (.ins C dx fs)/\fs.lookup m=none/\MOk2 CX P w K mg bj k C m d1 d2 sp/\sp [x,d1,d2] H1 Q E
section
variable{X:Cx}{CX:CXT}{k:Nat}{E:XK}{m:Str}{pos apos:Pos}{e o:Expr}{es:List Expr}{ta:TE}{t:TA}
def ztl{pl:Sem Bool}(he:PE X o ta)(hr:Room k X.A)(hx:zcM CX X E)(ha:PA X (e::es) t)
    (hst:starEach (e::es) X.env=(false,eval e X.env)::starEach es X.env:=by rfl) (hpl:(backTo pos (starEach es X.env)).any (·.1)=false:=by rfl)
    (ht:eval (.Call (.Attribute o m apos) (e::es) [] pos) X.env=(do
      let ov <-eval o X.env
      standAt apos.atName
      let (f,first) <-holding [ov] (getMethod ov m pl)
      callWith pos f first (backTo pos (starEach (e::es) X.env)) (backToKw pos (keywordEach [] X.env))):=by rfl):
    PE X (.Call (.Attribute o m apos) (e::es) [] pos) (zvS X.prog X.w X.K X.mg X.bj CX k m E ta t):=by
 with_unfolding_all
  intro ai s σ H Q I h
  refine pd (pl:=pl) (thn (he ai s σ H _ I h) λu s1 ⟨x,H1,I1,rx,a,C,dx,fs,d1,d2,sp,ex,ea,l,M,q⟩=>?_) ht
  subst ex
  obtain rfl:u=Value.ref a:=rx
  obtain⟨f,fd,ps,u1,u2,hm,F,hb,_,_,r2⟩:=M.ex
  refine bC I1 ea M.cl hm l ?_
  refine qH (first:=[.ref a]) (h₀:=X.bj) I.ok.mod.kin hm.kp (thn (ha pos ai s1 σ H1 _ I1 q) λus s2 ⟨vs,H2,I2,r,q2⟩=>⟨I2.kIn,?_⟩) hst hpl
  exact zjK (us:=.ref a::us) (vs:=.ref a::vs) (dvs:=[d2]) F hr hb (.cons r2 .nil) hx I2 (.cons rfl r) q2
def zpq{pl:Sem Bool}(he:PE X o ta)(hr:Room k X.A)(hx:zcM CX X E)
    (ht:eval (.Call (.Attribute o m apos) [] [] pos) X.env=(do
      let ov <-eval o X.env
      standAt apos.atName
      let (f,first) <-holding [ov] (getMethod ov m pl)
      callWith pos f first (backTo pos (starEach [] X.env)) (backToKw pos (keywordEach [] X.env))):=by rfl):
    PE X (.Call (.Attribute o m apos) [] [] pos) (zuP X.prog X.w X.K X.mg X.bj CX k m E ta):=by
 with_unfolding_all
  intro ai s σ H Q I h
  refine pd (pl:=pl) (thn (he ai s σ H _ I h) λu s1 ⟨x,H1,I1,rx,a,C,dx,fs,d1,d2,sp,ex,ea,l,M,q⟩=>?_) ht
  subst ex
  obtain rfl:u=Value.ref a:=rx
  obtain⟨f,fd,ps,u1,u2,hm,F,_,hb,r1,r2⟩:=M.ex
  refine bC I1 ea M.cl hm l ?_
  exact W.callWith_K0 (first:=[.ref a]) I1.kIn hm.kp (zjK (us:=[.ref a]) (vs:=[.ref a]) (dvs:=[d1,d2]) F hr hb (.cons r1 (.cons r2 .nil)) hx I1 (.cons rfl .nil) q)
def zrj{P:Program}{w:World}{K:am}{mg:af}{bj:Heap}{pl:Sem Bool}(h1:X.prog=P)(h2:X.w=w)(h3:X.K=K)(h4:X.mg=mg)(h5:X.bj=bj)(he:PE X o ta)(hr:Room k X.A)(hx:zcM CX X E)
    (ht:eval (.Call (.Attribute o m apos) [] [] pos) X.env=(do
      let ov <-eval o X.env
      standAt apos.atName
      let (f,first) <-holding [ov] (getMethod ov m pl)
      callWith pos f first (backTo pos (starEach [] X.env)) (backToKw pos (keywordEach [] X.env))):=by rfl):
    PE X (.Call (.Attribute o m apos) [] [] pos) (zuP P w K mg bj CX k m E ta):=by
 subst h1 h2 h3 h4 h5
 exact zpq he hr hx ht
end
def zlj{lo:Int}{n:Nat}{js:List Nat}{tc:TT}{te:TE}{σ:St}{H1:Hp}{Q:VK}(J:Addr->Nat->Hp->Prop)
    (h0:∀D H2,Same H1 H2->H1 D=none->H2 D=some (.lst [])->J D 0 H2)
    (ht:∀i Hh (Q':Bool->Hp->Prop),i<n->Q' true Hh->tc (some (.int (lo+i))::caps σ js) Hh Q')
    (he:∀D i acc Hh (Q':VK),i<n->J D i Hh->Hh D=some (.lst acc)->(∀v Hh',Hh' D=some (.lst acc)->(∀H7,But D Hh' H7->H7 D=some (.lst (acc++[v]))->J D (i+1) H7)->Q' v Hh')->te (some (.int (lo+i))::caps σ js) Hh Q')
    (hz:n<sizeLine) (q:∀D H2 vs,J D n H2->H2 D=some (.lst vs)->vs.length=n->Q (.ref D) H2):
    zdK (Itr lo n) js tc te σ H1 Q:=by
 intro D H2 s2 hD h2
 refine⟨λi m acc H3=>m=n-i/\i<=n/\acc.length=i/\J D i H3/\H3 D=some (.lst acc),⟨_,rfl,tV _,rfl,h0 D H2 s2 hD h2,h2⟩,?_⟩
 rintro i m acc H3 ⟨rfl,hi,ea,hJ,h3⟩
 refine⟨h3,by omega,?_⟩
 by_cases hlt:i<n
 ·refine .inr ⟨hlt,λy H4 z=>?_⟩
  obtain⟨e,ey⟩:=z
  subst e ey
  refine ht i _ _ hlt (iteT ?_)
  exact he D i acc _ _ hlt hJ h3 λv H6 h6 st=>⟨h6,λH7 k7 h7=>⟨n-(i+1),by omega,rfl,hlt,by rw[tR,ea];rfl,st H7 k7 h7,h7⟩⟩
 ·have e:i=n:=by omega
  subst e
  exact .inl ⟨tF _,q D _ acc hJ h3 ea⟩
section
variable{P:Program}{w:World}{K:am}{mg:af}{bj h:Heap}{x m q:Str}{st:Stmt}{f C:Addr}{oc kV dc pm cd ct:Value}{od an:ak}{sl:ap}
structure DAt(K:am)(x:Str)(st:Stmt)(f:Addr)(oc:Value)(od:ak)(kV dc pm:Value)(an:ak)(cd ct:Value)(sl:ap):Prop where
 a:W.nsIn K mainGlobals x=some (some (.ref f))
 l:K.lookup f=some ⟨oc,od,.func (W.fnOf x x (zav st) (zap st) (zac st) .none kV dc pm an cd ct),sl⟩
 c:W.codeIn K cd x=true
 k:W.keepIn K (.ref f)=true
structure MAt(K:am)(m q:Str)(st:Stmt)(f:Addr)(oc:Value)(od:ak)(kV dc pm:Value)(an:ak)(cd ct:Value)(sl:ap):Prop where
 l:K.lookup f=some ⟨oc,od,.func (W.fnOf m q (zav st) (zap st) (zac st) .none kV dc pm an cd ct),sl⟩
 c:W.codeIn K cd q=true
 k:W.keepIn K (.ref f)=true
 i:W.isFn K (.ref f)=true
structure MeS(K:am)(C:Addr)(m:Str)(f:Addr):Prop where
 e:W.findIn K (.ref C) m=some (some (.ref f))
structure NoS(K:am)(C:Addr)(m:Str):Prop where
 e:W.findIn K (.ref C) m=some none
structure ZeS(K:am)(x:Str):Prop where
 e:W.nsIn K mainGlobals x=some none
structure GlS(K:am)(x:Str)(i:Int)(t:Tok):Prop where
 e:W.nsIn K mainGlobals x=some (some (.int i t))
structure KtT(K:am)(x m:String)(b:Bool):Prop where
 e:W.kitOne K (.type x) (.type m)=some b
structure KtC(K:am)(C f:Addr)(b:Bool):Prop where
 e:W.kitOne K (.ref C) (.ref f)=some b
structure OAt(K:am)(x:Str)(C:Addr):Prop where
 a:W.nsIn K mainGlobals x=some (some (.ref C))
 o1:W.plainGet K C Str.empty=true
 o2:W.hasDictIn K C=true
 o3:W.plainOver K C=true
 o4:W.findIn K (.ref C) "__setattr__" = some (some (.builtin "object.__setattr__"))
 o5:W.findIn K (.ref C) "__class__" = some (some (.builtin "object.__class__"))
 o6:W.mroIn K C (.type "object")=some true
structure CAt(K:am)(C f:Addr):Prop where
 m:W.makesIn K C=true
 k:W.keepIn K (.ref C)=true
 i:W.findIn K (.ref C) "__init__" = some (some (.ref f))
structure GcT(K:am):Prop where
 g:W.specialIn K (.builtin "object.__class__") "__get__" = some (some (.builtin "getset_descriptor.__get__"))
 t:W.takesIn K (.builtin "object.__class__")=some true
structure XAt(K:am)(x:Str)(C:Addr)(cd:ClassData)(up:aj)(ini:ak):Prop where
 a:W.nsIn K mainGlobals x=some (some (.ref C))
 d:W.clsIn K C=some cd
 t:W.typeIn K (.ref C)=some (.type "type")
 x1:W.findIn K (.ref C) "__setattr__" = some (some (.builtin "object.__setattr__"))
 x2:W.findIn K (.ref C) "__getattribute__" = some (some (.builtin "BaseException.__getattribute__"))
 x3:W.findIn K (.ref C) "__getattr__" = some none
 x4:W.hasDictIn K C=true
 x5:W.findIn K (.ref C) "__class__" = some (some (.builtin "object.__class__"))
 x6:W.mroIn K C (.type "object")=some true
 x7:W.keepIn K (.ref C)=true
 z1:cd.mro=.ref C::up
 z2:W.xcIn K C ini=true
structure YAt(K:am)(C:Addr)(x q:Str)(st:Stmt)(f:Addr)(oc:Value)(od:ak)(kV dc pm:Value)(an:ak)(cd ct:Value)(sl:ap):Prop where
 y1:W.findIn K (.ref C) "__init__" = some (some (.ref f))
 y2:K.lookup f=some ⟨oc,od,.func (W.fnOf "__init__" q (zav st) (zap st) (zac st) .none kV dc pm an cd ct),sl⟩
 y3:W.codeIn K cd q=true
 y4:W.keepIn K (.ref f)=true
 y5:W.isFn K (.ref f)=true
 y6:W.findIn K (.ref C) x=some none
def OAt.g(o:OAt K x C)(X:K.In h)(G:h.Ns mainGlobals mg):mg x=some (.ref C):=rK X G o.a
def OAt.ow(o:OAt K x C)(g:GcT K):Own K C:=⟨⟨o.o1,o.o2,o.o3,o.o4⟩,o.o5,g.g,g.t,o.o6⟩
def CAt.mk_(c:CAt K C f)(i:W.isFn K (.ref f)=true):Mk K C f:=⟨c.m,c.i,i,c.k⟩
def mok(e:MeS K C m f)(d:MAt K m q st f oc od kV dc pm an cd ct sl)(O:Own K C){CX:CXT}{k:Nat}{fd:FuncData}{ps:List Str}{sp:Sp}(M:Mfn K m q st ps f fd)(G:FnOk P w K mg bj CX k f fd ps sp):MOk CX P w K mg bj k C m sp:=⟨O.cl,f,fd,ps,⟨e.e,d.i,d.k⟩,G,M.b⟩
def DAt.d1(d:DAt K x st f oc od kV dc pm an cd ct sl)(X:K.In h)(G:h.Ns mainGlobals mg)(p0:Str)(b:∀(kV dc pm:Value)(an:ak)(cd ct u:Value),bindArgs (W.fnOf x x (zav st) (zap st) (zac st) .none kV dc pm an cd ct) ⟨[u],[]⟩=pure ([p0].zip [u]):=by intros;rfl):Dfn K mg x st [p0] f (W.fnOf x x (zav st) (zap st) (zac st) .none kV dc pm an cd ct):=⟨zbH d.l d.c d.k,(zbH d.l d.c d.k).binds (ps:=[p0]) λ_ _ _ _ _ _ us hl=>by obtain⟨u,rfl⟩:=ul1 hl;exact b ..,rK X G d.a⟩
def MAt.m1(d:MAt K m q st f oc od kV dc pm an cd ct sl)(p0:Str)(b:∀(kV dc pm:Value)(an:ak)(cd ct u:Value),bindArgs (W.fnOf m q (zav st) (zap st) (zac st) .none kV dc pm an cd ct) ⟨[u],[]⟩=pure ([p0].zip [u]):=by intros;rfl):Mfn K m q st [p0] f (W.fnOf m q (zav st) (zap st) (zac st) .none kV dc pm an cd ct):=⟨zbH d.l d.c d.k,(zbH d.l d.c d.k).binds (ps:=[p0]) λ_ _ _ _ _ _ us hl=>by obtain⟨u,rfl⟩:=ul1 hl;exact b ..⟩
def DAt.d2(d:DAt K x st f oc od kV dc pm an cd ct sl)(X:K.In h)(G:h.Ns mainGlobals mg)(p0 p1:Str)(b:∀(kV dc pm:Value)(an:ak)(cd ct u v:Value),bindArgs (W.fnOf x x (zav st) (zap st) (zac st) .none kV dc pm an cd ct) ⟨[u,v],[]⟩=pure ([p0,p1].zip [u,v]):=by intros;rfl):Dfn K mg x st [p0,p1] f (W.fnOf x x (zav st) (zap st) (zac st) .none kV dc pm an cd ct):=⟨zbH d.l d.c d.k,(zbH d.l d.c d.k).binds (ps:=[p0,p1]) λ_ _ _ _ _ _ us hl=>by obtain⟨u,v,rfl⟩:=ul2 hl;exact b ..,rK X G d.a⟩
def DAt.c2(d:DAt K x st f oc od kV dc pm an cd ct sl)(X:K.In h)(G:h.Ns mainGlobals mg)(p0 p1:Str)(b:∀(kV dc pm:Value)(an:ak)(cd ct u v:Value),bindArgs (W.fnOf x x (zav st) (zap st) (zac st) .none kV dc pm an cd ct) ⟨[u,v],[]⟩=pure ([p0,p1].zip [u,v]):=by intros;rfl):DfnC K mg x st [p0,p1] f (W.fnOf x x (zav st) (zap st) (zac st) .none kV dc pm an cd ct) cd:=⟨zsT d.l d.c,d.k,(zbH d.l d.c d.k).binds (ps:=[p0,p1]) λ_ _ _ _ _ _ us hl=>by obtain⟨u,v,rfl⟩:=ul2 hl;exact b ..,rK X G d.a⟩
def MAt.m2(d:MAt K m q st f oc od kV dc pm an cd ct sl)(p0 p1:Str)(b:∀(kV dc pm:Value)(an:ak)(cd ct u v:Value),bindArgs (W.fnOf m q (zav st) (zap st) (zac st) .none kV dc pm an cd ct) ⟨[u,v],[]⟩=pure ([p0,p1].zip [u,v]):=by intros;rfl):Mfn K m q st [p0,p1] f (W.fnOf m q (zav st) (zap st) (zac st) .none kV dc pm an cd ct):=⟨zbH d.l d.c d.k,(zbH d.l d.c d.k).binds (ps:=[p0,p1]) λ_ _ _ _ _ _ us hl=>by obtain⟨u,v,rfl⟩:=ul2 hl;exact b ..⟩
def DAt.d3(d:DAt K x st f oc od kV dc pm an cd ct sl)(X:K.In h)(G:h.Ns mainGlobals mg)(p0 p1 p2:Str)(b:∀(kV dc pm:Value)(an:ak)(cd ct u v s:Value),bindArgs (W.fnOf x x (zav st) (zap st) (zac st) .none kV dc pm an cd ct) ⟨[u,v,s],[]⟩=pure ([p0,p1,p2].zip [u,v,s]):=by intros;rfl):Dfn K mg x st [p0,p1,p2] f (W.fnOf x x (zav st) (zap st) (zac st) .none kV dc pm an cd ct):=⟨zbH d.l d.c d.k,(zbH d.l d.c d.k).binds (ps:=[p0,p1,p2]) λ_ _ _ _ _ _ us hl=>by obtain⟨u,v,s,rfl⟩:=ul3 hl;exact b ..,rK X G d.a⟩
def MAt.m3(d:MAt K m q st f oc od kV dc pm an cd ct sl)(p0 p1 p2:Str)(b:∀(kV dc pm:Value)(an:ak)(cd ct u v s:Value),bindArgs (W.fnOf m q (zav st) (zap st) (zac st) .none kV dc pm an cd ct) ⟨[u,v,s],[]⟩=pure ([p0,p1,p2].zip [u,v,s]):=by intros;rfl):Mfn K m q st [p0,p1,p2] f (W.fnOf m q (zav st) (zap st) (zac st) .none kV dc pm an cd ct):=⟨zbH d.l d.c d.k,(zbH d.l d.c d.k).binds (ps:=[p0,p1,p2]) λ_ _ _ _ _ _ us hl=>by obtain⟨u,v,s,rfl⟩:=ul3 hl;exact b ..⟩
def DAt.d4(d:DAt K x st f oc od kV dc pm an cd ct sl)(X:K.In h)(G:h.Ns mainGlobals mg)(p0 p1 p2 p3:Str)(b:∀(kV dc pm:Value)(an:ak)(cd ct u v s t:Value),bindArgs (W.fnOf x x (zav st) (zap st) (zac st) .none kV dc pm an cd ct) ⟨[u,v,s,t],[]⟩=pure ([p0,p1,p2,p3].zip [u,v,s,t]):=by intros;rfl):Dfn K mg x st [p0,p1,p2,p3] f (W.fnOf x x (zav st) (zap st) (zac st) .none kV dc pm an cd ct):=⟨zbH d.l d.c d.k,(zbH d.l d.c d.k).binds (ps:=[p0,p1,p2,p3]) λ_ _ _ _ _ _ us hl=>by obtain⟨u,v,s,t,rfl⟩:=ul4 hl;exact b ..,rK X G d.a⟩
def MAt.m5(d:MAt K m q st f oc od kV dc pm an cd ct sl)(p0 p1 p2 p3 p4:Str)(b:∀(kV dc pm:Value)(an:ak)(cd ct u v s t a:Value),bindArgs (W.fnOf m q (zav st) (zap st) (zac st) .none kV dc pm an cd ct) ⟨[u,v,s,t,a],[]⟩=pure ([p0,p1,p2,p3,p4].zip [u,v,s,t,a]):=by intros;rfl):Mfn K m q st [p0,p1,p2,p3,p4] f (W.fnOf m q (zav st) (zap st) (zac st) .none kV dc pm an cd ct):=⟨zbH d.l d.c d.k,(zbH d.l d.c d.k).binds (ps:=[p0,p1,p2,p3,p4]) λ_ _ _ _ _ _ us hl=>by obtain⟨u,v,s,t,a,rfl⟩:=ul5 hl;exact b ..⟩
def MAt.m6(d:MAt K m q st f oc od kV dc pm an cd ct sl)(p0 p1 p2 p3 p4 p5:Str)(b:∀(kV dc pm:Value)(an:ak)(cd ct u v s t a z:Value),bindArgs (W.fnOf m q (zav st) (zap st) (zac st) .none kV dc pm an cd ct) ⟨[u,v,s,t,a,z],[]⟩=pure ([p0,p1,p2,p3,p4,p5].zip [u,v,s,t,a,z]):=by intros;rfl):Mfn K m q st [p0,p1,p2,p3,p4,p5] f (W.fnOf m q (zav st) (zap st) (zac st) .none kV dc pm an cd ct):=⟨zbH d.l d.c d.k,(zbH d.l d.c d.k).binds (ps:=[p0,p1,p2,p3,p4,p5]) λ_ _ _ _ _ _ us hl=>by obtain⟨u,v,s,t,a,z,rfl⟩:=ul6 hl;exact b ..⟩
end
def fsc{N P:List Str}{sc:Scope}(a:sc.kind=.function:=by rfl)(b:sc.isCoroutine=false:=by rfl)(c:sc.isGenerator=false:=by rfl)(d:N.Nodup:=by decide +kernel)(e:N.take P.length=P:=by rfl)(f:∀x∈P,sc.names.lookup x=some .local\/sc.names.lookup x=some .cell:=by decide +kernel)(g:∀y∈sc.names,y.2≠.free:=by decide +kernel):FnScope N P sc:=⟨a,b,c,d,e,f,g⟩
def Room.o{j k:Nat}{A:Around}(r:Room k A)(h:j<=k:=by decide):Room j A:=r.mono h
def cpo{X:Cx}{scope:Scope}{x:Str}{N:List Str}{js:List Nat}(c1:scope.kind=.function:=by rfl)(c2:(scope.names.all λy=>y.2 != .cell)=true:=by rfl)
    (c3:(scope.names.all λy=>y.2 != .local||scope.names.lookup y.1==some .local)=true:=by rfl) (c4:scope.names.lookup x=some .local:=by rfl) (c5:(scope.names.all λy=>y.2 != .free||X.env.kindOf y.1==some .cell)=true:=by rfl)
    (nd:N.Nodup:=by decide +kernel) (hd:N[0]?=some x:=by rfl) (len:N.length=js.length+1:=by rfl) (c6:(scope.names.all λy=>y.2 != .free||scope.names.lookup y.1 != some .local)=true:=by rfl)
    (c7:(((N.drop 1).zip js).all λp=>X.N[p.2]?==some p.1&&X.env.scope.names.lookup p.1==some .cell&&scope.names.contains (p.1,NameKind.free))=true:=by rfl):CompScope X scope x N js:=CompScope.of c1 c2 c3 c4 c5 nd hd len c6 c7
def si0:0<=sizeLine:=by decide
def si1:1<=sizeLine:=by decide
def si2:2<=sizeLine:=by decide
def si3:3<=sizeLine:=by decide
def si4:4<=sizeLine:=by decide
def si5:5<=sizeLine:=by decide
def si6:6<=sizeLine:=by decide
def si8:8<=sizeLine:=by decide
def znl{K:am}{a:Addr}{xs:List V}{js:List Nat}{tc:TT}{te:TE}{σ:St}{H1:Hp}{Q:VK}(f:Nat->V)(w:Nat->List V)(hl:SqL K H1 a xs)
    (ht:∀(i:Nat) x Hh (Q':Bool->Hp->Prop),xs[i]?=some x->Same H1 Hh->(∀Hh',Same Hh Hh'->Q' true Hh')->tc (some x::caps σ js) Hh Q')
    (he:∀(i:Nat) x Hh (Q':VK),xs[i]?=some x->Same H1 Hh->(∀b m Hh',Same Hh Hh'->Hh m=none->Hh b=none->Hh' b=some (.tup [f i,.ref m])->Hh' m=some (.lst (w i))->Q' (.ref b) Hh')->te (some x::caps σ js) Hh Q')
    (hz:xs.length<sizeLine) (q:∀D H2 (bs:List (Addr × Addr)),Same H1 H2->H1 D=none->H2 D=some (.lst (bs.map λb=>V.ref b.1))->bs.length=xs.length->(∀(i:Nat) b,bs[i]?=some b->H2 b.1=some (.tup [f i,.ref b.2])/\H2 b.2=some (.lst (w i))/\H1 b.1=none/\H1 b.2=none)->Q (.ref D) H2):
    zdK (Itl K a) js tc te σ H1 Q:=by
 intro D H2 s2 hD h2
 refine⟨λi m acc H3=>m=xs.length-i/\i<=xs.length/\∃bs:List (Addr × Addr),acc=(bs.map λb=>V.ref b.1)/\bs.length=i/\(∀(j:Nat) b,bs[j]?=some b->H3 b.1=some (.tup [f j,.ref b.2])/\H3 b.2=some (.lst (w j))/\b.2≠D/\H1 b.1=none/\H1 b.2=none)/\Same H1 H3/\H3 D=some (.lst acc),⟨_,rfl,tV _,[],rfl,rfl,λj b hb=>by simp at hb,s2,h2⟩,?_⟩
 rintro i m acc H3 ⟨rfl,hi,bs,ea,eb,rb,s3,h3⟩
 have hl3:SqL K H3 a xs:=s3.seq hl
 have hll:acc.length<=xs.length:=by
  rw[ea,tm]
  omega
 refine⟨h3,by omega,?_⟩
 by_cases hlt:i<xs.length
 ·have hx:xs[i]?=some xs[i]:=tj hlt
  refine .inr ⟨⟨xs,_,hl3,hx⟩,λy H4 z=>?_⟩
  obtain⟨e,ey⟩:=z
  have ey2:=ey xs hl3
  subst e
  refine ht i y _ _ ey2 s3 λH5 s5=>?_
  have h5:=s5 _ _ h3
  have s35:=s3.trans s5
  refine iteT (he i y _ _ ey2 s35 λb6 m6 H6 s6 n6 nb6 g6 w6=>⟨s6 _ _ h5,λH7 k7 h7=>⟨xs.length-(i+1),by omega,rfl,hlt,bs++[(b6,m6)],?_,by rw[tR,eb];rfl,λj b hj=>?_,λb o e=>?_,h7⟩⟩)
  ·rw[ea,t4]
   rfl
  ·have nD:∀c t,H6 c=some (.tup t)->c≠D:=λc t g z=>by
    rw[z,s6 _ _ h5]at g
    cases g
   have mD:m6≠D:=λz=>by rw[z,h5]at n6;cases n6
   by_cases z:j<bs.length
   ·rw[sR z]at hj
    obtain⟨r1,r2,r3⟩:=rb j b hj
    have g1:=s6 _ _ (s5 _ _ r1)
    exact⟨k7 _ _ (nD _ _ g1) g1,k7 _ _ r3.1 (s6 _ _ (s5 _ _ r2)),r3⟩
   ·rw[sN (by omega)]at hj
    cases y:j-bs.length with
    | zero=>
      rw[y]at hj
      cases hj
      rw[show j=i by omega]
      exact⟨k7 _ _ (nD _ _ g6) g6,k7 _ _ mD w6,mD,Same.free s35 nb6,Same.free s35 n6⟩
    | succ n=>rw[y]at hj;cases hj
  ·by_cases hbD:b=D
   ·subst hbD
    rw[hD]at e
    cases e
   ·exact k7 b o hbD (s6 b o (s35 b o e))
 ·have e:i=xs.length:=by omega
  subst e
  refine .inl ⟨⟨xs,hl3,tF _⟩,?_⟩
  rw[ea]at h3
  exact q D _ bs s3 hD h3 eb λj b hj=>⟨(rb j b hj).1,(rb j b hj).2.1,(rb j b hj).2.2.2⟩
def znm{K:am}{a:Addr}{xs:List V}{g:TG}{js:List Nat}{tc:TT}{te:TE}{σ:St}{H1:Hp}{Q:VK}(hl:SqL K H1 a xs)
    (hg:∀(i:Nat) p x Hh os (R:St->Hp->Prop),Hh p=some (.tup [.int i,x])->os.length=2->R ([some (.int i),some x]++caps σ js) Hh->g (.ref p) (os++caps σ js) Hh R)
    (ht:∀(i:Nat) x Hh (Q':Bool->Hp->Prop),xs[i]?=some x->Same H1 Hh->(∀Hh',Same Hh Hh'->Q' false Hh')->tc ([some (.int i),some x]++caps σ js) Hh Q')
    (q:∀D H2,Same H1 H2->H1 D=none->H2 D=some (.lst [])->Q (.ref D) H2):bJ (Ite K a) 2 g js tc te σ H1 Q:=by
 intro D H2 s2 hD h2
 refine⟨λi m acc H3=>m=xs.length-i/\i<=xs.length/\acc=[]/\Same H1 H3/\H3 D=some (.lst acc),⟨_,rfl,tV _,rfl,s2,h2⟩,?_⟩
 rintro i m acc H3 ⟨rfl,hi,rfl,s3,h3⟩
 have hl3:SqL K H3 a xs:=s3.seq hl
 refine⟨h3,by decide,?_⟩
 by_cases hlt:i<xs.length
 ·have hx:xs[i]?=some xs[i]:=tj hlt
  refine .inr ⟨⟨xs,_,hl3,hx⟩,λos ol y H4 z=>?_⟩
  obtain⟨p,y',rfl,sm,n0,h4,ey⟩:=z
  have ey2:=ey xs hl3
  refine hg i p y' _ os _ h4 ol ⟨[some (.int i),some y'],rfl,rfl,?_⟩
  exact ht i y' _ _ ey2 (s3.trans sm) λH5 s5=>iteF ⟨xs.length-(i+1),by omega,rfl,hlt,rfl,s3.trans (sm.trans s5),s5 _ _ (sm _ _ h3)⟩
 ·have e:i=xs.length:=by omega
  subst e
  exact .inl ⟨⟨xs,hl3,tF _⟩,q D H3 s3 hD h3⟩
end L2
namespace L2
theorem gmp{α β:Type}{xs:List α}{f : α -> β}{i:Nat}{y : β}(h:(xs.map f)[i]?=some y):∃x,xs[i]?=some x/\f x=y:=by
 rw[getElem?_map]at h
 cases e:xs[i]? with
 | none=>rw[e]at h;cases h
 | some x=>
   rw[e]at h
   exact⟨x,rfl,tL h⟩
end L2
namespace K92
open PySem L2
local macro_rules | `(tactic| walk_at "z") => `(tactic| (intro vs H Q E h;cases h;subst_vars;rfl))
abbrev pl0:List Str:=["number","sort_name","came","span","tries","spent"]
abbrev pl1:List Str:=["self","number","sort_name","came","span","tries","spent"]
abbrev pl2:List Str:=["self"]
abbrev pl3:List Str:=["thing","low","high"]
abbrev pl4:List Str:=["text","first","last"]
abbrev pl5:List Str:=["thing"]
abbrev pl6:List Str:=["one","other"]
abbrev pl7:List Str:=["self","name","weight","speed","span","tries"]
abbrev pl8:List Str:=["piece","sorts"]
abbrev pl9:List Str:=["claim","turn","common"]
abbrev pl10:List Str:=["claims","turn"]
abbrev pl11:List Str:=["chores","hands","turn"]
abbrev pl12:List Str:=["chores","numbers"]
abbrev pl13:List Str:=["chores","real"]
abbrev pl14:List Str:=["chores","hands","begin","real"]
abbrev pl15:List Str:=["claim","turn"]
abbrev pl16:List Str:=["chores","number"]
abbrev pl17:List Str:=["chores","hands","begin"]
abbrev pl18:List Str:=["chores","hands","begin","number"]
abbrev pl19:List Str:=["chores","hands","begin","told"]
abbrev pl20:List Str:=["pieces","sorts"]
abbrev pl21:List Str:=["self","number"]
abbrev pl22:List Str:=["self","number","due","turn","run"]
abbrev pl23:List Str:=["self","sorts","hands"]
abbrev pl24:List Str:=["self","pieces","sorts","hands","number"]
abbrev pl25:List Str:=["piece","turn","numbers","ends"]
abbrev pl26:List Str:=["self","ends","more"]
abbrev pl27:List Str:=["weight","speed","turns"]
abbrev pl28:List Str:=["one","other","turn"]
abbrev pl29:List Str:=["front","back","begin"]
abbrev pl30:List Str:=["one","other","begin"]
abbrev pl31:List Str:=["claims","first","last"]
abbrev pl32:List Str:=["_law_script","_law_k"]
abbrev pl33:List Str:=["_law_cell_here","_law_k"]
abbrev pl34:List Str:=["_law_cell_here"]
abbrev pl35:List Str:=["_law_state","_law_many"]
abbrev pl36:List Str:=["_law_claim","_law_turn"]
abbrev pl37:List Str:=["_law_one","_law_other","_law_turn"]
abbrev pl38:List Str:=["_law_claims","_law_turn"]
abbrev pl39:List Str:=["_law_found","_law_due"]
abbrev pl40:List Str:=["_law_house","_law_rows","_law_cell_here"]
abbrev pl41:List Str:=["_law_claims","_law_now","_law_far"]
abbrev pl42:List Str:=["_law_house","_law_claims"]
abbrev pl43:List Str:=["_law_house","_law_claims","_law_hands","_law_turns"]
def top(i:Nat):Stmt:=PySem.Challenge.pw_greywait_k92_whole_far_orders.main.body.getD i (.Pass ⟨0,0,0,0⟩)
abbrev zgc:Stmt:=top 13
abbrev zdg:Stmt:=top 14
abbrev zhO:Stmt:=top 15
abbrev zce:Stmt:=top 19
abbrev zjc:Stmt:=top 20
abbrev zgd:Stmt:=top 21
abbrev zew:Stmt:=top 22
abbrev zcV:Stmt:=top 23
abbrev zex:Stmt:=top 25
abbrev zbX:Stmt:=top 26
abbrev zlk:Stmt:=top 27
abbrev zdP:Stmt:=top 28
abbrev zcu:Stmt:=top 29
abbrev zhP:Stmt:=top 30
abbrev zdQ:Stmt:=top 33
abbrev zcv:Stmt:=top 34
abbrev zey:Stmt:=top 35
abbrev zaF:Stmt:=top 36
abbrev zbJ:Stmt:=top 37
abbrev zge:Stmt:=top 38
abbrev zbY:Stmt:=top 39
abbrev zhQ:Stmt:=top 40
abbrev zdh:Stmt:=top 41
abbrev zez:Stmt:=top 42
abbrev zgf:Stmt:=top 43
abbrev zcf:Stmt:=top 45
abbrev zcw:Stmt:=top 46
abbrev zeA:Stmt:=top 47
abbrev zcW:Stmt:=top 49
abbrev zdi:Stmt:=top 50
abbrev zdj:Stmt:=top 52
abbrev zdk:Stmt:=top 53
abbrev zdR:Stmt:=top 54
abbrev zdS:Stmt:=top 55
abbrev zeB:Stmt:=top 56
abbrev zgg:Stmt:=top 57
abbrev zgh:Stmt:=top 65
abbrev zgi:Stmt:=top 66
abbrev zjd:Stmt:=top 71
abbrev zgj:Stmt:=top 72
abbrev zeC:Stmt:=top 73
abbrev zeD:Stmt:=top 75
abbrev zgk:Stmt:=top 78
abbrev zeE:Stmt:=top 87
abbrev zdT:Stmt:=top 89
abbrev zcX:Stmt:=top 90
abbrev zgl:Stmt:=top 93
abbrev zhR:Stmt:=top 94
abbrev zeF:Stmt:=top 95
abbrev zgm:Stmt:=top 96
abbrev zeG:Stmt:=top 97
abbrev zeH:Stmt:=top 98
abbrev zeI:Stmt:=top 99
abbrev zeJ:Stmt:=top 100
abbrev zgn:Stmt:=top 101
abbrev zeK:Stmt:=top 102
abbrev zeL:Stmt:=top 103
abbrev zgo:Stmt:=top 104
abbrev zcx:Stmt:=top 105
abbrev zeM:Stmt:=top 106
abbrev zdl:Stmt:=top 107
abbrev znn:Stmt:=top 108
abbrev zaW:Stmt:=zaC (top 59) 0
abbrev zcy:Stmt:=zaC (top 59) 3
abbrev zbZ:Stmt:=zaC (top 59) 4
abbrev zeN:Stmt:=zaC (top 59) 5
abbrev zcY:Stmt:=zaC (top 61) 0
abbrev bP:Stmt:=zaC (top 61) 1
abbrev bQ:Stmt:=zaC (top 61) 2
abbrev zcg:Stmt:=zaC (top 61) 3
abbrev zcZ:Stmt:=zaC (top 61) 4
abbrev zeO:Stmt:=zaC (top 62) 0
abbrev bR:Stmt:=zaC (top 63) 0
abbrev zcz:Stmt:=zaC (top 74) 0
abbrev zdm:Stmt:=zaC (top 74) 1
abbrev zch:Stmt:=zaC (top 76) 0
abbrev zcA:Stmt:=zaC (top 76) 3
abbrev zbK:Stmt:=zaC (top 80) 0
abbrev bS:Stmt:=zaC (top 80) 1
abbrev zbL:Stmt:=zaC (top 81) 0
abbrev bU:Stmt:=zaC (top 81) 1
abbrev zci:Stmt:=zaC (top 91) 0
abbrev zcj:Stmt:=zaC (top 91) 1
abbrev zbm:Stmt:=zaC (top 91) 2
abbrev zbh:Stmt:=zaC (top 91) 3
abbrev bV:Stmt:=zaC (top 91) 4
abbrev zbB:Stmt:=zaC (top 91) 5
abbrev zbM:Stmt:=zaC (top 91) 6
abbrev zdn:Stmt:=zaC (top 91) 7
abbrev zbN:Stmt:=zaC (top 91) 8
abbrev zdU:Stmt:=zaC (top 91) 9
abbrev zdV:Stmt:=zaC (top 91) 15
abbrev zaP:Stmt:=zaC (top 91) 17
abbrev zbO:Stmt:=zaC (top 91) 18
abbrev zeP:Stmt:=zaC (top 91) 19
abbrev zcB:Stmt:=zaC (top 91) 20
abbrev zbP:Stmt:=zaC (top 91) 22
abbrev zbQ:Stmt:=zaC (top 91) 23
abbrev zck:Stmt:=zaC (top 91) 24
abbrev bW:Stmt:=zaC (top 91) 26
abbrev zdo:Stmt:=zaC (top 91) 27
structure Txt(K:am)(mg:af)(Bg Au Aa Ad Ab AJ Aj Ae Av Ag Af Ac:Addr):Prop where
 zvT:mg "abs" = none
 zuQ:mg "all" = none
 ztm:mg "any" = none
 zrU:mg "bool" = none
 zuR:mg "dict" = none
 zrk:mg "divmod" = none
 zeQ:mg "enumerate" = none
 zuS:mg "int" = none
 zaI:mg "isinstance" = none
 zdW:mg "len" = none
 zhS:mg "list" = none
 zvU:mg "max" = none
 zvV:mg "min" = none
 zpr:mg "range" = none
 zvW:mg "set" = none
 zmz:mg "sorted" = none
 zvX:mg "str" = none
 zll:mg "tuple" = none
 Bh:∃t,mg "LONGEST_NAME" = some (.int 8 t)
 Cw:∃t,mg "MOST_TOP" = some (.int 1000000 t)
 Br:∃t,mg "MOST_BOTTOM" = some (.int 12 t)
 Bt:∃t,mg "MOST_TURN" = some (.int 1000000000000000 t)
 BD:∃t,mg "MOST_SORTS" = some (.int 8 t)
 B4:∃t,mg "MOST_SPAN" = some (.int 4 t)
 BE:∃t,mg "MOST_TRIES" = some (.int 3 t)
 BF:∃t,mg "MOST_HANDS" = some (.int 6 t)
 Bi:∃t,mg "MOST_HELPERS" = some (.int 6 t)
 B5:∃t,mg "MOST_OPEN" = some (.int 40 t)
 At:∃t,mg "MOST_TURNS_TO_PASS" = some (.int 100 t)
 Es:mg "Piece" = some (.ref Bg)
 Et:Own K Bg
 D9:mg "Held" = some (.ref Au)
 EF:Own K Au
 Du:mg "Waiting" = some (.ref Aa)
 Ay:Own K Aa
 Bw:zal K Aa "number"
 AO:zal K Aa "sort_name"
 BW:zal K Aa "came"
 BX:zal K Aa "span"
 BG:zal K Aa "tries"
 BH:zal K Aa "spent"
 EG:mg "Done" = some (.ref Ad)
 Dm:Own K Ad
 Ce:zal K Ad "number"
 Bx:zal K Ad "sort_name"
 C3:zal K Ad "came"
 C4:zal K Ad "span"
 CP:zal K Ad "tries"
 CQ:zal K Ad "spent"
 Eh:mg "GivenUp" = some (.ref Ab)
 Bj:Own K Ab
 By:zal K Ab "number"
 AQ:zal K Ab "sort_name"
 BY:zal K Ab "came"
 BZ:zal K Ab "span"
 BI:zal K Ab "tries"
 BJ:zal K Ab "spent"
 Ep:mg "Missed" = some (.ref AJ)
 Er:Own K AJ
 EH:mg "Sort" = some (.ref Aj)
 Dv:Own K Aj
 B8:zal K Aj "name"
 Bu:zal K Aj "weight"
 BK:zal K Aj "speed"
 B9:zal K Aj "span"
 BL:zal K Aj "tries"
 Eu:mg "Sorts" = some (.ref Ae)
 DC:Own K Ae
 CS:zal K Ae "rows"
 Ei:mg "Verdict" = some (.ref Av)
 Ej:Own K Av
 Ek:mg "Granted" = some (.ref Ag)
 Dw:Own K Ag
 CV:zal K Ag "number"
 El:mg "LateOne" = some (.ref Af)
 Dx:Own K Af
 CW:zal K Af "number"
 Dn:zal K Af "due"
 De:zal K Af "turn"
 Do:zal K Af "run"
 Ev:mg "House" = some (.ref Ac)
 Ah:Own K Ac
 Aq:zal K Ac "sorts"
 Az:zal K Ac "hands"
 Al:zal K Ac "turn"
 Ai:zal K Ac "pieces"
 Ap:zal K Ac "numbers"
 AZ:zal K Ac "rows"
 DG:W.kitOne K (.ref Ad) (.ref Au)=some false
 Df:W.kitOne K (.ref Ad) (.ref Aa)=some false
 Dg:W.kitOne K (.ref Ab) (.ref Au)=some false
 Cy:W.kitOne K (.ref Ab) (.ref Aa)=some false
 Dh:W.kitOne K (.ref Aa) (.ref Au)=some false
 Cz:W.kitOne K (.ref Aa) (.ref Aa)=some true
 ztn:W.kitOne K (.type "bool") (.type "bool")=some true
 ziU:W.kitOne K (.type "int") (.type "bool")=some false
 zki:W.kitOne K (.type "int") (.type "int")=some true
 zno:W.kitOne K (.type "int") (.type "list")=some false
 zlm:W.kitOne K (.type "int") (.type "tuple")=some false
 zdp:W.kitOne K (.type "list") (.type "list")=some true
 zps:W.kitOne K (.type "str") (.type "str")=some true
 zrV:W.kitOne K (.type "tuple") (.type "list")=some false
 zfu:W.kitOne K (.type "tuple") (.type "tuple")=some true
section
variable{Bg Au Aa Ad Ab AJ Aj Ae Av Ag Af Ac:Addr}
variable{P:Program}{w:World}{K:am}{mg:af}{bj:Heap}{f:Addr}{fd:FuncData}
variable(T:Txt K mg Bg Au Aa Ad Ab AJ Aj Ae Av Ag Af Ac)
inductive Wd where
 | waiting
 | done
 | givenUp
 deriving DecidableEq
def Wd.str:Wd->Str
 | .waiting => "waiting"
 | .done => "done"
 | .givenUp => "given up"
def Wd.opn:Wd->Bool
 | .waiting=>true
 | _=>false
structure CsA where
 w:Addr
 d:Addr
 g:Addr
def CsA.cl(cs:CsA):Wd->Addr
 | .waiting=>cs.w
 | .done=>cs.d
 | .givenUp=>cs.g
structure Pv where
 n:Int
 nm:Str
 came:Int
 span:Int
 tries:Int
 spent:Int
def Pv.fs(p:Pv):List (Str × V):=[("number",.int p.n),("sort_name",.str p.nm),("came",.int p.came),("span",.int p.span),("tries",.int p.tries),("spent",.int p.spent)]
def IsPc(cs:CsA)(H:Hp)(a:Addr)(d:Wd)(p:Pv):Prop:=∃dx,H a=some (.ins (cs.cl d) dx p.fs)
def IsPc.same{cs:CsA}{H H':Hp}{a:Addr}{d:Wd}{p:Pv}(s:Same H H')(h:IsPc cs H a d p):IsPc cs H' a d p:=let ⟨dx,e⟩:=h;⟨dx,s _ _ e⟩
structure Six(K:am)(cs:CsA):Prop where
 ow:∀d,Own K (cs.cl d)
 n1:∀d,zal K (cs.cl d) "number"
 n2:∀d,zal K (cs.cl d) "sort_name"
 n3:∀d,zal K (cs.cl d) "came"
 n4:∀d,zal K (cs.cl d) "span"
 n5:∀d,zal K (cs.cl d) "tries"
 n6:∀d,zal K (cs.cl d) "spent"
def zrW:List Str:=pl0
def zcC(T:Txt K mg Bg Au Aa Ad Ab AJ Aj Ae Av Ag Af Ac):Six K (CsA.mk Aa Ad Ab) where
 ow d:=match d with | .waiting=>T.Ay | .done=>T.Dm | .givenUp=>T.Bj
 n1 d:=match d with | .waiting=>T.Bw | .done=>T.Ce | .givenUp=>T.By
 n2 d:=match d with | .waiting=>T.AO | .done=>T.Bx | .givenUp=>T.AQ
 n3 d:=match d with | .waiting=>T.BW | .done=>T.C3 | .givenUp=>T.BY
 n4 d:=match d with | .waiting=>T.BX | .done=>T.C4 | .givenUp=>T.BZ
 n5 d:=match d with | .waiting=>T.BG | .done=>T.CP | .givenUp=>T.BI
 n6 d:=match d with | .waiting=>T.BH | .done=>T.CQ | .givenUp=>T.BJ
def no6{C:Addr}(a:zal K C "number")(b:zal K C "sort_name")(c:zal K C "came")(d:zal K C "span")(e:zal K C "tries")(f:zal K C "spent"):∀g,g∈zrW->zal K C g:=λg hg=>by
 rcases mem_cons.mp hg with rfl | hg
 ·exact a
 rcases mem_cons.mp hg with rfl | hg
 ·exact b
 rcases mem_cons.mp hg with rfl | hg
 ·exact c
 rcases mem_cons.mp hg with rfl | hg
 ·exact d
 rcases mem_cons.mp hg with rfl | hg
 ·exact e
 rw[mem_singleton.mp hg]
 exact f
def zgp:FnScope pl1 pl1 (zac zaW):=fsc
include T in
theorem zgq{u:Value}(D:MfnE K "__init__" "Piece.__init__" zaW pl1 f fd u):FnOk P w K mg bj CX0 1 f fd pl1 (zms K zrW):=by
 refine D.F.ok zgp (λvs H Q E h=>?_) (λc A o s H vs Q E hr h=>?_)
 ·obtain⟨x,C,dx,args,rfl,_,_,_,l,_⟩:=h
  rw[length_cons,l]
  rfl
 obtain⟨x,C,dx,args,rfl,hx,cl,no,l,q⟩:=h
 obtain⟨a1,a2,a3,a4,a5,a6,rfl⟩:=ul6 l
 refine⟨_,(zab (zaM (pv 0) (pv 1))
  (zab (zaM (pv 0) (pv 2))
  (zab (zaM (pv 0) (pv 3))
  (zab (zaM (pv 0) (pv 4))
  (zab (zaM (pv 0) (pv 5))
  (zaf (zaM (pv 0) (pv 6)))))))),?_⟩
 refine⟨_,rfl,_,rfl,x,C,dx,_,rfl,hx,cl,no _ (by decide),(by show(0:Nat)<1000;decide),λH1 k1 h1=>?_⟩
 have h1:H1 x=some (.ins C dx [("number",a1)]):=by
  rw[h1]
  rfl
 refine⟨_,rfl,_,rfl,x,C,dx,_,rfl,h1,cl,no _ (by decide),(by show(1:Nat)<1000;decide),λH2 k2 h2=>?_⟩
 have h2:H2 x=some (.ins C dx [("number",a1),("sort_name",a2)]):=by
  rw[h2]
  rfl
 refine⟨_,rfl,_,rfl,x,C,dx,_,rfl,h2,cl,no _ (by decide),(by show(2:Nat)<1000;decide),λH3 k3 h3=>?_⟩
 have h3:H3 x=some (.ins C dx [("number",a1),("sort_name",a2),("came",a3)]):=by
  rw[h3]
  rfl
 refine⟨_,rfl,_,rfl,x,C,dx,_,rfl,h3,cl,no _ (by decide),(by show(3:Nat)<1000;decide),λH4 k4 h4=>?_⟩
 have h4:H4 x=some (.ins C dx [("number",a1),("sort_name",a2),("came",a3),("span",a4)]):=by
  rw[h4]
  rfl
 refine⟨_,rfl,_,rfl,x,C,dx,_,rfl,h4,cl,no _ (by decide),(by show(4:Nat)<1000;decide),λH5 k5 h5=>?_⟩
 have h5:H5 x=some (.ins C dx [("number",a1),("sort_name",a2),("came",a3),("span",a4),("tries",a5)]):=by
  rw[h5]
  rfl
 refine⟨_,rfl,_,rfl,x,C,dx,_,rfl,h5,cl,no _ (by decide),(by show(5:Nat)<1000;decide),λH6 k6 h6=>?_⟩
 have h6:H6 x=some (.ins C dx [("number",a1),("sort_name",a2),("came",a3),("span",a4),("tries",a5),("spent",a6)]):=by
  rw[h6]
  rfl
 exact q H6 (k1.trans (k2.trans (k3.trans (k4.trans (k5.trans k6))))) h6
inductive zmA(cs:CsA)(d:Wd)(vs:List V)(H:Hp)(Q:VK)(_:XK):Prop
 | mk (a:Addr) (p:Pv) (_:vs=[.ref a]) (_:IsPc cs H a d p) (_:Q (.bl d.opn) H)
inductive zvY(cs:CsA)(vs:List V)(H:Hp)(Q:VK)(_:XK):Prop
 | mk (a:Addr) (_:vs=[.ref a]) (_:Q (.bl false) H)
def Pv.left(p:Pv)(d:Wd):Int:=if d.opn=true then p.tries*p.span-p.spent else 0
structure Pv.Ok(p:Pv):Prop where
 s0:1<=p.span
 s1:p.span<=4
 t1:p.tries<=3
 t0:0<=p.tries
inductive zpt(cs:CsA)(vs:List V)(H:Hp)(Q:VK)(_:XK):Prop
 | mk (a:Addr) (d:Wd) (p:Pv) (_:vs=[.ref a]) (_:IsPc cs H a d p) (_:p.Ok) (_:Q (.int (p.left d)) H)
def zgY:FnScope pl2 pl2 (zac zcy):=fsc
include T in
theorem zgZ(D:Mfn K "is_open" "Piece.is_open" zcy pl2 f fd):FnOk P w K mg bj CX0 1 f fd pl2 (zvY (CsA.mk Aa Ad Ab)):=by
 refine D.F.ok zgY (by walk_at "z") (λc A o s H vs Q E hr h=>?_)
 obtain⟨a,rfl,q⟩:=h
 exact⟨_,(zaf (zaj zdG)),q⟩
def zfv:FnScope pl2 pl2 (zac bP):=fsc
include T in
theorem zfw(D:Mfn K "is_open" "Waiting.is_open" bP pl2 f fd):FnOk P w K mg bj CX0 1 f fd pl2 (zmA (CsA.mk Aa Ad Ab) .waiting):=by
 refine D.F.ok zfv (by walk_at "z") (λc A o s H vs Q E hr h=>?_)
 obtain⟨a,p,rfl,hp,q⟩:=h
 exact⟨_,(zaf (zaj zdG)),q⟩
def zfx:FnScope pl2 pl2 (zac zbZ):=fsc
include T in
theorem zfy(D:Mfn K "work_left" "Piece.work_left" zbZ pl2 f fd)(Bk:∀d,MOk CX0 P w K mg bj 1 (CsA.cl (CsA.mk Aa Ad Ab) d) "is_open" (zmA (CsA.mk Aa Ad Ab) d)):FnOk P w K mg bj CX0 2 f fd pl2 (zpt (CsA.mk Aa Ad Ab)):=by
 refine D.F.ok zfx (by walk_at "z") (λc A o s H vs Q E hr h=>?_)
 obtain⟨a,d,p,rfl,⟨dx,e⟩,ok,q⟩:=h
 refine⟨_,(zaf (zaj (zcK (zaR (zaO (k:=1) (pv 0) hr.o zaT)) (zaz zel (zaz au (zaq (pv 0) rfl) (zaq (pv 0) rfl)) (zaq (pv 0) rfl)) zad))),?_⟩
 have S:=zcC T
 refine⟨_,rfl,a,_,dx,_,_,rfl,e,rfl,Bk d,a,p,rfl,⟨dx,e⟩,?_⟩
 unfold Pv.left at q
 cases ho:d.opn with
 | false=>
   rw[ho]at q
   exact⟨_,rfl,iteF q⟩
 | true=>
   rw[ho]at q
   refine⟨_,rfl,iteT ?_⟩
   refine⟨_,rfl,a,_,dx,_,_,rfl,e,(S.ow d).cl,S.n5 d,rfl,_,rfl,a,_,dx,_,_,rfl,e,(S.ow d).cl,S.n4 d,rfl,_,_,rfl,rfl,.inl ⟨?_,?_⟩,_,rfl,a,_,dx,_,_,rfl,e,(S.ow d).cl,S.n6 d,rfl,_,_,rfl,rfl,q⟩
   ·have:=ok.t0
    show(-2 ^ 64:Int)<p.tries
    omega
   ·have:=ok.t1
    show p.tries<(2 ^ 64:Int)
    omega
inductive zkj(cs:CsA)(d:Wd)(vs:List V)(H:Hp)(Q:VK)(_:XK):Prop
 | mk (a:Addr) (p:Pv) (_:vs=[.ref a]) (_:IsPc cs H a d p) (_:Q (.str d.str) H)
inductive zto(cs:CsA)(vs:List V)(H:Hp)(Q:VK)(_:XK):Prop
 | mk (a:Addr) (d:Wd) (p:Pv) (_:vs=[.ref a]) (_:IsPc cs H a d p) (_:∀t H',Same H H'->H' t=some (.tup [.str d.str,.str p.nm,.int p.came,.int p.tries,.int p.spent])->Q (.ref t) H')
def zhT:FnScope pl2 pl2 (zac zcY):=fsc
include T in
theorem zhU(D:Mfn K "word" "Waiting.word" zcY pl2 f fd):FnOk P w K mg bj CX0 1 f fd pl2 (zkj (CsA.mk Aa Ad Ab) .waiting):=by
 refine D.F.ok zhT (by walk_at "z") (λc A o s H vs Q E hr h=>?_)
 obtain⟨a,p,rfl,hp,q⟩:=h
 exact⟨_,(zaf (zaj zbD)),q⟩
def zkk:FnScope pl2 pl2 (zac zeO):=fsc
include T in
theorem zkl(D:Mfn K "word" "Done.word" zeO pl2 f fd):FnOk P w K mg bj CX0 1 f fd pl2 (zkj (CsA.mk Aa Ad Ab) .done):=by
 refine D.F.ok zkk (by walk_at "z") (λc A o s H vs Q E hr h=>?_)
 obtain⟨a,p,rfl,hp,q⟩:=h
 exact⟨_,(zaf (zaj zbD)),q⟩
def zhV:FnScope pl2 pl2 (zac bR):=fsc
include T in
theorem zhW(D:Mfn K "word" "GivenUp.word" bR pl2 f fd):FnOk P w K mg bj CX0 1 f fd pl2 (zkj (CsA.mk Aa Ad Ab) .givenUp):=by
 refine D.F.ok zhV (by walk_at "z") (λc A o s H vs Q E hr h=>?_)
 obtain⟨a,p,rfl,hp,q⟩:=h
 exact⟨_,(zaf (zaj zbD)),q⟩
def zkm:FnScope pl2 pl2 (zac zeN):=fsc
include T in
theorem zkn(D:Mfn K "row" "Piece.row" zeN pl2 f fd)(DP:∀d,MOk CX0 P w K mg bj 1 (CsA.cl (CsA.mk Aa Ad Ab) d) "word" (zkj (CsA.mk Aa Ad Ab) d)):FnOk P w K mg bj CX0 2 f fd pl2 (zto (CsA.mk Aa Ad Ab)):=by
 refine D.F.ok zkm (by walk_at "z") (λc A o s H vs Q E hr h=>?_)
 obtain⟨a,d,p,rfl,⟨dx,e⟩,q⟩:=h
 refine⟨_,(zaf (zaj (zaK (pai (zag (zaO (k:=1) (pv 0) hr.o zaT) (zag (zaq (pv 0) rfl) (zag (zaq (pv 0) rfl) (zag (zaq (pv 0) rfl) (zag (zaq (pv 0) rfl) zbd))))))))),?_⟩
 have S:=zcC T
 refine⟨_,rfl,a,_,dx,_,_,rfl,e,rfl,DP d,a,p,rfl,⟨dx,e⟩,?_⟩
 refine⟨_,rfl,a,_,dx,_,_,rfl,e,(S.ow d).cl,S.n2 d,rfl,_,rfl,a,_,dx,_,_,rfl,e,(S.ow d).cl,S.n3 d,rfl,_,rfl,a,_,dx,_,_,rfl,e,(S.ow d).cl,S.n5 d,rfl,_,rfl,a,_,dx,_,_,rfl,e,(S.ow d).cl,S.n6 d,rfl,si5,λt H1 s1 n1 h1=>q t H1 s1 h1⟩
def Pv.fail(p:Pv):Wd × Pv:=if p.tries-1=0 then(.givenUp,{ p with tries:=p.tries-1,spent:=0 })else(.waiting,{ p with tries:=p.tries-1,spent:=0 })
def Pv.step(p:Pv):Wd × Pv:=if p.spent+1=p.span then p.fail else(.waiting,{ p with spent:=p.spent+1 })
inductive zhX(cs:CsA)(g:Pv->Wd × Pv)(vs:List V)(H:Hp)(Q:VK)(_:XK):Prop
 | mk (a:Addr) (p:Pv) (_:vs=[.ref a]) (_:IsPc cs H a .waiting p) (_:∀a' H',Same H H'->IsPc cs H' a' (g p).1 (g p).2->Q (.ref a') H')
def zhY:FnScope pl2 pl2 (zac zcZ):=fsc
include T in
theorem zhZ(D:Mfn K "done" "Waiting.done" zcZ pl2 f fd)(DQ:Mak P w K mg bj "Done" Ad 1 pl0 (.int 0)):FnOk P w K mg bj CX0 3 f fd pl2 (zhX (CsA.mk Aa Ad Ab) λp=>(.done,p)):=by
 refine D.F.ok zhY (by walk_at "z") (λc A o s H vs Q E hr h=>?_)
 obtain⟨a,p,rfl,⟨dx,e⟩,qY⟩:=h
 have S:=zcC T
 exact⟨_,(zaf (zaj (zrS DQ hr.o rfl (pai (zag (zaq (pv 0) rfl) (zag (zaq (pv 0) rfl) (zag (zaq (pv 0) rfl) (zag (zaq (pv 0) rfl) (zag (zaq (pv 0) rfl) (zag (zaq (pv 0) rfl) zbd)))))))))),_,rfl,a,_,dx,_,_,rfl,e,(S.ow .waiting).cl,S.n1 .waiting,rfl,_,rfl,a,_,dx,_,_,rfl,e,(S.ow .waiting).cl,S.n2 .waiting,rfl,_,rfl,a,_,dx,_,_,rfl,e,(S.ow .waiting).cl,S.n3 .waiting,rfl,_,rfl,a,_,dx,_,_,rfl,e,(S.ow .waiting).cl,S.n4 .waiting,rfl,_,rfl,a,_,dx,_,_,rfl,e,(S.ow .waiting).cl,S.n5 .waiting,rfl,_,rfl,a,_,dx,_,_,rfl,e,(S.ow .waiting).cl,S.n6 .waiting,rfl,rfl,λa' dx' H' s' n' h'=>qY a' H' s' ⟨dx',h'⟩⟩
def eC:FnScope ["self","tries"] pl2 (zac zcg):=fsc
include T in
theorem zgr(D:Mfn K "failed" "Waiting.failed" zcg pl2 f fd)(AA:Mak P w K mg bj "Waiting" Aa 1 pl0 (.int 0))(C5:Mak P w K mg bj "GivenUp" Ab 1 pl0 (.int 0)):FnOk P w K mg bj CX0 3 f fd pl2 (zhX (CsA.mk Aa Ad Ab) Pv.fail):=by
 refine D.F.ok eC (by walk_at "z") (λc A o s H vs Q E hr h=>?_)
 obtain⟨a,p,rfl,⟨dx,e⟩,qY⟩:=h
 have S:=zcC T
 refine⟨_,(zab (zam (i:=1) eC.nd rfl (Or.inl rfl) (zaz zel (zaq (pv 0) rfl) zad))
  (zab (zaQ (zan zdd (pv 1) zad (zas _)) (zaf (zaj (zlh C5 hr.o rfl (pai (zag (zaq (pv 0) rfl) (zag (zaq (pv 0) rfl) (zag (zaq (pv 0) rfl) (zag (zaq (pv 0) rfl) (zag (pv 1) zbd))))))))) zat)
  (zaf (zaj (zlh AA hr.o rfl (pai (zag (zaq (pv 0) rfl) (zag (zaq (pv 0) rfl) (zag (zaq (pv 0) rfl) (zag (zaq (pv 0) rfl) (zag (pv 1) zbd))))))))))),?_⟩
 refine⟨_,rfl,a,_,dx,_,_,rfl,e,(S.ow .waiting).cl,S.n5 .waiting,rfl,_,_,rfl,rfl,?_⟩
 refine⟨_,rfl,rfl,_,rfl,?_⟩
 unfold Pv.fail at qY
 by_cases c:p.tries-1=0
 ·rw[if_pos c]at qY
  rw[decide_eq_true (show V.int (p.tries-1)=V.int 0 by rw[c])]
  refine iteT ⟨_,rfl,a,_,dx,_,_,rfl,e,(S.ow .waiting).cl,S.n1 .waiting,rfl,_,rfl,a,_,dx,_,_,rfl,e,(S.ow .waiting).cl,S.n2 .waiting,rfl,_,rfl,a,_,dx,_,_,rfl,e,(S.ow .waiting).cl,S.n3 .waiting,rfl,_,rfl,a,_,dx,_,_,rfl,e,(S.ow .waiting).cl,S.n4 .waiting,rfl,_,rfl,rfl,λa' dx' H' s' n' h'=>qY a' H' s' ⟨dx',h'⟩⟩
 ·rw[if_neg c]at qY
  rw[tS (show ¬V.int (p.tries-1)=V.int 0 from λz=>c (by injection z))]
  refine iteF ⟨_,rfl,a,_,dx,_,_,rfl,e,(S.ow .waiting).cl,S.n1 .waiting,rfl,_,rfl,a,_,dx,_,_,rfl,e,(S.ow .waiting).cl,S.n2 .waiting,rfl,_,rfl,a,_,dx,_,_,rfl,e,(S.ow .waiting).cl,S.n3 .waiting,rfl,_,rfl,a,_,dx,_,_,rfl,e,(S.ow .waiting).cl,S.n4 .waiting,rfl,_,rfl,rfl,λa' dx' H' s' n' h'=>qY a' H' s' ⟨dx',h'⟩⟩
def zcQ:FnScope ["self","spent"] pl2 (zac bQ):=fsc
include T in
theorem zfz(D:Mfn K "stepped" "Waiting.stepped" bQ pl2 f fd)(AA:Mak P w K mg bj "Waiting" Aa 1 pl0 (.int 0))(BV:MOk CX0 P w K mg bj 3 Aa "failed" (zhX (CsA.mk Aa Ad Ab) Pv.fail)):FnOk P w K mg bj CX0 4 f fd pl2 (zhX (CsA.mk Aa Ad Ab) Pv.step):=by
 refine D.F.ok zcQ (by walk_at "z") (λc A o s H vs Q E hr h=>?_)
 obtain⟨a,p,rfl,⟨dx,e⟩,qY⟩:=h
 have S:=zcC T
 refine⟨_,(zab (zam (i:=1) zcQ.nd rfl (Or.inl rfl) (zaz aw (zaq (pv 0) rfl) zad))
  (zab (zaQ (zan zdd (pv 1) (zaq (pv 0) rfl) (zas _)) (zaf (zaj (zaO (k:=3) (pv 0) hr.o zaT))) zat)
  (zaf (zaj (zrS AA hr.o rfl (pai (zag (zaq (pv 0) rfl) (zag (zaq (pv 0) rfl) (zag (zaq (pv 0) rfl) (zag (zaq (pv 0) rfl) (zag (zaq (pv 0) rfl) (zag (pv 1) zbd)))))))))))),?_⟩
 refine⟨_,rfl,a,_,dx,_,_,rfl,e,(S.ow .waiting).cl,S.n6 .waiting,rfl,_,_,rfl,rfl,?_⟩
 refine⟨_,rfl,_,rfl,a,_,dx,_,_,rfl,e,(S.ow .waiting).cl,S.n4 .waiting,rfl,rfl,_,rfl,?_⟩
 unfold Pv.step at qY
 by_cases c:p.spent+1=p.span
 ·rw[if_pos c]at qY
  rw[decide_eq_true (show V.int (p.spent+1)=V.int p.span by rw[c])]
  exact iteT ⟨_,rfl,a,_,dx,_,_,rfl,e,rfl,BV,a,p,rfl,⟨dx,e⟩,qY⟩
 ·rw[if_neg c]at qY
  rw[tS (show ¬V.int (p.spent+1)=V.int p.span from λz=>c (by injection z))]
  refine iteF ⟨_,rfl,a,_,dx,_,_,rfl,e,(S.ow .waiting).cl,S.n1 .waiting,rfl,_,rfl,a,_,dx,_,_,rfl,e,(S.ow .waiting).cl,S.n2 .waiting,rfl,_,rfl,a,_,dx,_,_,rfl,e,(S.ow .waiting).cl,S.n3 .waiting,rfl,_,rfl,a,_,dx,_,_,rfl,e,(S.ow .waiting).cl,S.n4 .waiting,rfl,_,rfl,a,_,dx,_,_,rfl,e,(S.ow .waiting).cl,S.n5 .waiting,rfl,_,rfl,rfl,λa' dx' H' s' n' h'=>qY a' H' s' ⟨dx',h'⟩⟩
def zvZ(K:am)(H:Hp)(x:V):Prop:=∃t,TyOf K H x t/\(W.kitOne K t (.type "bool")=some true\/(W.kitOne K t (.type "bool")=some false/\W.kitOne K t (.type "int")=some false))
def betw(a b:Nat)(c:Nat):Bool:=decide (a<=c)&&decide (c<=b)
inductive zrX(vs:List V)(H:Hp)(Q:VK)(_:XK):Prop
 | mk (x y z:Str) (a b:Nat) (_:vs=[.str x,.str y,.str z]) (_:y.cps.toList=[a]) (_:z.cps.toList=[b]) (_:x.length<=100) (_:∀H',Same H H'->Q (.bl (x.cps.toList.all (betw a b))) H')
def znp(cs:List Nat):Bool:=decide (1<=cs.length/\cs.length<=8)&&cs.all (betw 97 122)
def ca:(Str.ofString "a").cps.toList=[97]:=by decide +kernel
def cz:(Str.ofString "z").cps.toList=[122]:=by decide +kernel
def WhB(K:am)(H:Hp)(x:V)(lo hi:Int)(b:Bool):Prop:=(∃i,x=.int i/\b=(decide (lo<=i)&&decide (i<=hi)))\/(zvZ K H x/\b=false)
inductive zbn(K:am)(vs:List V)(H:Hp)(Q:VK)(_:XK):Prop
 | mk (x:V) (lo hi:Int) (b:Bool) (_:vs=[x,.int lo,.int hi]) (_:WhB K H x lo hi b) (_:Q (.bl b) H)
inductive zrY(vs:List V)(H:Hp)(Q:VK)(_:XK):Prop
 | mk (z:Str) (_:vs=[.str z]) (_:z.length<=100) (_:znp z.cps.toList=true) (_:∀H',Same H H'->Q (.bl true) H')
inductive zuT(vs:List V)(H:Hp)(Q:VK)(_:XK):Prop
 | mk (p:Addr) (t u:Int) (_:vs=[.ref p]) (_:H p=some (.tup [.int t,.int u])) (_:0<=t) (_:t<=1000000) (_:1<=u) (_:u<=12) (_:Q (.bl true) H)
structure SR where
 nm:Str
 a:Int
 b:Int
 c:Int
 d:Int
 sp:Int
 tr:Int
structure SR.Ok(r:SR):Prop where
 nm:znp r.nm.cps.toList=true
 nl:r.nm.length<=100
 a0:0<=r.a
 a1:r.a<=1000000
 b0:1<=r.b
 b1:r.b<=12
 c0:0<=r.c
 c1:r.c<=1000000
 d0:1<=r.d
 d1:r.d<=12
 s0:1<=r.sp
 s1:r.sp<=4
 t0:1<=r.tr
 t1:r.tr<=3
def IsSR(H:Hp)(p:Addr)(r:SR):Prop:=∃pw ps,H p=some (.tup [.str r.nm,.ref pw,.ref ps,.int r.sp,.int r.tr])/\H pw=some (.tup [.int r.a,.int r.b])/\H ps=some (.tup [.int r.c,.int r.d])
def IsSR.same{H H':Hp}{p:Addr}{r:SR}(s:Same H H')(h:IsSR H p r):IsSR H' p r:=let ⟨pw,ps,a,b,c⟩:=h;⟨pw,ps,s _ _ a,s _ _ b,s _ _ c⟩
def IsSR.but{H H':Hp}{p q:Addr}{r:SR}{o:HO}(s:But q H H')(hq:H q=some o)(nt:∀xs,o≠.tup xs)(h:IsSR H p r):IsSR H' p r:=by
 obtain⟨pw,ps,a,b,c⟩:=h
 have ne:∀ {z xs},H z=some (.tup xs)->z≠q:=λe z=>by rw[z,hq]at e;exact nt _ (tL e)
 exact⟨pw,ps,s _ _ (ne a) a,s _ _ (ne b) b,s _ _ (ne c) c⟩
structure IsSRs(H:Hp)(l:Addr)(xs:List (Addr × SR)):Prop where
 at_:H l=some (.lst (xs.map λq=>V.ref q.1))
 sr:∀q,q∈xs->IsSR H q.1 q.2
def IsSRs.same{H H':Hp}{l:Addr}{xs:List (Addr × SR)}(s:Same H H')(h:IsSRs H l xs):IsSRs H' l xs:=⟨s _ _ h.at_,λq hq=>(h.sr q hq).same s⟩
def IsSRs.but{H H':Hp}{l q:Addr}{xs:List (Addr × SR)}{o:HO}(s:But q H H')(hq:H q=some o)(nt:∀xs,o≠.tup xs)(ne:l≠q)(h:IsSRs H l xs):IsSRs H' l xs:=⟨s _ _ ne h.at_,λz hz=>(h.sr z hz).but s hq nt⟩
def SR.low(r:SR):SR := { r with a:=r.a / M1.gd r.a r.b,b:=r.b / M1.gd r.a r.b,c:=r.c / M1.gd r.c r.d,d:=r.d / M1.gd r.c r.d }
def zje{t b:Int}(h0:0<=t)(h1:t<=1000000)(hb:1<=b):0<=t / M1.gd t b/\t / M1.gd t b<=1000000:=by
 have g:=M1.gd_pos (x:=t) (show 0<b by omega)
 have a:=Int.ediv_nonneg h0 (show 0<=M1.gd t b by omega)
 have b:=qM (M1.gd t b) h0
 omega
def SR.Ok.low{r:SR}(h:r.Ok):r.low.Ok where
 nm:=h.nm
 nl:=h.nl
 a0:=(zje h.a0 h.a1 h.b0).1
 a1:=(zje h.a0 h.a1 h.b0).2
 b0:=M1.low_bot (show 0<r.b from h.b0)
 b1:=pC (M1.low_bot_le (show 0<r.b from h.b0)) h.b1
 c0:=(zje h.c0 h.c1 h.d0).1
 c1:=(zje h.c0 h.c1 h.d0).2
 d0:=M1.low_bot (show 0<r.d from h.d0)
 d1:=pC (M1.low_bot_le (show 0<r.d from h.d0)) h.d1
 s0:=h.s0
 s1:=h.s1
 t0:=h.t0
 t1:=h.t1
def SR.Ok.wh{lo hi i:Int}{H:Hp}(a:lo<=i)(b:i<=hi):WhB K H (.int i) lo hi true:=.inl ⟨i,rfl,by rw[decide_eq_true a,decide_eq_true b];rfl⟩
inductive zpu(vs:List V)(H:Hp)(Q:VK)(_:XK):Prop
 | mk (p:Addr) (r:SR) (_:vs=[.ref p]) (_:IsSR H p r) (_:r.Ok) (_:∀H',Same H H'->Q (.bl true) H')
structure RsOk(rs:List SR):Prop where
 l0:1<=rs.length
 l1:rs.length<=8
 ok:∀r,r∈rs->r.Ok
 nd:∀(i j:Nat) r s,rs[i]?=some r->rs[j]?=some s->r.nm=s.nm->i=j
inductive zko(vs:List V)(H:Hp)(Q:VK)(_:XK):Prop
 | mk (l:Addr) (zs:List (Addr × SR)) (_:vs=[.ref l]) (_:IsSRs H l zs) (_:RsOk (zs.map (·.2))) (_:∀H',Same H H'->Q (.bl true) H')
inductive ztp(vs:List V)(H:Hp)(Q:VK)(_:XK):Prop
 | mk (x y:Int) (_:vs=[.int x,.int y]) (_:0<=x) (_:0<=y) (_:Q (.int (M1.gd x y)) H)
inductive zjf(vs:List V)(H:Hp)(Q:VK)(_:XK):Prop
 | mk (t b:Int) (_:vs=[.int t,.int b]) (_:0<b) (_:b<1000000000000000000000000000000000000000000000000000000000000) (_:∀p H',Same H H'->H' p=some (.tup [.int (t / M1.gd t b),.int (b / M1.gd t b)])->Q (.ref p) H')
inductive zpv(vs:List V)(H:Hp)(Q:VK)(_:XK):Prop
 | mk (q:Addr) (t b:Int) (_:vs=[.ref q]) (_:H q=some (.tup [.int t,.int b])) (_:1<=b) (_:b<=12) (_:∀p H',Same H H'->H' p=some (.tup [.int (t / M1.gd t b),.int (b / M1.gd t b)])->Q (.ref p) H')
def soF(nm:Str)(pw ps:Addr)(sp tr:Int):List (Str × V):=[("name",.str nm),("weight",.ref pw),("speed",.ref ps),("span",.int sp),("tries",.int tr)]
def soN:List Str:=["name","weight","speed","span","tries"]
def IsSo(cs:Addr)(H:Hp)(a:Addr)(r:SR):Prop:=∃dx pw ps,H a=some (.ins cs dx (soF r.nm pw ps r.sp r.tr))/\H pw=some (.tup [.int r.a,.int r.b])/\H ps=some (.tup [.int r.c,.int r.d])
def IsSo.same{cs:Addr}{H H':Hp}{a:Addr}{r:SR}(s:Same H H')(h:IsSo cs H a r):IsSo cs H' a r:=let ⟨dx,pw,ps,x,y,z⟩:=h;⟨dx,pw,ps,s _ _ x,s _ _ y,s _ _ z⟩
inductive zmB(K:am)(vs:List V)(H:Hp)(Q:VK)(_:XK):Prop
 | mk (x C dx pw ps:Addr) (r:SR) (_:vs=[.ref x,.str r.nm,.ref pw,.ref ps,.int r.sp,.int r.tr]) (_:H x=some (.ins C dx [])) (_:Cls K C) (_:(∀f,f∈soN->zal K C f)) (_:H pw=some (.tup [.int r.a,.int r.b])) (_:H ps=some (.tup [.int r.c,.int r.d])) (_:r.Ok) (_:∀H' pw' ps',But x H H'->H' x=some (.ins C dx (soF r.nm pw' ps' r.sp r.tr))->H' pw'=some (.tup [.int r.low.a,.int r.low.b])->H' ps'=some (.tup [.int r.low.c,.int r.low.d])->Q .non H')
inductive zpw(cs:Addr)(vs:List V)(H:Hp)(Q:VK)(_:XK):Prop
 | mk (pw ps:Addr) (r:SR) (_:vs=[.str r.nm,.ref pw,.ref ps,.int r.sp,.int r.tr]) (_:H pw=some (.tup [.int r.a,.int r.b])) (_:H ps=some (.tup [.int r.c,.int r.d])) (_:r.Ok) (_:∀a H',Same H H'->IsSo cs H' a r.low->Q (.ref a) H')
def zuU{cs:Addr}(cl:Cls K cs)(no:∀f,f∈soN->zal K cs f):∀vs H Q E,zpw cs vs H Q E->∀y dx,H y=none->H dx=none->dx≠y->zmB K (.ref y::vs) (upd (upd H dx (.own y)) y (.ins cs dx [])) (λv H2=>v=.non/\Q (.ref y) H2) E:=by
 rintro vs H Q E ⟨pw,ps,r,rfl,h1,h2,ok,q⟩ y dx ny nd ne
 have up:∀ {z o},H z=some o->(upd (upd H dx (.own y)) y (.ins cs dx [])) z=some o:=λ{z o} h=>by
  rw[zaw (zaA h ny),zaw (zaA h nd)]
  exact h
 refine⟨y,cs,dx,pw,ps,r,rfl,zar,cl,no,up h1,up h2,ok,λH' pw' ps' k a b c=>⟨rfl,q y H' (λz o hz=>k z o (zaA hz ny) (up hz)) ⟨dx,pw',ps',a,b,c⟩⟩⟩
inductive zpx(cs:Addr)(vs:List V)(H:Hp)(Q:VK)(_:XK):Prop
 | mk (a:Addr) (r:SR) (_:vs=[.ref a]) (_:IsSo cs H a r) (_:∀p H',Same H H'->IsSR H' p r->Q (.ref p) H')
inductive zpy(cs:Addr)(vs:List V)(H:Hp)(Q:VK)(_:XK):Prop
 | mk (p:Addr) (r:SR) (_:vs=[.ref p]) (_:IsSR H p r) (_:r.Ok) (_:∀a H',Same H H'->IsSo cs H' a r.low->Q (.ref a) H')
def IsSt(ct:Addr)(H:Hp)(a:Addr)(rs:List SR):Prop:=∃dx l xs,H a=some (.ins ct dx [("rows",.ref l)])/\IsSRs H l xs/\xs.map (·.2)=rs
def IsSt.same{ct:Addr}{H H':Hp}{a:Addr}{rs:List SR}(s:Same H H')(h:IsSt ct H a rs):IsSt ct H' a rs:=let ⟨dx,l,xs,x,y,z⟩:=h;⟨dx,l,xs,s _ _ x,y.same s,z⟩
inductive zmC(K:am)(vs:List V)(H:Hp)(Q:VK)(_:XK):Prop
 | mk (x C dx l:Addr) (xs:List (Addr × SR)) (_:vs=[.ref x,.ref l]) (_:H x=some (.ins C dx [])) (_:Cls K C) (_:zal K C "rows") (_:IsSRs H l xs) (_:RsOk (xs.map (·.2))) (_:∀H' m ys,But x H H'->H' x=some (.ins C dx [("rows",.ref m)])->IsSRs H' m ys->ys.map (·.2)=xs.map (·.2.low)->Q .non H')
inductive zpz(ct:Addr)(vs:List V)(H:Hp)(Q:VK)(_:XK):Prop
 | mk (l:Addr) (xs:List (Addr × SR)) (_:vs=[.ref l]) (_:IsSRs H l xs) (_:RsOk (xs.map (·.2))) (_:∀a H',Same H H'->IsSt ct H' a (xs.map (·.2.low))->Q (.ref a) H')
def zuV{ct:Addr}(cl:Cls K ct)(no:zal K ct "rows"):∀vs H Q E,zpz ct vs H Q E->∀y dx,H y=none->H dx=none->dx≠y->zmC K (.ref y::vs) (upd (upd H dx (.own y)) y (.ins ct dx [])) (λv H2=>v=.non/\Q (.ref y) H2) E:=by
 rintro vs H Q E ⟨l,xs,rfl,g,k,q⟩ y dx ny nd ne
 have up:Same H (upd (upd H dx (.own y)) y (.ins ct dx [])):=λz o h=>by
  rw[zaw (zaA h ny),zaw (zaA h nd)]
  exact h
 exact⟨y,ct,dx,l,xs,rfl,zar,cl,no,g.same up,k,λH' m ys bt hy hm em=>⟨rfl,q y H' (λw o hw=>bt w o (zaA hw ny) (up w o hw)) ⟨dx,m,ys,hy,hm,em⟩⟩⟩
inductive zjg(cs ct:Addr)(vs:List V)(H:Hp)(Q:VK)(_:XK):Prop
 | mk (a:Addr) (rs:List SR) (r:SR) (_:vs=[.ref a,.str r.nm]) (_:IsSt ct H a rs) (_:rs.length<=8) (_:(∀r,r∈rs->r.Ok)) (_:r∈rs) (_:(∀s,s∈rs->s.nm=r.nm->s=r)) (_:∀b H',Same H H'->IsSo cs H' b r.low->Q (.ref b) H')
def zln:FnScope pl3 pl3 (zac zgc):=fsc
include T in
theorem zlo(D:Dfn K mg "is_whole" zgc pl3 f fd):Cal P w K mg bj "is_whole" 1 pl3 (zbn K):=by
 refine D.cal (D.F.ok zln (by walk_at "z") (λc A o s H vs Q E hr h=>?_))
 obtain⟨x,lo,hi,b,rfl,h,q⟩:=h
 refine⟨_,(zab (zaQ (PW.pt (zhi (zaR (zau (zby (n := "bool")) rfl T.zaI zaD (zaa (pv 0) (zaa (zcc (v:=.ty "bool") rfl T.zrU zoh rfl) zae)))) (zfl (zbi (zaR (zau (zby (n := "int")) rfl T.zaI zaD (zaa (pv 0) (zaa (zcc (v:=.ty "int") rfl T.zuS zrF rfl) zae)))))))) (zaf (zaj zdG)) zat)
  (zaf (zaj (ziZ ziY ziY (pv 1) (pv 0) (pv 2))))),?_⟩
 rcases h with⟨i,rfl,rfl⟩ | ⟨⟨t,ty,hk | ⟨hk,hi2⟩⟩,rfl⟩
 ·refine⟨_,rfl,_,_,_,rfl,.old (.int i),T.ziU,_,rfl,iteF ?_⟩
  refine⟨_,rfl,_,_,_,rfl,.old (.int i),T.zki,_,rfl,iteF ?_⟩
  refine⟨_,rfl,_,rfl,_,_,rfl,rfl,_,rfl,?_⟩
  refine ite2 (λc=>?_) (λc=>?_)
  ·rw[c,rH]at q
   exact⟨_,rfl,_,_,rfl,rfl,q⟩
  ·rw[Bool.eq_false_iff.mpr c,qF]at q
   exact q
 ·refine⟨_,rfl,_,_,_,rfl,.old ty,hk,_,rfl,iteT (iteT ?_)⟩
  exact q
 ·refine⟨_,rfl,_,_,_,rfl,.old ty,hk,_,rfl,iteF ?_⟩
  refine⟨_,rfl,_,_,_,rfl,.old ty,hi2,_,rfl,iteT ?_⟩
  exact q
def zil:FnScope pl4 pl4 (zac zdg):=fsc
include T in
theorem zim(D:Dfn K mg "all_between" zdg pl4 f fd):Cal P w K mg bj "all_between" 1 pl4 zrX:=by
 refine D.cal (D.F.ok zil (by walk_at "z") (λc A o s H vs Q E hr h=>?_))
 obtain⟨x,y,z,a,b,rfl,hy,hz,hl,q⟩:=h
 refine⟨_,(zaf (zaj (zau (zjZ rfl) rfl T.zuQ zrG (zaa (zaN (N:=["sign","first","last"]) (js:=[1,2]) rfl cpo (zui (pv 0)) (λ_ _ _ _ _=>zbx) (λ_ _ _ _ _=>(ziZ zjY zjY (pv 1) (pv 0) (pv 2)))) zae)))),?_⟩
 refine⟨_,rfl,x,rfl,zqD (x:=x) (λ_=>true) (λc=>.bl (betw a b c)) (λc Hh Q' q'=>q') (λc Hh Q' q'=>?_) (zax (by omega)) (λD H2 s2 hD=>?_)⟩
 ·refine⟨_,rfl,_,rfl,_,_,rfl,rfl,_,rfl,?_⟩
  have e1:=le_1 (x:=y) (y:=⟨#[c]⟩) (c:=a) (a:=c) hy rfl
  have e2:=le_1 (x:=⟨#[c]⟩) (y:=z) (c:=c) (a:=b) rfl hz
  unfold betw at q'
  rw[<-e1,<-e2]at q'
  refine ite2 (λd=>?_) (λd=>?_)
  ·rw[d,rH]at q'
   exact⟨_,rfl,_,_,rfl,rfl,q'⟩
  ·rw[Bool.eq_false_iff.mpr d,qF]at q'
   exact q'
 ·have e:(x.cps.toList.filter λ_=>true)=x.cps.toList:=filter_eq_self.mpr λ_ _=>rfl
  rw[e]at hD
  refine⟨D,x.cps.toList.map (betw a b),rfl,SqL.of (by rw[t5];exact hD),?_⟩
  rw[List.all_map]
  exact q H2 s2
def znq:FnScope pl5 pl5 (zac zhO):=fsc
include T in
theorem znr(D:Dfn K mg "is_name" zhO pl5 f fd)(zdq:Cal P w K mg bj "all_between" 1 pl4 zrX):Cal P w K mg bj "is_name" 2 pl5 zrY:=by
 refine D.cal (D.F.ok znq (by walk_at "z") (λc A o s H vs Q E hr h=>?_))
 obtain⟨z,rfl,hl,hn,q⟩:=h
 refine⟨_,(zab (zaQ (zbi (zaR (zau (zby (n := "str")) rfl T.zaI zaD (zaa (pv 0) (zaa (zcc (v:=.ty "str") rfl T.zvX zue rfl) zae))))) (zaf (zaj zdG)) zat)
  (zaf (zaj (zgN (ziZ ziY ziY zad (zau zjT rfl T.zdW zcm (zaa (pv 0) zae)) (zbv (v:=.int 8) rfl T.Bh.choose_spec ⟨_,rfl⟩)) (zhj (zai zdq hr.o rfl (zaa (pv 0) (zaa zbD (zaa zbD zae))))))))),?_⟩
 unfold znp at hn
 rw[zsJ,Bool.and_eq_true]at hn
 obtain⟨c,d⟩:=hn
 have c:=tP c
 refine⟨_,rfl,_,_,_,rfl,.old (.str z),T.zps,_,rfl,iteF ?_⟩
 refine⟨_,rfl,z,rfl,zuj (by omega),_,_,rfl,rfl,_,rfl,iteD (show(1:Int)<=(z.length:Int) by omega) ⟨_,_,rfl,rfl,_,rfl,iteD (show(z.length:Int)<=8 by omega) ⟨_,rfl,z,_,_,97,122,rfl,ca,cz,hl,λH' s'=>?_⟩⟩⟩
 rw[d]
 exact q H' s'
def zbt:FnScope ["one","other","rest"] pl6 (zac zce):=fsc
include T in
theorem zgs(D:Dfn K mg "common_divisor" zce pl6 f fd):Cal P w K mg bj "common_divisor" 1 pl6 ztp:=by
 refine D.cal (D.F.ok zbt (by walk_at "z") (λc A o s H vs Q E hr h=>?_))
 obtain⟨x,y,rfl,hx,hy,q⟩:=h
 refine⟨_,(zab (ziW tY (zan zei (pv 1) zad (zas _)) (zab (zam (i:=2) zbt.nd rfl (Or.inl rfl) (zaz zhl (pv 0) (pv 1)))
  (zab (zam (i:=0) zbt.nd rfl (Or.inl rfl) (pv 1))
  (zaf (zam (i:=1) zbt.nd rfl (Or.inl rfl) (pv 2))))))
  (zaf (zaj (pv 0)))),?_⟩
 refine ziX (λσ H'=>∃(a b:Int)(r:Option V),σ=[some (.int a),some (.int b),r]/\0<=a/\0<=b/\M1.gd a b=M1.gd x y/\H'=H)
  (λσ _=>match σ with | [_,some (.int b),_]=>b.toNat | _=>0) ⟨x,y,none,rfl,hx,hy,rfl,rfl⟩ ?_ ?_
 ·rintro σ H' ⟨a,b,r,rfl,ha,hb,hg,rfl⟩
  refine⟨_,rfl,_,_,rfl,rfl,_,rfl,?_⟩
  refine ite2 (λc=>?_) (λc=>?_)
  ·have c':0<b:=tP c
   have m1:=rY a (show b≠0 by omega)
   have m2:=rR a c'
   refine⟨_,rfl,_,rfl,_,_,rfl,rfl,c',_,rfl,_,rfl,?_⟩
   refine⟨⟨b,a % b,_,rfl,hb,m1,M1.gd_step.trans hg,rfl⟩,?_⟩
   show(a % b).toNat<b.toNat
   omega
  ·have c':¬ 0<b:=su (Bool.eq_false_iff.mpr c)
   have e:b=0:=by omega
   subst e
   rw[M1.gd_zero ha]at hg
   refine⟨_,rfl,?_⟩
   rw[hg]
   exact q
 ·rintro σ H' Q1 Q2 hq ⟨v,e,i,j,e1,e2,k,ek,q1⟩
  exact⟨v,e,i,j,e1,e2,k,ek,hq _ _ q1⟩
def zkp:FnScope ["top","bottom","divisor"] ["top","bottom"] (zac zjc):=fsc
include T in
theorem zpA(D:Dfn K mg "lowest" zjc ["top","bottom"] f fd)(aV:Cal P w K mg bj "common_divisor" 1 pl6 ztp):Cal P w K mg bj "lowest" 2 ["top","bottom"] zjf:=by
 refine D.cal (D.F.ok zkp (by walk_at "z") (λc A o s H vs Q E hr h=>?_))
 obtain⟨x,y,rfl,hy,hz,q⟩:=h
 refine⟨_,(zab (zam (i:=2) zkp.nd rfl (Or.inl rfl) (zai aV hr.o rfl (zaa (zau zqr rfl T.zvT zub (zaa (pv 0) zae)) (zaa (pv 1) zae))))
  (zaf (zaj (zaK (zaa (zaz zeb (pv 0) (pv 2)) (zaa (zaz zeb (pv 1) (pv 2)) zae)))))),?_⟩
 have g1:=M1.gd_pos (x:=x) hy
 have g2:=M1.gd_le (x:=x) hy
 have ga:0<=(if x<0 then -x else x):=by split<;>omega
 refine⟨_,rfl,_,rfl,_,rfl,_,_,rfl,ga,by omega,?_⟩
 rw[M1.gd_abs]
 refine⟨_,rfl,_,rfl,_,_,rfl,rfl,⟨g1,by omega⟩,_,rfl,_,rfl,_,_,rfl,rfl,⟨g1,by omega⟩,si2,λp H2 sm hn hp=>?_⟩
 exact q p H2 sm hp
def zkq:FnScope pl5 pl5 (zac zew):=fsc
include T in
theorem zkr(D:Dfn K mg "is_weight" zew pl5 f fd)(zao:Cal P w K mg bj "is_whole" 1 pl3 (zbn K)):Cal P w K mg bj "is_weight" 2 pl5 zuT:=by
 refine D.cal (D.F.ok zkq (by walk_at "z") (λc A o s H vs Q E hr h=>?_))
 obtain⟨p,t,u,rfl,hp,t0,t1,u0,u1,q⟩:=h
 refine⟨_,(zab (zaQ (PW.pt (zhi (zbi (zaR (zau (zby (n := "tuple")) rfl T.zaI zaD (zaa (pv 0) (zaa (zcc (v:=.ty "tuple") rfl T.zll bF rfl) zae))))) (zfl (zan zqp (zau zaH rfl T.zdW zcm (zaa (pv 0) zae)) zad (zas _))))) (zaf (zaj zdG)) zat)
  (zaf (zaj (zgN (zai zao hr.o rfl (zaa (zak zah (pv 0) zad (λ_ _=>rfl)) (zaa zad (zaa (zbv (v:=.int 1000000) rfl T.Cw.choose_spec ⟨_,rfl⟩) zae)))) (zhj (zai zao hr.o rfl (zaa (zak zah (pv 0) zad (λ_ _=>rfl)) (zaa zad (zaa (zbv (v:=.int 12) rfl T.Br.choose_spec ⟨_,rfl⟩) zae))))))))),?_⟩
 refine⟨_,rfl,_,_,_,rfl,.old (.tup hp),T.zfu,_,rfl,iteF ?_⟩
 refine⟨_,rfl,p,_,rfl,.inr (SqT.of hp),rfl,_,rfl,?_⟩
 refine ite2 (λc=>absurd rfl (zug c)) (λ_=>?_)
 exact⟨_,rfl,p,_,_,_,rfl,rfl,SqT.of hp,rfl,_,_,_,true,rfl,SR.Ok.wh t0 t1,_,rfl,iteT ⟨_,rfl,p,_,_,_,rfl,rfl,SqT.of hp,rfl,_,_,_,true,rfl,SR.Ok.wh u0 u1,q⟩⟩
def zpB:FnScope pl5 pl5 (zac zjd):=fsc
include T in
theorem zpC(D:Dfn K mg "is_row" zjd pl5 f fd)(zao:Cal P w K mg bj "is_whole" 1 pl3 (zbn K))(bX:Cal P w K mg bj "is_name" 2 pl5 zrY)(zdr:Cal P w K mg bj "is_weight" 2 pl5 zuT):Cal P w K mg bj "is_row" 3 pl5 zpu:=by
 refine D.cal (D.F.ok zpB (by walk_at "z") (λc A o s H vs Q E hr h=>?_))
 obtain⟨p,r,rfl,⟨pw,ps,hp,hw,hs⟩,ok,q⟩:=h
 refine⟨_,(zab (zaQ (PW.pt (zhi (zbi (zaR (zau (zby (n := "tuple")) rfl T.zaI zaD (zaa (pv 0) (zaa (zcc (v:=.ty "tuple") rfl T.zll bF rfl) zae))))) (zfl (zan zqp (zau zaH rfl T.zdW zcm (zaa (pv 0) zae)) zad (zas _))))) (zaf (zaj zdG)) zat)
  (zab (zaQ (PW.pt (zhi (zbi (zaR (zai bX hr.o rfl (zaa (zak zah (pv 0) zad (λ_ _=>rfl)) zae)))) (zhi (zbi (zaR (zai zdr hr.o rfl (zaa (zak zah (pv 0) zad (λ_ _=>rfl)) zae)))) (zfl (zbi (zaR (zai zdr hr.o rfl (zaa (zak zah (pv 0) zad (λ_ _=>rfl)) zae)))))))) (zaf (zaj zdG)) zat)
  (zaf (zaj (zgN (zai zao hr.o rfl (zaa (zak zah (pv 0) zad (λ_ _=>rfl)) (zaa zad (zaa (zbv (v:=.int 4) rfl T.B4.choose_spec ⟨_,rfl⟩) zae)))) (zhj (zai zao hr.o rfl (zaa (zak zah (pv 0) zad (λ_ _=>rfl)) (zaa zad (zaa (zbv (v:=.int 3) rfl T.BE.choose_spec ⟨_,rfl⟩) zae)))))))))),?_⟩
 refine⟨_,rfl,_,_,_,rfl,.old (.tup hp),T.zfu,_,rfl,iteF ?_⟩
 refine⟨_,rfl,p,_,rfl,.inr (SqT.of hp),rfl,_,rfl,?_⟩
 refine ite2 (λc=>absurd rfl (zug c)) (λ_=>?_)
 refine⟨_,rfl,p,_,_,_,rfl,rfl,SqT.of hp,rfl,_,rfl,ok.nl,ok.nm,λH1 s1=>⟨_,rfl,iteF ?_⟩⟩
 have p1:=SqT.of (K:=K) (s1 _ _ hp)
 exact⟨_,rfl,p,_,_,_,rfl,rfl,p1,rfl,pw,_,_,rfl,s1 _ _ hw,ok.a0,ok.a1,ok.b0,ok.b1,_,rfl,iteF ⟨_,rfl,p,_,_,_,rfl,rfl,p1,rfl,ps,_,_,rfl,s1 _ _ hs,ok.c0,ok.c1,ok.d0,ok.d1,_,rfl,iteF ⟨_,rfl,p,_,_,_,rfl,rfl,p1,rfl,_,_,_,true,rfl,SR.Ok.wh ok.s0 ok.s1,_,rfl,iteT ⟨_,rfl,p,_,_,_,rfl,rfl,p1,rfl,_,_,_,true,rfl,SR.Ok.wh ok.t0 ok.t1,q H1 s1⟩⟩⟩⟩
def zpD{α:Type}(zs:List α)(g : α->Str)(d : α):(((List.range zs.length).filter λ_=>true).map λi=>V.str (g (zs.getD i d)))=(zs.map g).map V.str:=by
 rw[filter_eq_self.mpr λ_ _=>rfl,t5]
 refine List.ext_getElem? λi=>?_
 rw[getElem?_map,getElem?_map]
 by_cases h:i<zs.length
 ·rw[List.getElem?_range h,Option.map_some,tK,tj h]
  rfl
 ·rw[rf (by rw[qm];omega),rf (by omega)]
  rfl
def SR.non:SR:=⟨Str.empty,0,0,0,0,0,0⟩
def zlp:FnScope pl5 pl5 (zac zgj):=fsc
include T in
theorem zlq(D:Dfn K mg "are_rows" zgj pl5 f fd)(zjh:Cal P w K mg bj "is_row" 3 pl5 zpu):Cal P w K mg bj "are_rows" 4 pl5 zko:=by
 refine D.cal (D.F.ok zlp (by walk_at "z") (λc A o s H vs Q E hr h=>?_))
 obtain⟨l,zs,rfl,hz,k,q⟩:=h
 refine⟨_,(zab (zaQ (PW.pt (zhi (zbi (zaR (zau (zby (n := "list")) rfl T.zaI zaD (zaa (pv 0) (zaa (zcc (v:=.ty "list") rfl T.zhS zer rfl) zae))))) (zfl (zbi (zqq ziY ziY zad (zau zaH rfl T.zdW zcm (zaa (pv 0) zae)) (zbv (v:=.int 8) rfl T.BD.choose_spec ⟨_,rfl⟩)))))) (zaf (zaj zdG)) zat)
  (zab (zaQ (zbi (zaR (zau (zjZ rfl) rfl T.zuQ zrG (zaa (zaN (N:=["row"]) (js:=[]) rfl cpo (zaB (pv 0)) (λ_ _ _ _ _=>zbx) (λ_ _ _ _ _=>(zai zjh hr.o rfl (zaa (pv 0) zae)))) zae)))) (zaf (zaj zdG)) zat)
  (zaf (zaj (zbU zdd (zpl rfl rfl T.zdW rfl T.zvW (zaa (zaN (N:=["row"]) (js:=[]) rfl cpo (zaB (pv 0)) (λ_ _ _ _ _=>zbx) (λ_ _ _ _ _=>(zak (r:=rIxT K) zah (pv 0) zad (λ_ _=>rfl)))) zae)) (zau zaH rfl T.zdW zcm (zaa (pv 0) zae)) (zas _)))))),?_⟩
 have l0:=k.l0
 have l1:=k.l1
 have ml:(zs.map λq=>V.ref q.1).length=zs.length:=tm _
 have sz:(1000:Nat)<=sizeLine:=by decide
 rw[tm]at l0 l1
 have get:∀{i:Nat}{q:Addr × SR},zs[i]?=some q->(zs.map (·.2.nm)).getD i Str.empty=q.2.nm:=λ{i q} e=>by
  rw[tK,getElem?_map,e]
  rfl
 have em:(metK (λi=>(zs.map (·.2.nm)).getD i Str.empty) zs.length).length=zs.length:=zmt _ _ λa b' ha hb eab=>by
  have ea:=tj ha
  have eb:=tj hb
  rw[get ea,get eb]at eab
  exact k.nd a b' zs[a].2 zs[b'].2 (by rw[getElem?_map,ea];rfl) (by rw[getElem?_map,eb];rfl) eab
 refine⟨_,rfl,_,_,_,rfl,.old (.lst hz.at_),T.zdp,_,rfl,iteF ?_⟩
 refine⟨_,rfl,l,_,rfl,.inl (SqL.of hz.at_),_,_,rfl,rfl,_,rfl,?_⟩
 rw[ml]
 refine iteD (show(1:Int)<=(zs.length:Int) by omega) ⟨_,_,rfl,rfl,_,rfl,?_⟩
 rw[decide_eq_true (show(zs.length:Int)<=8 by omega)]
 refine iteF ?_
 refine⟨_,rfl,l,rfl,⟨_,SqL.of hz.at_⟩,zaS (λ_=>true) (λ_=>V.bl true) (SqL.of hz.at_) (λi v Hh Q' hv s1 q'=>q' Hh (Same.refl Hh)) (λi v Hh Q' hv _ s1 q'=>?_) (by rw[ml];omega) (λD H2 s2 nD hD=>?_)⟩
 ·obtain⟨z,ez,hv⟩:=gmp hv
  cases hv
  have m:=tE ez
  exact⟨_,rfl,z.1,z.2,rfl,(hz.sr z m).same s1,k.ok _ (pe m),λH' s'=>q' H' s'⟩
 have hD:H2 D=some (.lst ((List.replicate zs.length true).map V.bl)):=by
  rw[hD,zbW,ml,List.map_const',qm,List.map_replicate]
 refine⟨D,_,rfl,SqL.of hD,_,rfl,?_⟩
 rw[show(List.replicate zs.length true).all id=true from all_eq_true.mpr λy hy=>by rw[(List.mem_replicate.mp hy).2];rfl]
 refine iteF ?_
 have hz2:=hz.same s2
 refine⟨_,rfl,l,rfl,⟨_,SqL.of hz2.at_⟩,zaS (λ_=>true) (λi=>V.str ((zs.getD i (0,SR.non)).2.nm)) (SqL.of hz2.at_) (λi v Hh Q' hv s3 q'=>q' Hh (Same.refl Hh)) (λi v Hh Q' hv _ s3 q'=>?_) (by rw[ml];omega) (λE2 H4 s4 nE hE=>?_)⟩
 ·obtain⟨z,ez,hv⟩:=gmp hv
  cases hv
  obtain⟨pw,ps,a1,a2,a3⟩:=(hz2.sr z (tE ez)).same s3
  have eg:zs.getD i (0,SR.non)=z:=by rw[tK,ez];rfl
  rw[eg]at q'
  exact⟨_,rfl,_,_,_,_,rfl,rfl,SqT.of a1,rfl,q' Hh (Same.refl Hh)⟩
 rw[ml,zpD zs (λz=>z.2.nm) (0,SR.non)]at hE
 refine⟨E2,_,rfl,SqL.of hE,by rw[tm];omega,?_⟩
 refine⟨_,rfl,l,_,rfl,.inl (SqL.of (s4 _ _ hz2.at_)),rfl,?_⟩
 have qq:=q H4 (s2.trans s4)
 rw[tm,ml,em,decide_eq_true rfl]
 exact qq
def no5{C:Addr}(a:zal K C "name")(b:zal K C "weight")(c:zal K C "speed")(d:zal K C "span")(e:zal K C "tries"):∀g,g∈soN->zal K C g:=λg hg=>by
 rcases mem_cons.mp hg with rfl | hg
 ·exact a
 rcases mem_cons.mp hg with rfl | hg
 ·exact b
 rcases mem_cons.mp hg with rfl | hg
 ·exact c
 rcases mem_cons.mp hg with rfl | hg
 ·exact d
 rw[mem_singleton.mp hg]
 exact e
def zks:FnScope ["weight"] ["weight"] (zac zeC):=fsc
include T in
theorem zkt(D:Dfn K mg "in_lowest" zeC ["weight"] f fd)(zed:Cal P w K mg bj "lowest" 2 ["top","bottom"] zjf):Cal P w K mg bj "in_lowest" 3 ["weight"] zpv:=by
 refine D.cal (D.F.ok zks (by walk_at "z") (λc A o s H vs Q E hr h=>?_))
 obtain⟨p,t,b,rfl,hp,b0,b1,q⟩:=h
 exact⟨_,(zaf (zaj (zai zed hr.o rfl (zaa (zak zah (pv 0) zad (λ_ _=>rfl)) (zaa (zak zah (pv 0) zad (λ_ _=>rfl)) zae))))),_,rfl,p,_,_,_,rfl,rfl,SqT.of hp,rfl,_,rfl,p,_,_,_,rfl,rfl,SqT.of hp,rfl,t,b,rfl,by omega,by omega,q⟩
def fq:FnScope pl7 pl7 (zac zcz):=fsc
include T in
theorem fA(D:Mfn K "__init__" "Sort.__init__" zcz pl7 f fd)(zds:Cal P w K mg bj "in_lowest" 3 ["weight"] zpv):FnOk P w K mg bj CX0 4 f fd pl7 (zmB K):=by
 refine D.F.ok fq (by walk_at "z") (λc A o s H vs Q E hr h=>?_)
 obtain⟨x,C,dx,pw,ps,r,rfl,hx,cl,no,hw,hs,ok,q⟩:=h
 refine⟨_,(zab (zaM (pv 0) (pv 1))
  (zab (zaM (pv 0) (zai zds hr.o rfl (zaa (pv 2) zae)))
  (zab (zaM (pv 0) (zai zds hr.o rfl (zaa (pv 3) zae)))
  (zab (zaM (pv 0) (pv 4))
  (zaf (zaM (pv 0) (pv 5))))))),?_⟩
 have nx:∀ {z xs} {Hh:Hp} {fs},Hh x=some (.ins C dx fs)->Hh z=some (.tup xs)->z≠x:=λh e z=>by rw[z,h]at e;cases e
 refine⟨_,rfl,_,rfl,x,C,dx,_,rfl,hx,cl,no _ (by decide),(by show(0:Nat)<1000;decide),λH1 k1 h1=>?_⟩
 have h1:H1 x=some (.ins C dx [("name",.str r.nm)]):=by
  rw[h1]
  rfl
 have w1:=k1 _ _ (nx hx hw) hw
 have s1:=k1 _ _ (nx hx hs) hs
 refine⟨_,rfl,pw,r.a,r.b,rfl,w1,ok.b0,ok.b1,λp2 H2 e2 g2=>?_⟩
 have h2:=e2 _ _ h1
 have s2:=e2 _ _ s1
 refine⟨_,rfl,x,C,dx,_,rfl,h2,cl,no _ (by decide),(by show(1:Nat)<1000;decide),λH3 k3 h3=>?_⟩
 have h3:H3 x=some (.ins C dx [("name",.str r.nm),("weight",.ref p2)]):=by
  rw[h3]
  rfl
 have g3:=k3 _ _ (nx h2 g2) g2
 have s3:=k3 _ _ (nx h2 s2) s2
 refine⟨_,rfl,ps,r.c,r.d,rfl,s3,ok.d0,ok.d1,λp4 H4 e4 g4=>?_⟩
 have h4:=e4 _ _ h3
 refine⟨_,rfl,x,C,dx,_,rfl,h4,cl,no _ (by decide),(by show(2:Nat)<1000;decide),λH5 k5 h5=>?_⟩
 have h5:H5 x=some (.ins C dx [("name",.str r.nm),("weight",.ref p2),("speed",.ref p4)]):=by
  rw[h5]
  rfl
 have a5:=k5 _ _ (nx h4 (e4 _ _ g3)) (e4 _ _ g3)
 have b5:=k5 _ _ (nx h4 g4) g4
 refine⟨_,rfl,_,rfl,x,C,dx,_,rfl,h5,cl,no _ (by decide),(by show(3:Nat)<1000;decide),λH6 k6 h6=>?_⟩
 have h6:H6 x=some (.ins C dx [("name",.str r.nm),("weight",.ref p2),("speed",.ref p4),("span",.int r.sp)]):=by
  rw[h6]
  rfl
 refine⟨_,rfl,_,rfl,x,C,dx,_,rfl,h6,cl,no _ (by decide),(by show(4:Nat)<1000;decide),λH7 k7 h7=>?_⟩
 have h7:H7 x=some (.ins C dx (soF r.nm p2 p4 r.sp r.tr)):=by
  rw[h7]
  rfl
 have k67:=k6.trans k7
 exact q H7 p2 p4 (k1.trans ((e2.toBut).trans (k3.trans ((e4.toBut).trans (k5.trans k67))))) h7 (k67 _ _ (nx h5 a5) a5) (k67 _ _ (nx h5 b5) b5)
def zin:FnScope pl2 pl2 (zac zdm):=fsc
include T in
theorem zio(D:Mfn K "as_row" "Sort.as_row" zdm pl2 f fd):FnOk P w K mg bj CX0 1 f fd pl2 (zpx Aj):=by
 refine D.F.ok zin (by walk_at "z") (λc A o s H vs Q E hr h=>?_)
 obtain⟨a,r,rfl,⟨dx,pw,ps,e,hw,hs⟩,q⟩:=h
 have O:=T.Dv
 exact⟨_,(zaf (zaj (zaK (pai (zag (zaq (pv 0) rfl) (zag (zaq (pv 0) rfl) (zag (zaq (pv 0) rfl) (zag (zaq (pv 0) rfl) (zag (zaq (pv 0) rfl) zbd))))))))),_,rfl,a,_,dx,_,_,rfl,e,O.cl,T.B8,rfl,_,rfl,a,_,dx,_,_,rfl,e,O.cl,T.Bu,rfl,_,rfl,a,_,dx,_,_,rfl,e,O.cl,T.BK,rfl,_,rfl,a,_,dx,_,_,rfl,e,O.cl,T.B9,rfl,_,rfl,a,_,dx,_,_,rfl,e,O.cl,T.BL,rfl,si5,λt H1 s1 n1 h1=>q t H1 s1 ⟨pw,ps,h1,s1 _ _ hw,s1 _ _ hs⟩⟩
def zku:FnScope ["row"] ["row"] (zac zeD):=fsc
include T in
theorem zkv(D:Dfn K mg "sort_from" zeD ["row"] f fd)(DR:MakG CX0 P w K mg bj "Sort" Aj 4 (zpw Aj)):Cal P w K mg bj "sort_from" 6 ["row"] (zpy Aj):=by
 refine D.cal (D.F.ok zku (by walk_at "z") (λc A o s H vs Q E hr h=>?_))
 obtain⟨p,r,rfl,⟨pw,ps,hp,hw,hs⟩,ok,q⟩:=h
 exact⟨_,(zaf (zaj (zhM DR hr.o rfl zaT (pai (zag (zak zah (pv 0) zad (λ_ _=>rfl)) (zag (zak zah (pv 0) zad (λ_ _=>rfl)) (zag (zak zah (pv 0) zad (λ_ _=>rfl)) (zag (zak zah (pv 0) zad (λ_ _=>rfl)) (zag (zak zah (pv 0) zad (λ_ _=>rfl)) zbd))))))))),_,rfl,p,_,_,_,rfl,rfl,SqT.of hp,rfl,_,rfl,p,_,_,_,rfl,rfl,SqT.of hp,rfl,_,rfl,p,_,_,_,rfl,rfl,SqT.of hp,rfl,_,rfl,p,_,_,_,rfl,rfl,SqT.of hp,rfl,_,rfl,p,_,_,_,rfl,rfl,SqT.of hp,rfl,pw,ps,r,rfl,hw,hs,ok,q⟩
def zrl{a:Addr}{xs:List V}{js:List Nat}{tc:TT}{te:TE}{σ:St}{H1:Hp}{Q:VK}(rs:List SR)(hl:SqL K H1 a xs)(lz:rs.length=xs.length)
    (ht:∀(i:Nat) x Hh (Q':Bool->Hp->Prop),xs[i]?=some x->Same H1 Hh->(∀Hh',Same Hh Hh'->Q' true Hh')->tc (some x::caps σ js) Hh Q')
    (he:∀(i:Nat) x r Hh (Q':VK),xs[i]?=some x->rs[i]?=some r->Same H1 Hh->(∀p Hh',Same Hh Hh'->IsSR Hh' p r->Q' (.ref p) Hh')->te (some x::caps σ js) Hh Q')
    (hz:xs.length<sizeLine) (q:∀D H2 zs,Same H1 H2->H1 D=none->IsSRs H2 D zs->zs.map (·.2)=rs->Q (.ref D) H2):
    zdK (Itl K a) js tc te σ H1 Q:=by
 intro D H2 s2 hD h2
 refine⟨λi m acc H3=>m=xs.length-i/\i<=xs.length/\∃zs:List (Addr × SR),acc=(zs.map λz=>V.ref z.1)/\zs.map (·.2)=rs.take i/\(∀z,z∈zs->IsSR H3 z.1 z.2)/\Same H1 H3/\H3 D=some (.lst acc),⟨_,rfl,tV _,[],rfl,by simp,λz hz=>by simp at hz,s2,h2⟩,?_⟩
 rintro i m acc H3 ⟨rfl,hi,zs,ea,ez,hzs,s3,h3⟩
 have hl3:SqL K H3 a xs:=s3.seq hl
 subst ea
 have lzs:zs.length=i:=by
  have:=tW List.length ez
  rw[tm,sj]at this
  omega
 refine⟨h3,by rw[tm];omega,?_⟩
 by_cases hlt:i<xs.length
 ·have hx:xs[i]?=some xs[i]:=tj hlt
  have hr:rs[i]?=some rs[i]:=tj (by omega)
  refine .inr ⟨⟨xs,_,hl3,hx⟩,λy H4 z=>?_⟩
  obtain⟨e,ey⟩:=z
  have ey2:=ey xs hl3
  subst e
  refine ht i y _ _ ey2 s3 λH5 s5=>iteT ?_
  refine he i y _ _ _ ey2 hr (s3.trans s5) λp H6 s6 hp=>⟨s6 _ _ (s5 _ _ h3),λH7 k7 h7=>⟨xs.length-(i+1),by omega,rfl,hlt,zs++[(p,rs[i])],by rw[t4];rfl,?_,λz hz=>?_,λb o e=>?_,h7⟩⟩
  ·rw[t4,ez,pW,hr]
   rfl
  ·have hd6:=s6 _ _ (s5 _ _ h3)
   rcases mem_append.mp hz with hz | hz
   ·exact((hzs z hz).same (s5.trans s6)).but k7 hd6 (λ_ w=>by cases w)
   ·rw[mem_singleton.mp hz]
    exact hp.but k7 hd6 (λ_ w=>by cases w)
  ·exact k7 b o (λw=>by rw[w,hD]at e;cases e) (s6 b o (s5 b o (s3 b o e)))
 ·have e:i=xs.length:=by omega
  subst e
  refine .inl ⟨⟨xs,hl3,tF _⟩,q D H3 zs s3 hD ⟨h3,hzs⟩ ?_⟩
  rw[ez,<-lz,ql]
def zgt:FnScope ["self","rows"] ["self","rows"] (zac zch):=fsc
include T in
theorem zgu(D:Mfn K "__init__" "Sorts.__init__" zch ["self","rows"] f fd)(zgv:Cal P w K mg bj "are_rows" 4 pl5 zko)(aW:Cal P w K mg bj "sort_from" 6 ["row"] (zpy Aj))(Dp:MOk CX0 P w K mg bj 1 Aj "as_row" (zpx Aj)):FnOk P w K mg bj CX0 7 f fd ["self","rows"] (zmC K):=by
 refine D.F.ok zgt (by walk_at "z") (λc A o s H vs Q E hr h=>?_)
 obtain⟨x,C,dx,l,xs,rfl,hx,cl,no,g,k,qT⟩:=h
 refine⟨_,(zab (zaQ (zbi (zaR (zai zgv hr.o rfl (zaa (pv 1) zae)))) (zaf aB) zat)
  (zaf (zaM (pv 0) (zaN (N:=["row"]) (js:=[]) rfl cpo (zaB (pv 1)) (λ_ _ _ _ _=>zbx) (λ_ _ _ _ _=>(zmv (P:=P) (w:=w) (K:=K) (mg:=mg) (bj:=bj) (k:=1) rfl rfl rfl rfl rfl (zai aW hr.o rfl (zaa (pv 0) zae)) hr.o zaT)))))),?_⟩
 refine⟨_,rfl,l,xs,rfl,g,k,λH1 s1=>⟨_,rfl,iteF ?_⟩⟩
 have g1:=g.same s1
 have sz:(1000:Nat)<=sizeLine:=by decide
 have l1:=k.l1
 rw[tm]at l1
 refine⟨_,rfl,l,rfl,⟨_,SqL.of g1.at_⟩,zrl (xs.map (·.2.low)) (SqL.of g1.at_) (by rw[tm,tm]) (λi v Hh Q' hv s2 q'=>q' Hh (Same.refl Hh)) (λi v r Hh Q' hv hr s2 q'=>?_) (by rw[tm];omega) (λD H2 zs s2 nD hD ez=>?_)⟩
 ·rw[getElem?_map]at hv hr
  cases e:xs[i]? with
  | none=>rw[e]at hv;cases hv
  | some z=>
    rw[e]at hv hr
    cases hv
    cases hr
    have m:=tE e
    exact⟨_,rfl,z.1,z.2,rfl,(g1.sr z m).same s2,k.ok _ (pe m),λa H3 s3 ⟨ddx,pw,ps,e1,e2,e3⟩=>⟨a,Aj,ddx,_,_,rfl,e1,rfl,Dp,a,z.2.low,rfl,⟨ddx,pw,ps,e1,e2,e3⟩,λp H4 s4 h4=>q' p H4 (s3.trans s4) h4⟩⟩
 ·have hx2:=s2 _ _ (s1 _ _ hx)
  refine⟨_,rfl,x,C,dx,_,rfl,hx2,cl,no,(by show(0:Nat)<1000;decide),λH3 k3 h3=>?_⟩
  have h3:H3 x=some (.ins C dx [("rows",.ref D)]):=by
   rw[h3]
   rfl
  exact qT H3 D zs ((s1.toBut.trans s2.toBut).trans k3) h3 (hD.but k3 hx2 (λ_ w=>by cases w) (λw=>by have:=hD.at_;rw[w,hx2]at this;cases this)) ez
def zdE:FnScope ["self","name","row"] ["self","name"] (zac zcA):=fsc
include T in
theorem fB(D:Mfn K "sort_of" "Sorts.sort_of" zcA ["self","name"] f fd)(aW:Cal P w K mg bj "sort_from" 6 ["row"] (zpy Aj)):FnOk P w K mg bj CX0 7 f fd ["self","name"] (zjg Aj Ae):=by
 refine D.F.ok zdE (by walk_at "z") (λc A o s H vs Q E hr h=>?_)
 obtain⟨a,rs,r,rfl,⟨dx,l,xs,e,g,rfl⟩,hl,ok,hrm,un,q⟩:=h
 refine⟨_,(zab (zcL tY rfl (zaB (zaq (pv 0) rfl)) (ay (i:=2) zdE.nd rfl (Or.inl rfl)) (zaf (zaQ (zan (zuN hr.units0) (zak zah (pv 2) zad (λ_ _=>rfl)) (pv 1) (zas _)) (zaf (zaj (zai aW hr.o rfl (zaa (pv 2) zae)))) zat)))
  (zaf aB)),?_⟩
 refine⟨_,rfl,a,_,dx,_,_,rfl,e,T.DC.cl,T.CS,rfl,l,rfl,⟨_,SqL.of g.at_⟩,?_⟩
 refine zcn (K:=K) (a:=l) (xs:=xs.map λq=>V.ref q.1) (λi σ H'=>∃v2:Option V,σ=[some (.ref a),some (.str r.nm),v2]/\H'=H/\∀j q,j<i->xs[j]?=some q->V.str q.2.nm≠.str r.nm) ⟨_,rfl,rfl,λj q z=>absurd z (Nat.not_lt_zero j)⟩ (λi σ H' _ ⟨_,_,eH,_⟩=>by subst eH;exact SqL.of g.at_) ?_ ?_
 ·rintro i v σ H' hv ⟨v2,rfl,eH,nj⟩
  subst eH
  obtain⟨z,ez,hv⟩:=gmp hv
  cases hv
  have m:=tE ez
  have mm:z.2∈xs.map (·.2):=pe m
  obtain⟨pw,ps,a1,a2,a3⟩:=g.sr z m
  refine⟨_,rfl,z.1,_,_,_,rfl,rfl,SqT.of a1,rfl,_,rfl,?_⟩
  have next:(V.str z.2.nm≠.str r.nm)->∀j q,j<i+1->xs[j]?=some q->V.str q.2.nm≠.str r.nm:=λnz j q hj hq=>by
   by_cases c:j=i
   ·subst c
    rw[ez]at hq
    cases hq
    exact nz
   ·exact nj j q (by omega) hq
  refine⟨_,rfl,.inl ⟨_,rfl,_,rfl,?_⟩⟩
  refine ite2 (λc=>?_) (λc=>?_)
  ·have c':z.2.nm=r.nm:=tP c
   have er:=un z.2 mm c'
   refine⟨_,rfl,z.1,z.2,rfl,g.sr z m,ok _ mm,λb H2 s2 hb=>q b H2 s2 (by rw[<-er];exact hb)⟩
  ·have c':¬z.2.nm=r.nm:=su (Bool.eq_false_iff.mpr c)
   exact⟨_,rfl,rfl,next λw=>c' (by injection w)⟩
 ·rintro σ H' ⟨v2,rfl,eH,nj⟩
  subst eH
  obtain⟨z,hz,rfl⟩:=mem_map.mp hrm
  obtain⟨j,hj,ej⟩:=t6 hz
  exact absurd rfl (nj j z (by rw[tm];exact hj) (by rw[tj hj,ej]))
def clOf(p:Pv)(r:SR):Cl:=⟨p.n,r.a,r.b,r.c,r.d,p.came⟩
def zpE(rs:List SR)(nm:Str)(r:SR):Prop:=r∈rs/\r.nm=nm/\∀s,s∈rs->s.nm=nm->s=r
inductive zlr(K:am)(cs:CsA)(ct:Addr)(vs:List V)(H:Hp)(Q:VK)(_:XK):Prop
 | mk (a s:Addr) (d:Wd) (p:Pv) (rs:List SR) (r:SR) (_:vs=[.ref a,.ref s]) (_:IsPc cs H a d p) (_:IsSt ct H s rs) (_:rs.length<=8) (_:(∀r,r∈rs->r.Ok)) (_:zpE rs p.nm r) (_:∀t H',Same H H'->IsCl K H' t (clOf p r.low)->Q (.ref t) H')
inductive zpF(K:am)(cs:CsA)(ct:Addr)(vs:List V)(H:Hp)(Q:VK)(_:XK):Prop
 | mk (a s:Addr) (d:Wd) (p:Pv) (rs:List SR) (r:SR) (_:vs=[.ref a,.ref s]) (_:IsPc cs H a d p) (_:p.Ok) (_:IsSt ct H s rs) (_:rs.length<=8) (_:(∀r,r∈rs->r.Ok)) (_:zpE rs p.nm r) (_:∀t u H',Same H H'->H' u=some (.tup [.ref t,.int (p.left d)])->IsCl K H' t (clOf p r.low)->Q (.ref u) H')
def eE:FnScope ["piece","sorts","sort"] pl8 (zac zgh):=fsc
include T in
theorem zls(D:Dfn K mg "claim_of" zgh pl8 f fd)(Bl:MOk CX0 P w K mg bj 7 Ae "sort_of" (zjg Aj Ae)):Cal P w K mg bj "claim_of" 8 pl8 (zlr K (CsA.mk Aa Ad Ab) Ae):=by
 refine D.cal (D.F.ok eE (by walk_at "z") (λc A o s H vs Q E hr h=>?_))
 obtain⟨a,s,d,p,rs,r,rfl,⟨dx,e⟩,hst,hl,ok,⟨hr',en,un⟩,q⟩:=h
 have S:=zcC T
 have hst':=hst
 obtain⟨sdx,l,xs,es,_,_⟩:=hst'
 refine⟨_,(zab (zam (i:=2) eE.nd rfl (Or.inl rfl) (zdD (k:=7) (pv 1) hr.o zaT (zaa (zaq (pv 0) rfl) zae)))
  (zaf (zaj (zaK (pai (zag (zaq (pv 0) rfl) (zag (zaq (pv 2) rfl) (zag (zaq (pv 2) rfl) (zag (zaq (pv 0) rfl) zbd))))))))),?_⟩
 refine⟨_,rfl,s,_,sdx,_,_,rfl,es,rfl,Bl,_,rfl,a,_,dx,_,_,rfl,e,(S.ow d).cl,S.n2 d,rfl,s,rs,r,(by rw[en]),hst,hl,ok,hr',λz hz ez=>un z hz (by rw[ez,en]),λb H1 s1 hb=>?_⟩
 obtain⟨bdx,pw,ps,b1,b2,b3⟩:=hb
 have e1:=s1 _ _ e
 have O:=T.Dv
 refine⟨_,rfl,a,_,dx,_,_,rfl,e1,(S.ow d).cl,S.n1 d,rfl,_,rfl,b,_,bdx,_,_,rfl,b1,O.cl,T.Bu,rfl,_,rfl,b,_,bdx,_,_,rfl,b1,O.cl,T.BK,rfl,_,rfl,a,_,dx,_,_,rfl,e1,(S.ow d).cl,S.n3 d,rfl,si4,λt H2 s2 n2 h2=>q t H2 (s1.trans s2) ⟨pw,ps,h2,s2 _ _ b2,s2 _ _ b3⟩⟩
def zlt:FnScope pl8 pl8 (zac zgi):=fsc
include T in
theorem zlu(D:Dfn K mg "chore_of" zgi pl8 f fd)(zcq:Cal P w K mg bj "claim_of" 8 pl8 (zlr K (CsA.mk Aa Ad Ab) Ae))(Ca:∀d,MOk CX0 P w K mg bj 2 (CsA.cl (CsA.mk Aa Ad Ab) d) "work_left" (zpt (CsA.mk Aa Ad Ab))):Cal P w K mg bj "chore_of" 9 pl8 (zpF K (CsA.mk Aa Ad Ab) Ae):=by
 refine D.cal (D.F.ok zlt (by walk_at "z") (λc A o s H vs Q E hr h=>?_))
 obtain⟨a,s,d,p,rs,r,rfl,⟨dx,e⟩,po,hst,hl,ok,hr',q⟩:=h
 refine⟨_,(zaf (zaj (zaK (zaa (zai zcq hr.o rfl (zaa (pv 0) (zaa (pv 1) zae))) (zaa (zaO (k:=2) (pv 0) hr.o zaT) zae))))),?_⟩
 refine⟨_,rfl,_,rfl,a,s,d,p,rs,r,rfl,⟨dx,e⟩,hst,hl,ok,hr',λt H1 s1 h1=>?_⟩
 have e1:=s1 _ _ e
 exact⟨_,rfl,a,_,dx,_,_,rfl,e1,rfl,Ca d,a,d,p,rfl,⟨dx,e1⟩,po,si2,λu H2 s2 n2 h2=>q t u H2 (s1.trans s2) h2 (h1.same s2)⟩
def zba:Pos:=match (zap zaF).getLast? with
 | some (.Return (some (.Call _ _ [⟨_,.Lambda _ _ _ lp,_⟩] _)) _)=>lp
 | _=>⟨0,0,0,0⟩
def lamQ:Str:=(("claims_in_order" : Str) ++ ".<locals>.") ++ "<lambda>"
variable{tT:Addr}
inductive zol(K:am)(tT:Addr)(vs:List V)(H:Hp)(Q:VK)(_:XK):Prop
 | mk (a:Addr) (ns:List Int) (_:vs=[.ref a]) (_:SqL K H a (ns.map V.int)) (_:ns.length<=63) (_:H tT=some (.tbl zba lamQ)) (_:∀H',Q (.bl true) H')
inductive zmD(K:am)(vs:List V)(H:Hp)(Q:VK)(_:XK):Prop
 | mk (l:Addr) (ps:List (Addr × Cl)) (_:vs=[.ref l]) (_:IsCs K H l ps) (_:Good (ps.map (·.2))) (_:∀M H',Same H H'->0<M->M<=27720->(∀c∈ps.map (·.2),c.wb∣M/\c.sb∣M)->Q (.int M) H')
inductive zuW(K:am)(vs:List V)(H:Hp)(Q:VK)(_:XK):Prop
 | mk (p:Addr) (c:Cl) (t M:Int) (_:vs=[.ref p,.int t,.int M]) (_:IsCl K H p c) (_:c.Ok) (_:0<M) (_:M<=27720) (_:∀r H',Same H H'->H' r=some (.tup ((kM c t M).map V.int))->Q (.ref r) H')
inductive zlv(K:am)(tT:Addr)(vs:List V)(H:Hp)(Q:VK)(_:XK):Prop
 | mk (l:Addr) (ps:List (Addr × Cl)) (t:Int) (_:vs=[.ref l,.int t]) (_:IsCs K H l ps) (_:Good (ps.map (·.2))) (_:ps.length<=40) (_:H tT=some (.tbl zba lamQ)) (_:∀D H' (qs:List (Addr × Cl)),Same H H'->H D=none->H' D=some (.lst (qs.map λq=>V.ref q.1))->qs.Perm ps->Srt t (qs.map (·.2))->Q (.ref D) H')
inductive zfA(K:am)(tT:Addr)(vs:List V)(H:Hp)(Q:VK)(_:XK):Prop
 | mk (l:Addr) (ps:List (Addr × Cl)) (t:Int) (_:vs=[.ref l,.int t]) (_:IsCs K H l ps) (_:Good (ps.map (·.2))) (_:ps.length<=40) (_:H tT=some (.tbl zba lamQ)) (_:∀m H',Same H H'->H m=none->H' m=some (.lst (((ord (ps.map (·.2)) t).map (·.n)).map V.int))->Q (.ref m) H')
structure ChIn(K:am)(H:Hp)(l:Addr)(xs:List (Addr × Cl × Int)):Prop where
 chs:IsChs K H l xs
 len:xs.length<=40
 ok:∀q,q∈xs->ChOk 1000 q.2
 nd:(xs.map (·.2.1.n)).Nodup
def ChIn.same{H H':Hp}{l:Addr}{xs:List (Addr × Cl × Int)}(s:Same H H')(h:ChIn K H l xs):ChIn K H' l xs:=⟨h.chs.same s,h.len,h.ok,h.nd⟩
def ChIn.good{H:Hp}{l:Addr}{xs:List (Addr × Cl × Int)}(h:ChIn K H l xs)(t:Int):Good (csOf t xs):=zoZ (λq hq=>(h.ok q hq).ok) h.nd
inductive zmE(K:am)(tT:Addr)(vs:List V)(H:Hp)(Q:VK)(_:XK):Prop
 | mk (l:Addr) (xs:List (Addr × Cl × Int)) (h t:Int) (_:vs=[.ref l,.int h,.int t]) (_:ChIn K H l xs) (_:0<=h) (_:H tT=some (.tbl zba lamQ)) (_:∀m H',Same H H'->H m=none->H' m=some (.lst ((zfY t h.toNat xs).map V.int))->Q (.ref m) H')
inductive zji(K:am)(vs:List V)(H:Hp)(Q:VK)(_:XK):Prop
 | mk (l m:Addr) (xs:List (Addr × Cl × Int)) (ws:List Int) (_:vs=[.ref l,.ref m]) (_:ChIn K H l xs) (_:H m=some (.lst (ws.map V.int))) (_:∀D H' bs,Same H H'->H D=none->IsBh H' D (behL H ws xs) bs->Q (.ref D) H')
inductive zrZ(K:am)(tT:Addr)(vs:List V)(H:Hp)(Q:VK)(_:XK):Prop
 | mk (l:Addr) (xs:List (Addr × Cl × Int)) (h t:Int) (_:vs=[.ref l,.int h,.int t]) (_:ChIn K H l xs) (_:0<=h) (_:H tT=some (.tbl zba lamQ)) (_:∀p m D H' bs,Same H H'->H' p=some (.tup [.ref m,.ref D])->H m=none->H D=none->m≠D->H' m=some (.lst ((zfY t h.toNat xs).map V.int))->IsBh H' D (behL H (zfY t h.toNat xs) xs) bs->Q (.ref p) H')
def ChIn.next{H H':Hp}{l D:Addr}{xs:List (Addr × Cl × Int)}{ws:List Int}{bs:List (Addr × List V)}(hI:ChIn K H l xs)(s:Same H H')(B:IsBh H' D (behL H ws xs) bs):
    ChIn K H' D (zipB bs (behL H ws xs))/\(zipB bs (behL H ws xs)).map (·.2)=bhC ws (xs.map (·.2)):=by
 obtain⟨c1,c2⟩:=B.chs (K:=K) λk hk=>by
  obtain⟨q0,hq0,e,_⟩:=zmp hk
  rw[e]
  exact(hI.chs.ch q0 hq0).kc.2.same s
 have cn:(zipB bs (behL H ws xs)).map (·.2.1.n)=(behL H ws xs).map (·.2.1.n):=by
  have:=tW (List.map λx:Cl × Int=>x.1.n) c2
  rw[t5,t5]at this
  exact this
 refine⟨⟨c1,?_,λq' hq'=>?_,?_⟩,by rw[c2,zuG]⟩
 ·have:=tW List.length c2
  rw[tm,tm]at this
  rw[this]
  exact tU (zqZ _ _ _) hI.len
 ·have:q'.2∈(behL H ws xs).map (·.2):=by
   rw[<-c2]
   exact mem_map.mpr ⟨q',hq',rfl⟩
  obtain⟨k,hk,e⟩:=mem_map.mp this
  obtain⟨q0,hq0,e2,pos⟩:=zmp hk
  have o:=hI.ok q0 hq0
  rw[<-e,e2]
  have le:zbG ws q0.2<=q0.2.2:=by
   unfold zbG
   split<;>omega
  exact⟨o.ok,rX pos,pC le o.l1,o.cm⟩
 ·rw[cn]
  exact ztd hI.nd
structure RunOf(H0 H:Hp)(h:Nat)(b:Int)(c:Ch)(D:Addr)(rs:List (Addr × Addr × Int × List Int)):Prop where
 run:IsRun H D rs
 new:∀r,r∈rs->H0 r.2.1=none
 ne:∀r,r∈rs->r.2.1≠D
 eq:∃n,rs.map (λr=>(r.2.2.1,r.2.2.2))=(runN h n b (bhC [] c)).1/\(runN h n b (bhC [] c)).2=[]/\∀k,k<n->(runN h k b (bhC [] c)).2≠[]
theorem zsa:∀{c:Ch},(∀k,k∈c->k.2<=12)->sumC c<=12*c.length
 | [],_=>tF _
 | k::c,h=>by
   have ih:=zsa (c:=c) λj hj=>h j (tO _ hj)
   have:=h k tN
   unfold sumC at *
   simp
   omega
def ChIn.sum{H:Hp}{l:Addr}{xs:List (Addr × Cl × Int)}(hI:ChIn K H l xs):sumC (xs.map (·.2))<=480:=by
 have a:=zsa (c:=xs.map (·.2)) λk hk=>by
  obtain⟨q,hq,rfl⟩:=mem_map.mp hk
  exact(hI.ok q hq).l1
 have:=hI.len
 rw[tm]at a
 omega
def ChIn.cm{H:Hp}{l:Addr}{xs:List (Addr × Cl × Int)}(hI:ChIn K H l xs):∀k,k∈xs.map (·.2)->k.1.came<=1000:=λk hk=>by
 obtain⟨q,hq,rfl⟩:=mem_map.mp hk
 exact(hI.ok q hq).cm
def zmF(xs:List V)(n:Nat):cutV xs none (some (n:Int))=xs.take n:=by
 unfold cutV
 rw[HT.sIx_none,HT.sIx_nat,List.drop_zero,Nat.sub_zero,Nat.min_def]
 split
 ·rfl
 ·rw[sW (by omega),sW (by omega)]
inductive zpG(vs:List V)(H:Hp)(Q:VK)(_:XK):Prop
 | mk (l:Addr) (_:vs=[.ref l,.non]) (_:Q (.ref l) H)
inductive ztq(K:am)(tT:Addr)(vs:List V)(H:Hp)(Q:VK)(_:XK):Prop
 | mk (l:Addr) (xs:List (Addr × Cl × Int)) (h b:Int) (_:vs=[.ref l,.int h,.int b,.non]) (_:ChIn K H l xs) (_:0<h) (_:0<=b) (_:b<=1000) (_:H tT=some (.tbl zba lamQ)) (_:∀D H' rs,Same H H'->H D=none->RunOf H H' h.toNat b (xs.map (·.2)) D rs->(∀r,r∈rs->r.2.2.2.length<=40)->rs.length<=1481->Q (.ref D) H')
def zuX{H:Hp}{l:Addr}{xs:List (Addr × Cl × Int)}(hI:ChIn K H l xs)(t:Int)(h:Nat):(zfY t h xs).length<=40:=by
 unfold zfY
 rw[sj,tm,(zaU _ _).length_eq]
 have:(csOf t xs).length<=xs.length:=by
  unfold csOf
  rw[tm]
  exact sf _ _
 have:=hI.len
 omega
def zbg:FnScope ["claims","common","claim","bottom"] ["claims"] (zac zcv):=fsc
include T in
theorem fE(D:Dfn K mg "common_bottom" zcv ["claims"] f fd)(aV:Cal P w K mg bj "common_divisor" 1 pl6 ztp):Cal P w K mg bj "common_bottom" 2 ["claims"] (zmD K):=by
 refine D.cal (D.F.ok zbg (by walk_at "z") (λc A o s H vs Q E hr h=>?_))
 obtain⟨l,ps,rfl,hC,G,q⟩:=h
 refine⟨_,(zab (zam (i:=1) zbg.nd rfl (Or.inl rfl) zad)
  (zab (zcL tY rfl (zaB (pv 0)) (ay (i:=2) zbg.nd rfl (Or.inl rfl)) (zaf (zcL tY rfl (ztN (zaK (zaa (zak zah (zak zah (pv 2) zad (λ_ _=>rfl)) zad (λ_ _=>rfl)) (zaa (zak zah (zak zah (pv 2) zad (λ_ _=>rfl)) zad (λ_ _=>rfl)) zae)))) (ay (i:=3) zbg.nd rfl (Or.inl rfl)) (zaf (zam (i:=1) zbg.nd rfl (Or.inl rfl) (zaz zeb (zaz au (pv 1) (pv 3)) (zai aV hr.o rfl (zaa (pv 1) (zaa (pv 3) zae)))))))))
  (zaf (zaj (pv 1))))),?_⟩
 refine⟨_,rfl,l,rfl,⟨_,SqL.of hC.at_⟩,?_⟩
 refine zcn (K:=K) (a:=l) (xs:=ps.map λq=>V.ref q.1) (λi σ H1=>∃(M:Int)(v2 v3:Option V),σ=[some (.ref l),some (.int M),v2,v3]/\Same H H1/\0<M/\M∣27720/\∀j y,j<i->ps[j]?=some y->y.2.wb∣M/\y.2.sb∣M)
  ⟨1,_,_,rfl,Same.refl _,by decide,by decide,λj y z=>by omega⟩ (λi σ H1 _ ⟨_,_,_,_,s1,_⟩=>SqL.of (s1 _ _ hC.at_)) ?_ ?_
 ·rintro i x σ H1 hi ⟨M,v2,v3,rfl,s1,M0,Md,hM⟩
  obtain⟨y,e,hi⟩:=gmp hi
  cases hi
  have hy:=tE e
  have ok:=G.ok y.2 (mem_map.mpr ⟨y,hy,rfl⟩)
  obtain⟨pw,ps',z1,z2,z3⟩:=((hC.cl y hy).same s1).ex
  refine⟨_,rfl,y.1,_,_,_,rfl,rfl,SqT.of z1,rfl,pw,_,_,_,rfl,rfl,SqT.of z2,rfl,_,rfl,y.1,_,_,_,rfl,rfl,SqT.of z1,rfl,ps',_,_,_,rfl,rfl,SqT.of z3,rfl,si2,λlt H2 s2 n2 h2=>?_⟩
  refine⟨lt,rfl,⟨_,SqT.of h2⟩,?_⟩
  have w2:=ok.w2
  have w3:=ok.w3
  have b2:=ok.s2
  have b3:=ok.s3
  refine zsv (K:=K) (a:=lt) (xs:=[V.int y.2.wb,V.int y.2.sb]) (λk σ H3=>∃(N:Int)(v3:Option V),σ=[some (.ref l),some (.int N),some (.ref y.1),v3]/\Same H2 H3/\0<N/\N∣27720/\M∣N/\(0<k->y.2.wb∣N)/\(1<k->y.2.sb∣N))
   ⟨M,_,rfl,Same.refl _,M0,Md,Int.dvd_refl _,λz=>by omega,λz=>by omega⟩ (λk σ H3 _ ⟨_,_,_,s3,_⟩=>SqT.of (s3 _ _ h2)) ?_ ?_
  ·rintro k x σ H3 hk ⟨N,v3,rfl,s3,N0,N1,N2,N3,N4⟩
   have hx:∃b:Int,x=.int b/\0<b/\b<=12/\((k=0/\b=y.2.wb)\/(k=1/\b=y.2.sb)):=by
    rcases(by have:=(List.getElem?_eq_some_iff.mp hk).1;simp at this;omega:k=0\/k=1)with rfl | rfl
    ·simp at hk
     exact⟨_,hk.symm,w2,w3,.inl ⟨rfl,rfl⟩⟩
    ·simp at hk
     exact⟨_,hk.symm,b2,b3,.inr ⟨rfl,rfl⟩⟩
   obtain⟨b,rfl,b0,b1,hb⟩:=hx
   have Nle:N<=27720:=Int.le_of_dvd (by decide) N1
   obtain⟨L0,L1,L2,L3⟩:=zqR N0 b0
   have g0:=M1.gd_pos (x:=N) b0
   have g1:=M1.gd_le (x:=N) b0
   refine⟨_,rfl,_,rfl,_,_,rfl,rfl,.inr ⟨by omega,by omega⟩,_,rfl,_,rfl,N,b,rfl,by omega,by omega,_,_,rfl,rfl,⟨g0,by omega⟩,?_⟩
   refine⟨_,_,rfl,s3,L0,L3 _ N1 (zoN b0 b1),pN N2 L1,λ_=>?_,λz=>?_⟩
   ·rcases hb with⟨rfl,rfl⟩ | ⟨rfl,rfl⟩
    ·exact L2
    ·exact pN (N3 (by omega)) L1
   ·rcases hb with⟨rfl,rfl⟩ | ⟨rfl,rfl⟩
    ·omega
    ·exact L2
  ·rintro σ H3 ⟨N,v3,rfl,s3,N0,N1,N2,N3,N4⟩
   refine⟨N,_,_,rfl,s1.trans (s2.trans s3),N0,N1,λj z hj hz=>?_⟩
   by_cases ji:j=i
   ·subst ji
    rw[e]at hz
    cases hz
    exact⟨N3 (by simp),N4 (by simp)⟩
   ·obtain⟨d1,d2⟩:=hM j z (by omega) hz
    exact⟨pN d1 N2,pN d2 N2⟩
 ·rintro σ H1 ⟨M,v2,v3,rfl,s1,M0,Md,hM⟩
  refine⟨_,rfl,q M H1 s1 M0 (Int.le_of_dvd (by decide) Md) λc hc=>?_⟩
  obtain⟨y,hy,rfl⟩:=mem_map.mp hc
  obtain⟨j,hj,ej⟩:=t6 hy
  exact hM j y (by rw[tm];exact hj) (by rw[tj hj,ej])
def zdX:FnScope ["claim","turn","common","weight","speed"] pl9 (zac zey):=fsc
include T in
theorem zkw(D:Dfn K mg "place_key" zey pl9 f fd):Cal P w K mg bj "place_key" 1 pl9 (zuW K):=by
 refine D.cal (D.F.ok zdX (by walk_at "z") (λc A o s H vs Q E hr h=>?_))
 obtain⟨p,c,t,M,rfl,hc,ok,M0,M1,q⟩:=h
 refine⟨_,(zab (zam (i:=3) zdX.nd rfl (Or.inl rfl) (zaz au (zak zah (zak zah (pv 0) zad (λ_ _=>rfl)) zad (λ_ _=>rfl)) (zaz zeb (pv 2) (zak zah (zak zah (pv 0) zad (λ_ _=>rfl)) zad (λ_ _=>rfl)))))
  (zab (zam (i:=4) zdX.nd rfl (Or.inl rfl) (zaz au (zak zah (zak zah (pv 0) zad (λ_ _=>rfl)) zad (λ_ _=>rfl)) (zaz zeb (pv 2) (zak zah (zak zah (pv 0) zad (λ_ _=>rfl)) zad (λ_ _=>rfl)))))
  (zaf (zaj (zaK (zaa (znS zjH (zaz aw (pv 3) (zaz au (zaz zel (pv 1) (zak zah (pv 0) zad (λ_ _=>rfl))) (pv 4)))) (zaa (zak zah (pv 0) zad (λ_ _=>rfl)) (zaa (zak zah (pv 0) zad (λ_ _=>rfl)) zae)))))))),?_⟩
 obtain⟨pw,ps,e1,e2,e3⟩:=id hc.ex
 have hp:SqT K H p _:=SqT.of e1
 have hw:SqT K H pw _:=SqT.of e2
 have hs:SqT K H ps _:=SqT.of e3
 have w2:=ok.w2
 have w3:=ok.w3
 have b2:=ok.s2
 have b3:=ok.s3
 have d1:M / c.wb<=M:=qM _ (by omega)
 have d2:0<=M / c.wb:=Int.ediv_nonneg (by omega) (by omega)
 have d3:M / c.sb<=M:=qM _ (by omega)
 have d4:0<=M / c.sb:=Int.ediv_nonneg (by omega) (by omega)
 have d5:c.st*(M / c.sb)<=1000000*27720:=sy ok.s1 (by omega) d4 (by decide)
 have d6:0<=c.st*(M / c.sb):=sT ok.s0 d4
 refine⟨_,rfl,p,_,_,_,rfl,rfl,hp,rfl,pw,_,_,_,rfl,rfl,hw,rfl,_,rfl,_,rfl,p,_,_,_,rfl,rfl,hp,rfl,pw,_,_,_,rfl,rfl,hw,rfl,_,_,rfl,rfl,⟨w2,by omega⟩,_,_,rfl,rfl,.inr ⟨by omega,by omega⟩,?_⟩
 refine⟨_,rfl,p,_,_,_,rfl,rfl,hp,rfl,ps,_,_,_,rfl,rfl,hs,rfl,_,rfl,_,rfl,p,_,_,_,rfl,rfl,hp,rfl,ps,_,_,_,rfl,rfl,hs,rfl,_,_,rfl,rfl,⟨b2,by omega⟩,_,_,rfl,rfl,.inr ⟨by omega,by omega⟩,?_⟩
 refine⟨_,rfl,_,rfl,_,rfl,p,_,_,_,rfl,rfl,hp,rfl,_,_,rfl,rfl,_,rfl,_,_,rfl,rfl,.inr ⟨by omega,by omega⟩,_,_,rfl,rfl,_,rfl,?_⟩
 refine⟨_,rfl,p,_,_,_,rfl,rfl,hp,rfl,_,rfl,p,_,_,_,rfl,rfl,hp,rfl,si3,λr H1 s1 n1 h1=>?_⟩
 exact q r H1 s1 h1
def zcR:FnScope ["claims","turn","common"] pl10 (zac zaF):=fsc
include T in
theorem zfB{cv:Value}(D:DfnC K mg "claims_in_order" zaF pl10 f fd cv)(SI:Site K mg bj cv tT)(zcD:Cal P w K mg bj "common_bottom" 2 ["claims"] (zmD K))(zeR:Cal P w K mg bj "place_key" 1 pl9 (zuW K)):Cal P w K mg bj "claims_in_order" 6 pl10 (zlv K tT):=by
 refine D.cal (D.F.ok zcR (by walk_at "z") (λA o s H vs Q E hr h=>?_))
 obtain⟨l,ps,t,rfl,hC,G,pl,hT,q⟩:=h
 refine⟨_,(zab (zam (i:=2) zcR.nd rfl (Or.inr rfl) (zai zcD hr.o rfl (zaa (pv 0) zae)))
  (zaf (zaj (znb (N:=pl9) (js:=[1,2]) (CompScope.of rfl rfl rfl rfl rfl (by decide +kernel) rfl rfl rfl rfl) SI rfl hr.depth rfl rfl T.zmz (zaa (pv 0) zae) (λ_ _ _ _ _=>(zai zeR (((hr.mono (j:=1+3) (by decide)).in1).in1.deeper _) rfl (zaa (pv 0) (zaa (pv 1) (zaa (pv 2) zae))))))))),?_⟩
 refine⟨_,rfl,l,ps,rfl,hC,G,λM H1 s1 M0 M1 hM=>?_⟩
 have ml:(ps.map λq=>V.ref q.1).length=(ps.map (·.2)).length:=by rw[tm,tm]
 refine⟨_,rfl,l,_,zfV (ps.map (·.2)) t M,3,rfl,SqL.of (hC.same s1).at_,by rw[ml,tm];omega,zuv _ t M,by decide,by rw[ml];exact zux G M0 hM,s1 _ _ hT,λH2 s2=>⟨λi v hv H3 s3=>?_,λD H' p s' n' h' hp hs=>?_⟩⟩
 ·obtain⟨y,e,hv⟩:=gmp hv
  cases hv
  have hy:=tE e
  refine⟨_,rfl,_,rfl,_,rfl,y.1,y.2,t,M,rfl,(hC.cl y hy).same (s1.trans (s2.trans s3)),G.ok y.2 (mem_map.mpr ⟨y,hy,rfl⟩),M0,M1,λr H4 s4 h4=>⟨s4,r,rfl,?_⟩⟩
  rw[h4]
  unfold zfV
  rw[getElem?_map,e]
  rfl
 ·rw[ml]at hp
  have s02:=s1.trans s2
  have d:Addr × Cl:=(0,⟨0,0,1,0,1,0⟩)
  have lt:∀i∈p,i<ps.length:=λi hi=>by
   have:=mem_range.mp (hp.mem_iff.mp hi)
   simpa using this
  have hp2:p.Perm (List.range ps.length):=by simpa using hp
  refine q D H' (p.map λi=>ps.getD i d) (s02.trans s') (Same.free s02 n') ?_ (dZ d ps hp2) (zqS G M0 hM hp d hs)
  rw[h',t5]
  congr 2
  refine pE λi hi=>?_
  have:=lt i hi
  show(ps.map λq=>V.ref q.1).getD i .non=V.ref (ps.getD i d).1
  rw[tK,tK,getElem?_map,tj this]
  rfl
def zeS:FnScope pl10 pl10 (zac zbJ):=fsc
include T in
theorem zeT(D:Dfn K mg "numbers_in_order" zbJ pl10 f fd)(zaY:Cal P w K mg bj "claims_in_order" 6 pl10 (zlv K tT)):Cal P w K mg bj "numbers_in_order" 7 pl10 (zfA K tT):=by
 refine D.cal (D.F.ok zeS (by walk_at "z") (λc A o s H vs Q E hr h=>?_))
 obtain⟨l,ps,t,rfl,hC,G,pl,hT,q⟩:=h
 refine⟨_,(zaf (zaj (zaN (N:=["claim"]) (js:=[]) rfl cpo (zaB (zai zaY hr.o rfl (zaa (pv 0) (zaa (pv 1) zae)))) (λ_ _ _ _ _=>zbx) (λ_ _ _ _ _=>(zak (r:=rIxT K) zah (pv 0) zad (λ_ _=>rfl)))))),?_⟩
 refine⟨_,rfl,_,rfl,l,ps,t,rfl,hC,G,pl,hT,λm H1 qs s1 n1 h1 hp hs=>⟨m,rfl,⟨_,SqL.of h1⟩,?_⟩⟩
 have mo:(qs.map λq=>V.ref q.1).length=qs.length:=tm _
 have lq:=hp.length_eq
 refine zaS (xs:=qs.map λq=>V.ref q.1) (λ_=>true) (itm qs λq=>V.int q.2.n) (SqL.of h1) (λi x Hh Q' hx sh q'=>q' Hh (Same.refl _)) ?_ (zax (by rw[mo];omega)) (λD H2 s2 nD hD=>?_)
 ·intro i x Hh Q' hx _ sh q'
  obtain⟨y,e,hx⟩:=gmp hx
  cases hx
  obtain⟨pw,pz,z1,_,_⟩:=(((hC.cl y (hp.mem_iff.mp (tE e))).same s1).same sh).ex
  refine⟨_,rfl,y.1,_,_,_,rfl,rfl,SqT.of z1,rfl,?_⟩
  have z:=q' Hh (Same.refl _)
  unfold itm at z
  rw[e]at z
  exact z
 rw[zbW,mo,zes]at hD
 refine q D H2 (s1.trans s2) (Same.free s1 nD) ?_
 rw[hD,<-zmj G (hp.map _) hs,t5,t5]
 rfl
def eF:FnScope ["chores","hands","turn","there"] pl11 (zac zcf):=fsc
include T in
theorem zgw(D:Dfn K mg "numbers_worked" zcf pl11 f fd)(zaG:Cal P w K mg bj "numbers_in_order" 7 pl10 (zfA K tT)):Cal P w K mg bj "numbers_worked" 8 pl11 (zmE K tT):=by
 refine D.cal (D.F.ok eF (by walk_at "z") (λc A o s H vs Q E hr h=>?_))
 obtain⟨l,xs,h,t,rfl,hx,h0,hT,q⟩:=h
 refine⟨_,(zab (zet (i:=3) (N:=["chore","turn"]) (js:=[2]) eF.nd rfl rfl rfl cpo (zaB (pv 0)) (λ_ _ _ _ _=>(zcN (PW.pt (zhh (zan zei (zak (r:=rIxT K) zah (pv 0) zad (λ_ _=>rfl)) zad (zas _)) (zeq (zan ziY (zak (r:=rIxT K) zah (zak (r:=rIxT K) zah (pv 0) zad (λ_ _=>rfl)) zad (λ_ _=>rfl)) (pv 1) (zas _))))))) (λ_ _ _ _ _=>(zak (r:=rIxT K) zah (pv 0) zad (λ_ _=>rfl))))
  (zaf (zaj (zco zcO (zai zaG hr.o rfl (zaa (pv 3) (zaa (pv 2) zae))) zdJ (zcU (pv 1)))))),?_⟩
 refine⟨_,rfl,l,rfl,⟨_,SqL.of hx.chs.at_⟩,?_⟩
 have ml:(xs.map λq=>V.ref q.1).length=xs.length:=tm _
 refine zaS (xs:=xs.map λq=>V.ref q.1) (tak xs (zhH t)) (itm xs λk=>V.ref (kcOf H k.1)) (SqL.of hx.chs.at_) ?_ ?_ (zax (by rw[ml];exact tU hx.len (by decide))) (λD H2 s2 nD hD=>?_)
 ·intro i x Hh Q' hi sh q'
  obtain⟨k,e,hi⟩:=gmp hi
  cases hi
  have z:=q' Hh (Same.refl _)
  unfold tak zhH at z
  rw[e]at z
  have z:Q' (decide (0<k.2.2)&&decide (k.2.1.came<=t)) Hh:=z
  obtain⟨k1,k2⟩:=(hx.chs.ch k (tE e)).kc
  obtain⟨_,_,c1,_,_⟩:=id k2.ex
  refine⟨_,rfl,k.1,_,_,_,rfl,rfl,SqT.of (sh _ _ k1),rfl,_,_,rfl,rfl,_,rfl,?_⟩
  by_cases c1':0<k.2.2
  ·refine iteD c1' ?_
   rw[decide_eq_true c1',rH]at z
   exact⟨_,rfl,k.1,_,_,_,rfl,rfl,SqT.of (sh _ _ k1),rfl,_,_,_,_,rfl,rfl,SqT.of (sh _ _ c1),rfl,_,rfl,_,_,rfl,rfl,_,rfl,z⟩
  ·refine aA c1' ?_
   rw[tS c1',qF]at z
   exact z
 ·intro i x Hh Q' hi _ sh q'
  obtain⟨k,e,hi⟩:=gmp hi
  cases hi
  have z:=q' Hh (Same.refl _)
  unfold itm at z
  rw[e]at z
  obtain⟨k1,k2⟩:=(hx.chs.ch k (tE e)).kc
  exact⟨_,rfl,k.1,_,_,_,rfl,rfl,SqT.of (sh _ _ k1),rfl,z⟩
 rw[ml,zdM,<-zlf]at hD
 have hC:IsCs K H2 D (zen H t xs):=⟨hD,λc hc=>(zpa hx.chs t hc).same s2⟩
 have G:Good ((zen H t xs).map (·.2)):=by rw[zkb];exact hx.good t
 refine⟨_,rfl,_,rfl,D,zen H t xs,t,rfl,hC,G,tU (znf _ _ _) hx.len,s2 _ _ hT,λm H3 s3 n3 h3=>?_⟩
 rw[zkb]at h3
 refine⟨_,rfl,_,rfl,m,_,rfl,SqL.of h3,λp H4 s4 n4 h4=>?_⟩
 refine q p H4 (s2.trans (s3.trans s4)) (Same.free (s2.trans s3) n4) ?_
 rw[h4]
 unfold zfY cutV
 rw[HT.sIx_none,show h=((h.toNat:Nat):Int) by omega,HT.sIx_nat,tm,List.drop_zero,Nat.sub_zero,pB,qC]
 congr 2
 rw[Nat.min_def]
 split
 ·rfl
 ·rw[sW (by rw[tm];omega),sW (by rw[tm];omega)]
def zdF:FnScope ["chores","numbers","lessened"] pl12 (zac zcw):=fsc
include T in
theorem fF(D:Dfn K mg "chores_behind" zcw pl12 f fd):Cal P w K mg bj "chores_behind" 1 pl12 (zji K):=by
 refine D.cal (D.F.ok zdF (by walk_at "z") (λc A o s H vs Q E hr h=>?_))
 obtain⟨l,m,xs,ws,rfl,hx,hm,q⟩:=h
 refine⟨_,(zab (zet (i:=2) (N:=["chore","numbers"]) (js:=[1]) zdF.nd rfl rfl rfl cpo (zaB (pv 0)) (λ_ _ _ _ _=>zbx) (λ_ _ _ _ _=>(zaK (zaa (zak (r:=rIxT K) zah (pv 0) zad (λ_ _=>rfl)) (zaa (zcK (zan (zuE (K:=K) rfl) (zak (r:=rIxT K) zah (zak (r:=rIxT K) zah (pv 0) zad (λ_ _=>rfl)) zad (λ_ _=>rfl)) (pv 1) rfl) (zaz zel (zak (r:=rIxT K) zah (pv 0) zad (λ_ _=>rfl)) zad) (zak (r:=rIxT K) zah (pv 0) zad (λ_ _=>rfl))) zae)))))
  (zaf (zaj (zaN (N:=["chore"]) (js:=[]) rfl cpo (zaB (pv 2)) (λ_ _ _ _ _=>(zcN (zan zei (zak (r:=rIxT K) zah (pv 0) zad (λ_ _=>rfl)) zad (zas _)))) (λ_ _ _ _ _=>(pv 0)))))),?_⟩
 refine⟨_,rfl,l,rfl,⟨_,SqL.of hx.chs.at_⟩,?_⟩
 have ml:(xs.map λq=>V.ref q.1).length=xs.length:=tm _
 have fl:∀ns:List Int,(ns.map V.int).all zcd=true:=λns=>all_eq_true.mpr λy hy=>by obtain⟨i,_,rfl⟩:=mem_map.mp hy;rfl
 refine zfq (xs:=xs.map λq=>V.ref q.1) (tak xs λ_=>true) (itl xs λk=>[V.ref (kcOf H k.1),V.int (zbG ws k.2)]) (SqL.of hx.chs.at_) ?_ ?_ (zax (by rw[ml];exact tU hx.len (by decide))) (λD H2 bs s2 nD hD eb hb=>?_)
 ·intro i x Hh Q' hi sh q'
  have z:=q' Hh (Same.refl _)
  unfold tak at z
  rw[getElem?_map]at hi
  cases e:xs[i]? with
  | none=>rw[e]at hi;cases hi
  | some k=>
    rw[e]at z
    exact z
 ·intro i x Hh Q' hi _ sh q'
  obtain⟨k,e,hi⟩:=gmp hi
  cases hi
  obtain⟨k1,k2⟩:=(hx.chs.ch k (tE e)).kc
  obtain⟨_,_,c1,_,_⟩:=id k2.ex
  have z:∀b Hh',Same Hh Hh'->Hh' b=some (.tup [V.ref (kcOf H k.1),V.int (zbG ws k.2)])->Q' (.ref b) Hh':=λb H' s' h'=>q' b H' s' (by rw[h'];unfold itl;rw[e])
  refine⟨_,rfl,k.1,_,_,_,rfl,rfl,SqT.of (sh _ _ k1),rfl,?_⟩
  refine⟨_,rfl,k.1,_,_,_,rfl,rfl,SqT.of (sh _ _ k1),rfl,_,_,_,_,rfl,rfl,SqT.of (sh _ _ c1),rfl,_,rfl,m,_,rfl,.inl (SqL.of (sh _ _ hm)),rfl,fl _,_,rfl,?_⟩
  have ei:(if false=true then !inV (.int k.2.1.n) (ws.map V.int)else inV (.int k.2.1.n) (ws.map V.int))=decide (k.2.1.n∈ws):=by
   rw[if_neg tG]
   exact zle
  rw[ei]
  by_cases c:k.2.1.n∈ws
  ·refine iteD c ?_
   refine⟨_,rfl,k.1,_,_,_,rfl,rfl,SqT.of (sh _ _ k1),rfl,_,_,rfl,rfl,si2,λb H3 s3 n3 h3=>z b H3 s3 ?_⟩
   rw[h3]
   unfold zbG
   rw[if_pos c]
  ·refine aA c ?_
   refine⟨_,rfl,k.1,_,_,_,rfl,rfl,SqT.of (sh _ _ k1),rfl,si2,λb H3 s3 n3 h3=>z b H3 s3 ?_⟩
   rw[h3]
   unfold zbG
   rw[if_neg c]
 rw[ml,zfX,zhd]at eb
 have lb:bs.length=xs.length:=by
  have:=tW List.length eb
  rw[tm,tm]at this
  exact this
 have mb:(bs.map λb=>V.ref b.1).length=bs.length:=tm _
 refine⟨_,rfl,D,rfl,⟨_,SqL.of hD⟩,?_⟩
 have parts:∀b,b∈bs->∃(a:Addr)(i:Int),b.2=[.ref a,.int i]:=λb hb'=>by
  have:b.2∈bs.map (·.2):=mem_map.mpr ⟨b,hb',rfl⟩
  rw[eb]at this
  obtain⟨k,_,e⟩:=mem_map.mp this
  exact⟨_,_,e.symm⟩
 refine zaS (xs:=bs.map λb=>V.ref b.1) (tak bs λb=>plV b.2) (itm bs λb=>V.ref b.1) (SqL.of hD) ?_ ?_ (zax (by rw[mb,lb];exact tU hx.len (by decide))) (λD3 H3 s3 nD3 hD3=>?_)
 ·intro i x Hh Q' hi sh q'
  obtain⟨b,e,hi⟩:=gmp hi
  cases hi
  have hbm:=tE e
  have z:=q' Hh (Same.refl _)
  unfold tak at z
  rw[e]at z
  obtain⟨a,n,e2⟩:=parts b hbm
  have z:Q' (plV b.2) Hh:=z
  rw[e2]at z
  have g:=sh _ _ (hb b hbm)
  rw[e2]at g
  exact⟨_,rfl,b.1,_,_,_,rfl,rfl,SqT.of g,rfl,_,_,rfl,rfl,_,rfl,z⟩
 ·intro i x Hh Q' hi _ sh q'
  obtain⟨b,e,hi⟩:=gmp hi
  cases hi
  have z:=q' Hh (Same.refl _)
  unfold itm at z
  rw[e]at z
  exact⟨_,rfl,z⟩
 rw[mb,zdM]at hD3
 exact q D3 H3 _ (s2.trans s3) (Same.free s2 nD3) ⟨hD3,λb hb'=>s3 _ _ (hb b (mem_filter.mp hb').1),zvK eb⟩
def zgQ:FnScope ["chores","hands","turn","numbers"] pl11 (zac zeA):=fsc
include T in
theorem zkx(D:Dfn K mg "turn_done" zeA pl11 f fd)(zcl:Cal P w K mg bj "numbers_worked" 8 pl11 (zmE K tT))(aX:Cal P w K mg bj "chores_behind" 1 pl12 (zji K)):Cal P w K mg bj "turn_done" 9 pl11 (zrZ K tT):=by
 refine D.cal (D.F.ok zgQ (by walk_at "z") (λc A o s H vs Q E hr h=>?_))
 obtain⟨l,xs,h,t,rfl,hx,h0,hT,q⟩:=h
 refine⟨_,(zab (zam (i:=3) zgQ.nd rfl (Or.inl rfl) (zai zcl hr.o rfl (zaa (pv 0) (zaa (pv 1) (zaa (pv 2) zae)))))
  (zaf (zaj (zaK (zaa (pv 3) (zaa (zai aX hr.o rfl (zaa (pv 0) (zaa (pv 3) zae))) zae)))))),?_⟩
 refine⟨_,rfl,_,rfl,_,rfl,l,xs,h,t,rfl,hx,h0,hT,λm H1 s1 n1 h1=>?_⟩
 refine⟨_,rfl,_,rfl,_,rfl,l,m,xs,_,rfl,hx.same s1,h1,λD H2 bs s2 nD B=>?_⟩
 rw[zoY hx.chs s1]at B
 have mD:m≠D:=λz=>by rw[<-z,h1]at nD;cases nD
 exact⟨si2,λp H3 s3 n3 h3=>q p m D H3 bs (s1.trans (s2.trans s3)) h3 n1 (Same.free s1 nD) mD (s3 _ _ (s2 _ _ h1)) (B.same s3)⟩
def fG:FnScope pl13 pl13 (zac zcW):=fsc
include T in
theorem fH(D:Dfn K mg "chores_taken" zcW pl13 f fd):Cal P w K mg bj "chores_taken" 1 pl13 zpG:=by
 refine D.cal (D.F.ok fG (by walk_at "z") (λc A o s H vs Q E hr h=>?_))
 obtain⟨l,rfl,q⟩:=h
 refine⟨_,(zab (zaQ (zan zjI (pv 1) zdC (zas _)) (zaf (zaj (pv 0))) zat)
  (zaf aB)),?_⟩
 exact⟨_,rfl,rfl,_,rfl,iteT ⟨_,rfl,q⟩⟩
def zcE:FnScope ["chores","hands","begin","real","left","turn","rows","step"] pl14 (zac zdi):=fsc
include T in
theorem zpH(D:DfnD K mg "run_of" zdi pl14 f fd)(aX:Cal P w K mg bj "chores_behind" 1 pl12 (zji K))(zeU:Cal P w K mg bj "turn_done" 9 pl11 (zrZ K tT))(bY:Cal P w K mg bj "chores_taken" 1 pl13 zpG):CalD P w K mg bj "run_of" 10 pl14 (ztq K tT):=by
 refine D.cal (D.F.ok zcE (by walk_at "z") (λc A o s H vs Q E hr h=>?_))
 obtain⟨l,xs,h,b,rfl,hI,h0,b0,b1,hT,q⟩:=h
 refine⟨_,(zab (zam (i:=4) zcE.nd rfl (Or.inl rfl) (zai aX hr.o rfl (zaa (zai bY hr.o rfl (zaa (pv 0) (zaa (pv 3) zae))) (zaa (az zae) zae))))
  (zab (zam (i:=5) zcE.nd rfl (Or.inl rfl) (pv 2))
  (zab (zam (i:=6) zcE.nd rfl (Or.inl rfl) (az zae))
  (zab (ziW tY (PW.pt (zhh (zan zei (zau zaH rfl T.zdW zcm (zaa (pv 4) zae)) zad (zas _)) (zeq (zan zei (pv 1) zad (zas _))))) (zab (zam (i:=7) zcE.nd rfl (Or.inl rfl) (zai zeU hr.o rfl (zaa (pv 4) (zaa (pv 1) (zaa (pv 5) zae)))))
  (zab (zbw (zqC rL qr qt zfU (pv 6) (zaa (zaK (zaa (pv 5) (zaa (zak zah (pv 7) zad (λ_ _=>rfl)) zae))) zae)))
  (zab (zam (i:=4) zcE.nd rfl (Or.inl rfl) (zak zah (pv 7) zad (λ_ _=>rfl)))
  (zaf (ztL (i:=5) zcE.nd rfl (Or.inl rfl) zad ztM))))))
  (zaf (zaj (pv 6))))))),?_⟩
 refine⟨_,rfl,_,rfl,l,rfl,si0,λl1 H1 s1 n1 h1=>?_⟩
 refine⟨l,l1,xs,[],rfl,hI.same s1,h1,λD1 H2 bs s2 nD1 B=>?_⟩
 obtain⟨hI2,e2⟩:=(hI.same s1).next s2 B
 refine⟨_,rfl,si0,λD H3 s3 n3 h3=>?_⟩
 have s02:=s1.trans s2
 generalize hc0:bhC [] (xs.map (·.2))=c0 at e2
 have hn:0<h.toNat:=by omega
 have s480:sumC c0<=480:=by rw[<-e2];exact hI2.sum
 refine ziX (λσ' H'=>∃(l':Addr)(xs':List (Addr × Cl × Int))(rs:List (Addr × Addr × Int × List Int))(n:Nat)(v7:Option V),σ'=[some (.ref l),some (.int h),some (.int b),some .non,some (.ref l'),some (.int (b+n)),some (.ref D),v7]/\Same H2 H'/\ChIn K H' l' xs'/\xs'.map (·.2)=(runN h.toNat n b c0).2/\(∀k,k∈(runN h.toNat n b c0).2->0<k.2)/\IsRun H' D rs/\rs.map (λr=>(r.2.2.1,r.2.2.2))=(runN h.toNat n b c0).1/\(∀r,r∈rs->H2 r.2.1=none/\r.2.1≠D/\r.2.2.2.length<=40)/\(∀k,k<n->(runN h.toNat k b c0).2≠[])/\n+(sumC (runN h.toNat n b c0).2+(1001-(b+n)).toNat)<=sumC c0+(1001-b).toNat)
  (λσ' _=>match σ' with | [_,_,_,_,_,some (.int t),_,_]=>sumC (runN h.toNat (t-b).toNat b c0).2+(1001-t).toNat | _=>0) ?_ ?_ ?_
 ·refine⟨D1,_,[],0,_,by rw[show b+((0:Nat):Int)=b by omega];rfl,s3,hI2.same s3,e2,?_,⟨h3,λr hr=>by simp at hr,λr hr=>by simp at hr⟩,rfl,λr hr=>by simp at hr,λk hk=>by omega,by show 0+(sumC c0+(1001-(b+((0:Nat):Int))).toNat)<=_;omega⟩
  show ∀k,k∈c0->0<k.2
  rw[<-hc0]
  exact λk hk=>bE hk
 ·rintro σ' H4 ⟨l',xs',rs,n,v7,rfl,s4,hI4,ex,pos,R,er,hr,ln,rl⟩
  have mx:(xs'.map λq=>V.ref q.1).length=xs'.length:=tm _
  refine⟨_,rfl,l',_,rfl,.inl (SqL.of hI4.chs.at_),_,_,rfl,rfl,_,rfl,?_⟩
  rw[mx]
  have lrs:rs.length=n:=by
   have:=tW List.length er
   rw[tm,zpd]at this
   exact this
  cases exs:xs' with
  | nil=>
    subst exs
    refine aA (by simp) (iteF ?_)
    refine⟨_,rfl,q D H4 rs (s02.trans s4) (Same.free s02 n3) ⟨R,λr h'=>Same.free s02 (hr r h').1,λr h'=>(hr r h').2.1,n,by rw[hc0];exact er,by rw[hc0];exact ex.symm,by rw[hc0];exact ln⟩ (λr h'=>(hr r h').2.2) (by rw[lrs];omega)⟩
  | cons x0 xt=>
    rw[<-exs]
    have ne:(runN h.toNat n b c0).2≠[]:=by rw[<-ex,exs];simp
    refine iteD (by rw[exs,length_cons];omega) ?_
    refine⟨_,rfl,_,_,rfl,rfl,_,rfl,iteD h0 ?_⟩
    refine⟨_,rfl,_,rfl,_,rfl,l',xs',h,_,rfl,hI4,by omega,s4 _ _ (s02 _ _ hT),λp m2 D2 H5 bs2 s5 hp nm nD2 mD hm2 B2=>?_⟩
    have R5:=R.same s5
    have m2D:m2≠D:=λz=>by rw[z,R.at_]at nm;cases nm
    refine⟨_,rfl,.inl ⟨rfl,_,SqL.of R5.at_⟩,_,rfl,_,rfl,p,_,_,_,rfl,rfl,SqT.of hp,rfl,si2,λp6 H6 s6 n6 h6=>?_⟩
    have R6:=R5.same s6
    refine⟨D,_,_,rfl,rfl,R6.at_,?_,λH7 k7 h7=>?_⟩
    ·rw[tm,lrs]
     have z:(100000:Nat)<=sizeLine:=by decide
     omega
    have hp6:=s6 _ _ hp
    have hp7:=k7 _ _ (λz=>by rw[z,R6.at_]at hp6;cases hp6) hp6
    refine⟨_,rfl,p,_,_,_,rfl,rfl,SqT.of hp7,rfl,?_⟩
    obtain⟨hI5,e5⟩:=hI4.next s5 B2
    have D2D:D2≠D:=λz=>by rw[z,R.at_]at nD2;cases nD2
    have B6:=B2.same s6
    have B7:IsBh H7 D2 (behL H4 (zfY (b+n) h.toNat xs') xs') bs2:=⟨k7 _ _ D2D B6.at_,λc hc=>k7 _ _ (λz=>by have:=B6.rw c hc;rw[z,R6.at_]at this;cases this) (B6.rw c hc),B6.eq⟩
    have s47:Same H2 H7:=(s4.trans (s5.trans s6)).but n3 k7
    have hI7:ChIn K H7 D2 (zipB bs2 (behL H4 (zfY (b+n) h.toNat xs') xs')):=by
     have hI6:=hI5.same s6
     exact⟨hI6.chs.but k7 R6.at_ D2D,hI6.len,hI6.ok,hI6.nd⟩
    have ew:zfY (b+n) h.toNat xs'=wkC (b+n) h.toNat (runN h.toNat n b c0).2:=by rw[ztf,ex]
    have dn:=zra (t:=b+n) hn ne pos (by rw[<-ex];exact hI4.cm)
    refine⟨_,rfl,_,_,rfl,rfl,⟨D2,zipB bs2 (behL H4 (zfY (b+n) h.toNat xs') xs'),rs++[(p6,m2,b+n,zfY (b+n) h.toNat xs')],n+1,_,by rw[show b+((n+1:Nat):Int)=b+n+1 by omega];rfl,s47,hI7,?_,?_,?_,?_,?_,?_,?_⟩,?_⟩
    ·rw[e5,ex,aH,ew]
    ·rw[aH]
     exact λk hk=>bE hk
    ·exact R6.app k7 h7 h6 (s6 _ _ hm2) m2D λr h'=>(hr r h').2.1
    ·rw[t4,er,aH,<-ew]
     rfl
    ·intro r h'
     rcases mem_append.mp h' with h' | h'
     ·exact hr r h'
     ·rw[mem_singleton.mp h']
      exact⟨Same.free s4 nm,m2D,zuX hI4 _ _⟩
    ·intro k hk
     by_cases kn:k=n
     ·subst kn
      exact ne
     ·exact ln k (by omega)
    ·rw[aH]
     show n+1+(sumC (bhC (wkC (b+n) h.toNat (runN h.toNat n b c0).2) (runN h.toNat n b c0).2)+(1001-(b+((n+1:Nat):Int))).toNat)<=_
     omega
    ·show sumC (runN h.toNat (b+n+1-b).toNat b c0).2+(1001-(b+n+1)).toNat<sumC (runN h.toNat (b+n-b).toNat b c0).2+(1001-(b+n)).toNat
     rw[show(b+(n:Int)+1-b).toNat=n+1 by omega,show(b+(n:Int)-b).toNat=n by omega,aH]
     exact dn
 ·intro σ' H' Q1 Q2 hq h
  obtain⟨v1,e1,a,ys,e3,hs,i,j,e4,e5,bb,eb,h⟩:=h
  refine⟨v1,e1,a,ys,e3,hs,i,j,e4,e5,bb,eb,?_⟩
  by_cases c:bb=true
  ·rw[if_pos c]at h ⊢
   obtain⟨w1,f1,i2,j2,f3,f4,b2,f5,h⟩:=h
   exact⟨w1,f1,i2,j2,f3,f4,b2,f5,hq _ _ h⟩
  ·rw[if_neg c]at h ⊢
   exact hq _ _ h
inductive zjj(K:am)(vs:List V)(H:Hp)(Q:VK)(_:XK):Prop
 | mk (l:Addr) (ps:List (Addr × Cl)) (t:Int) (_:vs=[.ref l,.int t]) (_:IsCs K H l ps) (_:ps.length<=40) (_:0<=t) (_:t<=1000000000000000) (_:(∀q,q∈ps->q.2.came<=t)) (_:∀H',Same H H'->Q .non H')
def zjk:FnScope pl10 pl10 (zac zdQ):=fsc
include T in
theorem zjl(D:Dfn K mg "check_turn" zdQ pl10 f fd)(zao:Cal P w K mg bj "is_whole" 1 pl3 (zbn K)):Cal P w K mg bj "check_turn" 2 pl10 (zjj K):=by
 refine D.cal (D.F.ok zjk (by walk_at "z") (λc A o s H vs Q E hr h=>?_))
 obtain⟨l,ps,t,rfl,hC,pl,t0,t1,ca,q⟩:=h
 refine⟨_,(zab (zaQ (zbi (zaR (zai zao hr.o rfl (zaa (pv 1) (zaa zad (zaa (zbv (v:=.int 1000000000000000) rfl T.Bt.choose_spec ⟨_,rfl⟩) zae)))))) (zaf aB) zat)
  (zaf (zaQ (zaR (zau (zhE rfl) rfl T.ztm zoI (zaa (zaN (N:=pl15) (js:=[1]) rfl cpo (zaB (pv 0)) (λ_ _ _ _ _=>zbx) (λ_ _ _ _ _=>(zbU zei (zak (r:=rIxT K) zah (pv 0) zad (λ_ _=>rfl)) (pv 1) (zas _)))) zae))) (zaf aB) zat))),?_⟩
 have ml:(ps.map λq=>V.ref q.1).length=ps.length:=tm _
 ·refine⟨_,rfl,_,0,1000000000000000,_,rfl,.inl ⟨t,rfl,rfl⟩,?_⟩
  rw[decide_eq_true t0,decide_eq_true t1]
  refine⟨_,rfl,iteF ?_⟩
  refine⟨_,rfl,l,rfl,⟨_,SqL.of hC.at_⟩,?_⟩
  refine zaS (xs:=ps.map λq=>V.ref q.1) (λ_=>true) (itm ps λq=>V.bl (decide (t<q.2.came))) (SqL.of hC.at_) (λi x Hh Q' hx sh q'=>q' Hh (Same.refl _)) ?_ (zax (by rw[ml];omega)) (λD H2 s2 nD hD=>?_)
  ·intro i x Hh Q' hx _ sh q'
   obtain⟨y,e,hx⟩:=gmp hx
   cases hx
   obtain⟨pw,pz,z1,_,_⟩:=((hC.cl y (tE e)).same sh).ex
   refine⟨_,rfl,y.1,_,_,_,rfl,rfl,SqT.of z1,rfl,_,rfl,_,_,rfl,rfl,?_⟩
   have z:=q' Hh (Same.refl _)
   unfold itm at z
   rw[e]at z
   exact z
  rw[zbW,ml,zes]at hD
  have hD:H2 D=some (.lst ((ps.map λq=>decide (t<q.2.came)).map V.bl)):=by
   rw[hD,t5]
   rfl
  refine⟨D,_,rfl,SqL.of hD,_,rfl,?_⟩
  have an:(ps.map λq=>decide (t<q.2.came)).any id=false:=by
   rw[List.any_eq_false]
   intro b hb
   obtain⟨y,hy,rfl⟩:=mem_map.mp hb
   have:=ca y hy
   simp
   omega
  rw[an]
  exact iteF (q H2 s2)
inductive zlw(K:am)(tT:Addr)(vs:List V)(H:Hp)(Q:VK)(_:XK):Prop
 | mk (l:Addr) (ps:List (Addr × Cl)) (t:Int) (_:vs=[.ref l,.int t]) (_:IsCs K H l ps) (_:Good (ps.map (·.2))) (_:ps.length<=40) (_:H tT=some (.tbl zba lamQ)) (_:0<=t) (_:t<=1000000000000000) (_:(∀q,q∈ps->q.2.came<=t)) (_:∀m H',Same H H'->H m=none->H' m=some (.lst (((ord (ps.map (·.2)) t).map (·.n)).map V.int))->Q (.ref m) H')
def zlx:FnScope pl10 pl10 (zac zge):=fsc
include T in
theorem zly(D:Dfn K mg "order_at" zge pl10 f fd)(aI:Cal P w K mg bj "check_turn" 2 pl10 (zjj K))(zaG:Cal P w K mg bj "numbers_in_order" 7 pl10 (zfA K tT)):Cal P w K mg bj "order_at" 8 pl10 (zlw K tT):=by
 refine D.cal (D.F.ok zlx (by walk_at "z") (λc A o s H vs Q E hr h=>?_))
 obtain⟨l,ps,t,rfl,hC,G,pl,hT,t0,t1,ca,q⟩:=h
 refine⟨_,(zab (zbw (zai aI hr.o rfl (zaa (pv 0) (zaa (pv 1) zae))))
  (zaf (zaj (zai zaG hr.o rfl (zaa (pv 0) (zaa (pv 1) zae)))))),?_⟩
 refine⟨_,rfl,_,rfl,l,ps,t,rfl,hC,pl,t0,t1,ca,λH1 s1=>?_⟩
 exact⟨_,rfl,_,rfl,l,ps,t,rfl,hC.same s1,G,pl,s1 _ _ hT,λm H2 s2 n2 h2=>q m H2 (s1.trans s2) (Same.free s1 n2) h2⟩
inductive zsb(K:am)(vs:List V)(H:Hp)(Q:VK)(_:XK):Prop
 | mk (l:Addr) (xs:List (Addr × Cl × Int)) (k0:Addr × Cl × Int) (_:vs=[.ref l,.int k0.2.1.n]) (_:ChIn K H l xs) (_:k0∈xs) (_:0<k0.2.2) (_:∀H',Same H H'->Q (.bl true) H')
def ziq:FnScope pl16 pl16 (zac zdj):=fsc
include T in
theorem zir(D:Dfn K mg "is_piece_of" zdj pl16 f fd)(zao:Cal P w K mg bj "is_whole" 1 pl3 (zbn K)):Cal P w K mg bj "is_piece_of" 2 pl16 (zsb K):=by
 refine D.cal (D.F.ok ziq (by walk_at "z") (λc A o s H vs Q E hr h=>?_))
 obtain⟨l,xs,k0,rfl,hI,hk0,p0,q⟩:=h
 refine⟨_,(zaf (zaj (zau (zhE rfl) rfl T.ztm zoI (zaa (zaN (N:=["chore","number"]) (js:=[1]) rfl cpo (zaB (pv 0)) (λ_ _ _ _ _=>zbx) (λ_ _ _ _ _=>(zgN (zbU zei (zak (r:=rIxT K) zah (pv 0) zad (λ_ _=>rfl)) zad (zas _)) (zhj (zai zao hr.o rfl (zaa (pv 1) (zaa (zak (r:=rIxT K) zah (zak (r:=rIxT K) zah (pv 0) zad (λ_ _=>rfl)) zad (λ_ _=>rfl)) (zaa (zak (r:=rIxT K) zah (zak (r:=rIxT K) zah (pv 0) zad (λ_ _=>rfl)) zad (λ_ _=>rfl)) zae)))))))) zae)))),?_⟩
 have ml:(xs.map λq=>V.ref q.1).length=xs.length:=tm _
 refine⟨_,rfl,l,rfl,⟨_,SqL.of hI.chs.at_⟩,?_⟩
 refine zaS (xs:=xs.map λq=>V.ref q.1) (λ_=>true) (itm xs λk=>V.bl (decide (0<k.2.2)&&(decide (k.2.1.n<=k0.2.1.n)&&decide (k0.2.1.n<=k.2.1.n)))) (SqL.of hI.chs.at_) (λi x Hh Q' hx sh q'=>q' Hh (Same.refl _)) ?_ (zax (by rw[ml];have:=hI.len;omega)) (λD H2 s2 nD hD=>?_)
 ·intro i y Hh Q' hi _ sh q'
  obtain⟨k,e,hi⟩:=gmp hi
  cases hi
  have hk:=tE e
  obtain⟨k1,k2⟩:=(hI.chs.ch k hk).kc
  obtain⟨_,_,c1,_,_⟩:=id k2.ex
  have z:Q' (V.bl (decide (0<k.2.2)&&(decide (k.2.1.n<=k0.2.1.n)&&decide (k0.2.1.n<=k.2.1.n)))) Hh:=by
   have z:=q' Hh (Same.refl _)
   unfold itm at z
   rw[e]at z
   exact z
  refine⟨_,rfl,k.1,_,_,_,rfl,rfl,SqT.of (sh _ _ k1),rfl,_,_,rfl,rfl,_,rfl,?_⟩
  by_cases c:0<k.2.2
  ·refine iteD c ?_
   rw[decide_eq_true c,rH]at z
   exact⟨_,rfl,_,rfl,k.1,_,_,_,rfl,rfl,SqT.of (sh _ _ k1),rfl,_,_,_,_,rfl,rfl,SqT.of (sh _ _ c1),rfl,_,rfl,k.1,_,_,_,rfl,rfl,SqT.of (sh _ _ k1),rfl,_,_,_,_,rfl,rfl,SqT.of (sh _ _ c1),rfl,_,_,_,_,rfl,.inl ⟨_,rfl,rfl⟩,z⟩
  ·refine aA c ?_
   rw[tS c,qF]at z
   exact z
 rw[zbW,ml,zes]at hD
 have hD:H2 D=some (.lst ((xs.map λk=>decide (0<k.2.2)&&(decide (k.2.1.n<=k0.2.1.n)&&decide (k0.2.1.n<=k.2.1.n))).map V.bl)):=by
  rw[hD,t5]
  rfl
 refine⟨D,_,rfl,SqL.of hD,?_⟩
 have an:(xs.map λk=>decide (0<k.2.2)&&(decide (k.2.1.n<=k0.2.1.n)&&decide (k0.2.1.n<=k.2.1.n))).any id=true:=by
  rw[List.any_eq_true]
  refine⟨_,mem_map.mpr ⟨k0,hk0,rfl⟩,?_⟩
  rw[decide_eq_true p0,decide_eq_true (rA _)]
  rfl
 rw[an]
 exact q H2 s2
inductive zsc(K:am)(vs:List V)(H:Hp)(Q:VK)(_:XK):Prop
 | mk (l:Addr) (xs:List (Addr × Cl × Int)) (k0:Addr × Cl × Int) (_:vs=[.ref l,.int k0.2.1.n]) (_:ChIn K H l xs) (_:k0∈xs) (_:0<k0.2.2) (_:∀H',Same H H'->Q .non H')
def zis:FnScope pl16 pl16 (zac zdk):=fsc
include T in
theorem zit(D:Dfn K mg "check_piece" zdk pl16 f fd)(zdt:Cal P w K mg bj "is_piece_of" 2 pl16 (zsb K)):Cal P w K mg bj "check_piece" 3 pl16 (zsc K):=by
 refine D.cal (D.F.ok zis (by walk_at "z") (λc A o s H vs Q E hr h=>?_))
 obtain⟨l,xs,k0,rfl,hI,hk0,p0,q⟩:=h
 refine⟨_,(zaf (zaQ (zbi (zaR (zai zdt hr.o rfl (zaa (pv 0) (zaa (pv 1) zae))))) (zaf aB) zat)),?_⟩
 exact⟨_,rfl,_,rfl,l,xs,k0,rfl,hI,hk0,p0,λH1 s1=>⟨_,rfl,iteF (q H1 s1)⟩⟩
abbrev aC(rs:List (Addr × Addr × Int × List Int)):List (Int × List Int):=rs.map λr=>(r.2.2.1,r.2.2.2)
inductive zpI(K:am)(vs:List V)(H:Hp)(Q:VK)(_:XK):Prop
 | mk (D:Addr) (rs:List (Addr × Addr × Int × List Int)) (_:vs=[.ref D]) (_:IsRun H D rs) (_:(∀r,r∈rs->r.2.2.2.length<=40)) (_:rs.length<=1481) (_:∀d H',Same H H'->H d=none->H' d=some (.dK (dI (zcJ (aC rs) [])))->Q (.ref d) H')
def zjm{rs:List (Addr × Addr × Int × List Int)}{i j:Nat}{t:Int}{ws:List Int}(h1:∀r,r∈rs->r.2.2.2.length<=40)(h2:rs.length<=1481)(h3:ws.length<=40):(dI (zdN t (ws.take j) (zcJ (aC (rs.take i)) []))).length<sizeLine:=by
 have a:=zkc (B:=40) (aC (rs.take i)) [] λr hr=>by
  obtain⟨q,hq,rfl⟩:=mem_map.mp hr
  exact h1 q (qz hq)
 have b:=zhI t (ws.take j) (zcJ (aC (rs.take i)) [])
 rw[tm,sj]at a
 rw[sj]at b
 rw[zrQ]
 have z:(100000:Nat)<=sizeLine:=by decide
 rw[length_nil,qK]at a
 omega
def zpJ{α:Type}{xs:List α}{i:Nat}{x : α}(h:xs[i]?=some x):xs.take (i+1)=xs.take i++[x]:=by
 rw[List.take_succ,h]
 rfl
def zcp:FnScope ["rows","turns","row","number"] ["rows"] (zac zdR):=fsc
include T in
theorem zjn(D:Dfn K mg "last_turns" zdR ["rows"] f fd):Cal P w K mg bj "last_turns" 1 ["rows"] (zpI K):=by
 refine D.cal (D.F.ok zcp (by walk_at "z") (λc A o s H vs Q E hr h=>?_))
 obtain⟨D,rs,rfl,R,l40,l14,q⟩:=h
 refine⟨_,(zab (zam (i:=1) zcp.nd rfl (Or.inl rfl) zfr)
  (zab (zcL tY rfl (zaB (pv 0)) (ay (i:=2) zcp.nd rfl (Or.inl rfl)) (zaf (zcL tY rfl (zaB (zak zah (pv 2) zad (λ_ _=>rfl))) (ay (i:=3) zcp.nd rfl (Or.inl rfl)) (zaf (zfS hr.units1 (pv 1) (pv 3) (zak zah (pv 2) zad (λ_ _=>rfl)) rfl)))))
  (zaf (zaj (pv 1))))),?_⟩
 refine λd H1 s1 n1 h1=>?_
 have mr:(rs.map λr=>V.ref r.1).length=rs.length:=tm _
 refine⟨_,rfl,D,rfl,⟨_,SqL.of (s1 _ _ R.at_)⟩,?_⟩
 refine zcn (K:=K) (a:=D) (xs:=rs.map λr=>V.ref r.1) (λi σ H'=>∃v2 v3:Option V,σ=[some (.ref D),some (.ref d),v2,v3]/\Same H H'/\H' d=some (.dK (dI (zcJ (aC (rs.take i)) []))))
  ⟨_,_,rfl,s1,h1⟩ (λi σ H' _ ⟨_,_,_,s,_⟩=>SqL.of (s _ _ R.at_)) ?_ ?_
 ·rintro i x σ H2 hi ⟨v2,v3,rfl,s2,h2⟩
  obtain⟨r,e,hi⟩:=gmp hi
  cases hi
  have hr:=tE e
  have er:aC (rs.take (i+1))=aC (rs.take i)++[(r.2.2.1,r.2.2.2)]:=by
   rw[zpJ e]
   exact t4
  have mw:(r.2.2.2.map V.int).length=r.2.2.2.length:=tm _
  refine⟨_,rfl,r.1,_,_,_,rfl,rfl,SqT.of (s2 _ _ (R.row r hr)),rfl,r.2.1,rfl,⟨_,SqL.of (s2 _ _ (R.num r hr))⟩,?_⟩
  refine zcn (K:=K) (a:=r.2.1) (xs:=r.2.2.2.map V.int) (λj σ H'=>∃v3:Option V,σ=[some (.ref D),some (.ref d),some (.ref r.1),v3]/\Same H H'/\H' d=some (.dK (dI (zdN r.2.2.1 (r.2.2.2.take j) (zcJ (aC (rs.take i)) [])))))
   ⟨_,rfl,s2,h2⟩ (λj σ H' _ ⟨_,_,s,_⟩=>SqL.of (s _ _ (R.num r hr))) ?_ ?_
  ·rintro j y σ H3 hj ⟨v3,rfl,s3,h3⟩
   obtain⟨n,ej,hj⟩:=gmp hj
   cases hj
   refine⟨_,rfl,r.1,_,_,_,rfl,rfl,SqT.of (s3 _ _ (R.row r hr)),rfl,_,rfl,_,rfl,d,_,rfl,DPut.k (k:=.inl n) h3 (zjm l40 l14 (l40 r hr)),?_⟩
   refine⟨_,rfl,s3.but n1 (But.upd _ _ _),?_⟩
   rw[zar,zrP,zpJ ej,ziQ]
  ·rintro σ H3 ⟨v3,rfl,s3,h3⟩
   rw[mw,ql]at h3
   refine⟨_,_,rfl,s3,?_⟩
   rw[h3,er,ziR]
 ·rintro σ H2 ⟨v2,v3,rfl,s2,h2⟩
  rw[mr,ql]at h2
  exact⟨_,rfl,q d H2 s2 n1 h2⟩
structure LatOf(H:Hp)(d:Addr)(h:Nat)(b:Int)(c:Ch)(L:al):Prop where
 at_:H d=some (.dK (dI L))
 ex:∃N,L=zcJ (runN h N b (bhC [] c)).1 []/\(runN h N b (bhC [] c)).2=[]/\∀k,k<N->(runN h k b (bhC [] c)).2≠[]
 len:(dI L).length<sizeLine
def RunOf.lat{H0 H H':Hp}{h:Nat}{b:Int}{c:Ch}{D d:Addr}{rs:List (Addr × Addr × Int × List Int)}(R:RunOf H0 H h b c D rs)(l40:∀r,r∈rs->r.2.2.2.length<=40)(l14:rs.length<=1481)(hd:H' d=some (.dK (dI (zcJ (aC rs) [])))):LatOf H' d h b c (zcJ (aC rs) []):=by
 obtain⟨n,a1,a2,a3⟩:=R.eq
 have hL:=zjm (i:=rs.length) (j:=0) (t:=0) (ws:=[]) l40 l14 (by decide)
 rw[ql]at hL
 exact⟨hd,⟨n,by rw[<-a1],a2,a3⟩,hL⟩
inductive zmG(K:am)(tT:Addr)(vs:List V)(H:Hp)(Q:VK)(_:XK):Prop
 | mk (l:Addr) (xs:List (Addr × Cl × Int)) (h b:Int) (_:vs=[.ref l,.int h,.int b]) (_:ChIn K H l xs) (_:0<h) (_:0<=b) (_:b<=1000) (_:H tT=some (.tbl zba lamQ)) (_:∀d H' L,Same H H'->H d=none->LatOf H' d h.toNat b (xs.map (·.2)) L->Q (.ref d) H')
def zjo:FnScope pl17 pl17 (zac zdS):=fsc
include T in
theorem zjp(D:Dfn K mg "latest_all" zdS pl17 f fd)(zee:CalD P w K mg bj "run_of" 10 pl14 (ztq K tT))(zbE:Cal P w K mg bj "last_turns" 1 ["rows"] (zpI K)):Cal P w K mg bj "latest_all" 11 pl17 (zmG K tT):=by
 refine D.cal (D.F.ok zjo (by walk_at "z") (λc A o s H vs Q E hr h=>?_))
 obtain⟨l,xs,h,b,rfl,hI,h0,b0,b1,hT,q⟩:=h
 refine⟨_,(zaf (zaj (zai zbE hr.o rfl (zaa (zpb zee hr.o rfl (zaa (pv 0) (zaa (pv 1) (zaa (pv 2) zae)))) zae)))),?_⟩
 refine⟨_,rfl,_,rfl,_,rfl,l,xs,h,b,rfl,hI,h0,b0,b1,hT,λD H1 rs s1 nD R l40 l14=>?_⟩
 exact⟨D,rs,rfl,R.run,l40,l14,λd H2 s2 nd hd=>q d H2 _ (s1.trans s2) (Same.free s1 nd) (R.lat l40 l14 hd)⟩
def LatOf.val{H:Hp}{d:Addr}{h:Nat}{b:Int}{c:Ch}{L:al}(l:LatOf H d h b c L){k:Cl × Int}(hk:k∈c)(pos:0<k.2):∃u,valI L k.1.n=some u:=by
 obtain⟨N,e,n,_⟩:=l.ex
 have hm:k∈bhC [] c:=by
  rw[ztg]
  exact mem_filter.mpr ⟨hk,decide_eq_true pos⟩
 obtain⟨i,_,i2,i3⟩:=zkd (h:=h) (b:=b) (d:=bhC [] c) (j:=k.1.n) N 0 (mem_map.mpr ⟨k,hm,rfl⟩) (λk hk=>bE hk) (by rw[qK];exact n)
 obtain⟨u,h1,_⟩:=zft (L:=[]) (zrR N).1 (.inr ⟨_,zmr (show i<N by omega),rfl,i3⟩)
 exact⟨u,by rw[e];exact h1⟩
inductive zpK(K:am)(tT:Addr)(vs:List V)(H:Hp)(Q:VK)(_:XK):Prop
 | mk (l:Addr) (xs:List (Addr × Cl × Int)) (h b:Int) (k:Addr × Cl × Int) (_:vs=[.ref l,.int h,.int b,.int k.2.1.n]) (_:ChIn K H l xs) (_:0<h) (_:0<=b) (_:b<=1000) (_:H tT=some (.tbl zba lamQ)) (_:k∈xs) (_:0<k.2.2) (_:∀u d H' L,Same H H'->LatOf H' d h.toNat b (xs.map (·.2)) L->valI L k.2.1.n=some u->Q (.int u) H')
def zky:FnScope pl18 pl18 (zac zeB):=fsc
include T in
theorem zkz(D:Dfn K mg "latest_of" zeB pl18 f fd)(zdu:Cal P w K mg bj "check_piece" 3 pl16 (zsc K))(zdY:Cal P w K mg bj "latest_all" 11 pl17 (zmG K tT)):Cal P w K mg bj "latest_of" 12 pl18 (zpK K tT):=by
 refine D.cal (D.F.ok zky (by walk_at "z") (λc A o s H vs Q E hr h=>?_))
 obtain⟨l,xs,h,b,k,rfl,hI,h0,b0,b1,hT,hk,p,q⟩:=h
 refine⟨_,(zab (zbw (zai zdu hr.o rfl (zaa (pv 0) (zaa (pv 3) zae))))
  (zaf (zaj (zcT hr.units1 (zai zdY hr.o rfl (zaa (pv 0) (zaa (pv 1) (zaa (pv 2) zae)))) (pv 3) (λ_ _=>rfl))))),?_⟩
 refine⟨_,rfl,_,rfl,l,xs,k,rfl,hI,hk,p,λH1 s1=>?_⟩
 refine⟨_,rfl,_,rfl,_,rfl,l,xs,h,b,rfl,hI.same s1,h0,b0,b1,s1 _ _ hT,λd H2 L s2 nd hA=>?_⟩
 obtain⟨u,hu⟩:=hA.val (mem_map.mpr ⟨k,hk,rfl⟩) p
 have g:=ziS (.inl hA.at_) k.2.1.n
 rw[hu]at g
 exact⟨_,rfl,d,_,rfl,g,q u d H2 L (s1.trans s2) hA hu⟩
inductive zsd(K:am)(tT:Addr)(vs:List V)(H:Hp)(Q:VK)(_:XK):Prop
 | mk (l:Addr) (xs:List (Addr × Cl × Int)) (h b:Int) (a:Addr) (tl:al) (_:vs=[.ref l,.int h,.int b,.ref a]) (_:ChIn K H l xs) (_:0<h) (_:0<=b) (_:b<=1000) (_:H tT=some (.tbl zba lamQ)) (_:Rd H a (.dK (dI tl))) (_:∀D H' rs,Same H H'->H D=none->RunOf H H' h.toNat b (xs.map (·.2)) D rs->(∀r,r∈rs->r.2.2.2.length<=40)->rs.length<=1481->(zhJ (zcJ (aC rs) []) tl=[]->Q .non H')/\∀M v u p,M∈zhJ (zcJ (aC rs) []) tl->(∀y,y∈zhJ (zcJ (aC rs) []) tl->M<=y)->valI tl M=some v->valI (zcJ (aC rs) []) M=some u->H p=none->H' p=some (.tup [.int M,.int v,.int u,.ref D])->Q (.ref p) H')
def zcF:FnScope ["chores","hands","begin","told","run","turns","late","least"] pl19 (zac zgg):=fsc
include T in
theorem zlz(D:Dfn K mg "kept_all" zgg pl19 f fd)(zee:CalD P w K mg bj "run_of" 10 pl14 (ztq K tT))(zbE:Cal P w K mg bj "last_turns" 1 ["rows"] (zpI K)):Cal P w K mg bj "kept_all" 11 pl19 (zsd K tT):=by
 refine D.cal (D.F.ok zcF (by walk_at "z") (λc A o s H vs Q E hr h=>?_))
 obtain⟨l,xs,h,b,a,tl,rfl,hI,h0,b0,b1,hT,hd,q⟩:=h
 refine⟨_,(zab (zam (i:=4) zcF.nd rfl (Or.inl rfl) (zpb zee hr.o rfl (zaa (pv 0) (zaa (pv 1) (zaa (pv 2) zae)))))
  (zab (zam (i:=5) zcF.nd rfl (Or.inr rfl) (zai zbE hr.o rfl (zaa (pv 4) zae)))
  (zab (zet (i:=6) (N:=["number","told","turns"]) (js:=[3,5]) zcF.nd rfl rfl rfl cpo (zpf (pv 5)) (λ_ _ _ _ _=>(zcN (PW.pt (zhh (zan (zuH hr.units1) (pv 0) (pv 1) rfl) (zeq (zan zei (zcT hr.units1 (pv 2) (pv 0) (λ_ _=>rfl)) (zcT hr.units1 (pv 1) (pv 0) (λ_ _=>rfl)) (zas _))))))) (λ_ _ _ _ _=>(pv 0)))
  (zab (zaQ (zan zdd (zau zaH rfl T.zdW zcm (zaa (pv 6) zae)) zad (zas _)) (zaf (zaj zdC)) zat)
  (zab (zam (i:=7) zcF.nd rfl (Or.inl rfl) (zau (zoy rfl) rfl T.zvV zud (zaa (pv 6) zae)))
  (zaf (zaj (zaK (pai (zag (pv 7) (zag (zcT hr.units1 (pv 3) (pv 7) (λ_ _=>rfl)) (zag (zcT hr.units1 (pv 5) (pv 7) (λ_ _=>rfl)) (zag (pv 4) zbd))))))))))))),?_⟩
 refine⟨_,rfl,_,rfl,_,rfl,l,xs,h,b,rfl,hI,h0,b0,b1,hT,λD H1 rs s1 nD R l40 l14=>?_⟩
 refine⟨_,rfl,D,rs,rfl,R.run,l40,l14,λd H2 s2 nd hd2=>?_⟩
 refine⟨_,rfl,d,_,rfl,.inl hd2,λob H3 k3 h3=>?_⟩
 have nd0:H d=none:=Same.free s1 nd
 have s3:Same H H3:=(s1.trans s2).but nd0 k3
 have s13:Same H1 H3:=s2.but nd k3
 have R3:RunOf H H3 h.toNat b (xs.map (·.2)) D rs:=⟨R.run.same s13,R.new,R.ne,R.eq⟩
 have hL:=zjm (i:=rs.length) (j:=0) (t:=0) (ws:=[]) l40 l14 (by decide)
 rw[ql]at hL
 have hL:(dI (zcJ (aC rs) [])).length<sizeLine:=hL
 have q:=λ(H':Hp)(s:Same H H')(R':RunOf H H' h.toNat b (xs.map (·.2)) D rs)=>q D H' rs s nD R' l40 l14
 generalize zcJ (aC rs) []=L at hd2 h3 hL q
 refine zpg (tak L λp=>zng L tl p.1) (itm L λp=>V.int p.1) h3 ?_ ?_ hL (λD4 H4 s4 nD4 hD4=>?_)
 ·intro i kv Hh Q' hi sh q'
  unfold dI at hi
  obtain⟨p,e,hi⟩:=gmp hi
  cases hi
  have z:=q' Hh (Same.refl _)
  unfold tak at z
  rw[e]at z
  have z:Q' (zng L tl p.1) Hh:=z
  unfold zng at z
  obtain⟨u,hu⟩:=zmq (tE e)
  refine⟨_,rfl,_,rfl,a,_,rfl,ziS (hd.same (s3.trans sh)) p.1,_,rfl,?_⟩
  cases ev:valI tl p.1 with
  | none=>
    rw[ev]at z
    exact iteF z
  | some v=>
    rw[ev,hu]at z
    refine iteT ?_
    have g1:=ziS (.inr ⟨ob,sh _ _ h3⟩) p.1
    have g2:=ziS (hd.same (s3.trans sh)) p.1
    rw[hu]at g1
    rw[ev]at g2
    exact⟨_,rfl,_,rfl,d,_,rfl,g1,_,rfl,_,rfl,a,_,rfl,g2,_,_,rfl,rfl,_,rfl,z⟩
 ·intro i kv Hh Q' hi _ sh q'
  unfold dI at hi
  obtain⟨p,e,hi⟩:=gmp hi
  cases hi
  have z:=q' Hh (Same.refl _)
  unfold itm at z
  rw[e]at z
  exact⟨_,rfl,z⟩
 rw[zrQ,zdM,zpi]at hD4
 have mlate:((zhJ L tl).map V.int).length=(zhJ L tl).length:=tm _
 have s04:=s3.trans s4
 have R4:RunOf H H4 h.toNat b (xs.map (·.2)) D rs:=⟨R3.run.same s4,R3.new,R3.ne,R3.eq⟩
 have g1:=λM=>ziS (.inr ⟨ob,s4 _ _ h3⟩) M
 have g2:=λM=>ziS (hd.same s04) M
 refine⟨_,rfl,D4,_,rfl,.inl (SqL.of hD4),rfl,_,rfl,?_⟩
 rw[mlate]
 refine ite2 (λc=>?_) (λc=>?_)
 ·have c0:=V.int.inj (tP c)
  exact(q H4 s04 R4).1 (rN (by omega))
 ·have c0:0<(zhJ L tl).length:=Nat.pos_of_ne_zero λz=>c (decide_eq_true (by rw[z];rfl))
  refine⟨_,rfl,D4,zhJ L tl,rfl,SqL.of hD4,c0,λM hM hmin=>?_⟩
  obtain⟨v,u,ev,eu,_⟩:=zrc hM
  have g1:=g1 M
  have g2:=g2 M
  rw[eu]at g1
  rw[ev]at g2
  refine⟨_,rfl,_,rfl,_,rfl,a,_,rfl,g2,_,rfl,_,rfl,d,_,rfl,g1,_,rfl,si4,λp H5 s5 n5 h5=>?_⟩
  exact(q H5 (s04.trans s5) ⟨R4.run.same s5,R4.new,R4.ne,R4.eq⟩).2 M v u p hM hmin ev eu (Same.free s04 n5) h5
structure Hv where
 rs:List SR
 h:Int
 t:Int
 ps:List (Addr × Wd × Pv)
 nb:List (Key × V)
 aS:Addr
 aP:Addr
 aN:Addr
 aR:Addr
def Hv.fs(v:Hv):List (Str × V):=[("sorts",.ref v.aS),("hands",.int v.h),("turn",.int v.t),("pieces",.ref v.aP),("numbers",.ref v.aN),("rows",.ref v.aR)]
structure IsPs(cs:CsA)(H:Hp)(l:Addr)(ps:List (Addr × Wd × Pv)):Prop where
 at_:H l=some (.lst (ps.map λq=>V.ref q.1))
 pc:∀q,q∈ps->IsPc cs H q.1 q.2.1 q.2.2
def IsPs.same{cs:CsA}{H H':Hp}{l:Addr}{ps:List (Addr × Wd × Pv)}(s:Same H H')(h:IsPs cs H l ps):IsPs cs H' l ps:=⟨s _ _ h.at_,λq hq=>(h.pc q hq).same s⟩
structure HsP(cs:CsA)(cS:Addr)(H:Hp)(v:Hv):Prop where
 st:IsSt cS H v.aS v.rs
 ps:IsPs cs H v.aP v.ps
 nb:H v.aN=some (.dK v.nb)
 rw:∃rw,H v.aR=some (.lst rw)/\rw.length=v.t.toNat
def HsP.same{cs:CsA}{cS:Addr}{H H':Hp}{v:Hv}(s:Same H H')(h:HsP cs cS H v):HsP cs cS H' v:=⟨h.st.same s,h.ps.same s,s _ _ h.nb,let ⟨rw,a,b⟩:=h.rw;⟨rw,s _ _ a,b⟩⟩
structure IsHs(cs:CsA)(cS cH:Addr)(H:Hp)(o:Addr)(v:Hv):Prop where
 at_:∃dx,H o=some (.ins cH dx v.fs)
 p:HsP cs cS H v
def IsHs.same{cs:CsA}{cS cH:Addr}{H H':Hp}{o:Addr}{v:Hv}(s:Same H H')(h:IsHs cs cS cH H o v):IsHs cs cS cH H' o v:=⟨let ⟨dx,e⟩:=h.at_;⟨dx,s _ _ e⟩,h.p.same s⟩
def HsP.but{cs:CsA}{cS cH o dx:Addr}{H H':Hp}{v v0:Hv}(ho:H o=some (.ins cH dx v0.fs))(k:But o H H')(h:HsP cs cS H v):HsP cs cS H' v:=by
 have nl:∀ {z xs},H z=some (.lst xs)->z≠o:=λe z=>by rw[z,ho]at e;cases e
 have nt:∀ {z xs},H z=some (.tup xs)->z≠o:=λe z=>by rw[z,ho]at e;cases e
 have nk:∀ {z xs},H z=some (.dK xs)->z≠o:=λe z=>by rw[z,ho]at e;cases e
 obtain⟨sdx,l,xs,e1,e2,e3⟩:=h.st
 obtain⟨rw,r1,r2⟩:=h.rw
 refine⟨⟨sdx,l,xs,k _ _ (λz=>?_) e1,⟨k _ _ (nl e2.at_) e2.at_,λq hq=>?_⟩,e3⟩,⟨k _ _ (nl h.ps.at_) h.ps.at_,λq hq=>?_⟩,k _ _ (nk h.nb) h.nb,rw,k _ _ (nl r1) r1,r2⟩
 ·rw[z,ho]at e1
  cases e1
 ·obtain⟨pw,ps,a,b,c⟩:=e2.sr q hq
  exact⟨pw,ps,k _ _ (nt a) a,k _ _ (nt b) b,k _ _ (nt c) c⟩
 ·obtain⟨pdx,e⟩:=h.ps.pc q hq
  refine⟨pdx,k _ _ (λz=>?_) e⟩
  rw[z,ho]at e
  have e:=tL e
  injection e with _ _ e
  unfold Hv.fs Pv.fs at e
  injection e with e _
  have:(Str.ofString "sorts")=Str.ofString "number" := (Prod.mk.inj e).1
  revert this
  decide +kernel
def zfC(rs:List SR)(nm:Str):SR:=(rs.find? λr=>decide (r.nm=nm)).getD ⟨"",0,1,0,1,1,1⟩
def chV(rs:List SR)(ps:List (Addr × Wd × Pv)):Ch:=(ps.filter λq=>q.2.1.opn).map λq=>(clOf q.2.2 (zfC rs q.2.2.nm).low,q.2.2.left q.2.1)
structure PsOk(rs:List SR)(ps:List (Addr × Wd × Pv)):Prop where
 rl:rs.length<=8
 ro:∀r,r∈rs->r.Ok
 nm:∀(i:Nat) q,ps[i]?=some q->q.2.2.n=i
 ok:∀q,q∈ps->q.2.2.Ok/\0<=q.2.2.left q.2.1/\q.2.2.left q.2.1<=12/\0<=q.2.2.came/\q.2.2.came<=1000
 fd:∀q,q∈ps->zpE rs q.2.2.nm (zfC rs q.2.2.nm)
 len:ps.length<=200
 op:(ps.filter λq=>q.2.1.opn).length<=40
def PsOk.nd{rs:List SR}{ps:List (Addr × Wd × Pv)}(h:PsOk rs ps):(ps.map (·.2.2.n)).Nodup:=by
 rw[rj,pV,qR]
 intro i j hi hj lt e
 rw[h.nm i _ (tj hi),h.nm j _ (tj hj)]at e
 omega
def zuY{p:Pv}{r:SR}(n0:0<=p.n)(c0:0<=p.came)(c1:p.came<=1000)(o:r.Ok):(clOf p r.low).Ok:=by
 have l:=o.low
 exact⟨n0,l.a0,l.a1,l.b0,l.b1,l.c0,l.c1,l.d0,l.d1,c0,by show p.came<=_;omega⟩
def PsOk.n0{rs:List SR}{ps:List (Addr × Wd × Pv)}(h:PsOk rs ps):∀q,q∈ps->0<=q.2.2.n:=λq hq=>by
 obtain⟨i,hi,e⟩:=t6 hq
 have:=h.nm i q (by rw[tj hi,e])
 omega
def zuZ{rs:List SR}{ps:List (Addr × Wd × Pv)}(h:PsOk rs ps){H:Hp}{D:Addr}{bs:List (Addr × Cl × Int)}(hD:H D=some (.lst (bs.map λb=>V.ref b.1)))(eb:bs.map (·.2)=chV rs ps)(hb:∀b,b∈bs->IsCh K H b.1 b.2):ChIn K H D bs:=by
 have mem:∀b,b∈bs->∃q,q∈ps/\b.2=(clOf q.2.2 (zfC rs q.2.2.nm).low,q.2.2.left q.2.1):=λb hb=>by
  have:b.2∈bs.map (·.2):=mem_map.mpr ⟨b,hb,rfl⟩
  rw[eb]at this
  obtain⟨q,hq,e⟩:=mem_map.mp this
  exact⟨q,(mem_filter.mp hq).1,e.symm⟩
 refine⟨⟨hD,hb⟩,?_,λb hb'=>?_,?_⟩
 ·have:=tW List.length eb
  unfold chV at this
  rw[tm,tm]at this
  rw[this]
  exact h.op
 ·obtain⟨q,hq,e⟩:=mem b hb'
  obtain⟨_,l0,l1,c0,c1⟩:=h.ok q hq
  rw[e]
  exact⟨zuY (h.n0 q hq) c0 c1 (h.ro _ (h.fd q hq).1),l0,l1,c1⟩
 ·have e2:bs.map (·.2.1.n)=(ps.filter λq=>q.2.1.opn).map (·.2.2.n):=by
   have:=tW (List.map λx:Cl × Int=>x.1.n) eb
   unfold chV at this
   rw[t5,t5]at this
   exact this
  rw[e2]
  exact h.nd.sublist (filter_sublist.map _)
inductive zgx(K:am)(cs:CsA)(cS:Addr)(vs:List V)(H:Hp)(Q:VK)(_:XK):Prop
 | mk (l s:Addr) (ps:List (Addr × Wd × Pv)) (rs:List SR) (_:vs=[.ref l,.ref s]) (_:IsPs cs H l ps) (_:IsSt cS H s rs) (_:PsOk rs ps) (_:∀D H' xs,Same H H'->H D=none->ChIn K H' D xs->xs.map (·.2)=chV rs ps->Q (.ref D) H')
def zpL{H H':Hp}{u:Addr}{c:Cl × Int}(t:Tups H H')(h:IsCh K H u c):IsCh K H' u c:=by
 obtain⟨p,a,b⟩:=h.ex
 obtain⟨pw,ps,x,y,z⟩:=b.ex
 exact⟨p,t _ _ a,⟨pw,ps,t _ _ x,t _ _ y,t _ _ z⟩⟩
def zkA:FnScope pl20 pl20 (zac zeE):=fsc
include T in
theorem zkB(D:Dfn K mg "chores_of" zeE pl20 f fd)(zgy:Cal P w K mg bj "chore_of" 9 pl8 (zpF K (CsA.mk Aa Ad Ab) Ae))(Bk:∀d,MOk CX0 P w K mg bj 1 (CsA.cl (CsA.mk Aa Ad Ab) d) "is_open" (zmA (CsA.mk Aa Ad Ab) d)):Cal P w K mg bj "chores_of" 10 pl20 (zgx K (CsA.mk Aa Ad Ab) Ae):=by
 refine D.cal (D.F.ok zkA (by walk_at "z") (λc A o s H vs Q E hr h=>?_))
 obtain⟨l,s,ps,rs,rfl,hP,hS,ok,q⟩:=h
 refine⟨_,(zaf (zaj (zaN (N:=pl8) (js:=[1]) rfl cpo (zaB (pv 0)) (λ_ _ _ _ _=>(zcN (zaR (zmv (P:=P) (w:=w) (K:=K) (mg:=mg) (bj:=bj) (k:=1) rfl rfl rfl rfl rfl (pv 0) hr.o zaT)))) (λ_ _ _ _ _=>(zai zgy hr.o rfl (zaa (pv 0) (zaa (pv 1) zae))))))),?_⟩
 have ml:(ps.map λq=>V.ref q.1).length=ps.length:=tm _
 refine⟨_,rfl,l,rfl,⟨_,SqL.of hP.at_⟩,?_⟩
 refine zmy (xs:=ps.map λq=>V.ref q.1) (tak ps λq=>q.2.1.opn) (itG ps (λq=>(clOf q.2.2 (zfC rs q.2.2.nm).low,q.2.2.left q.2.1)) (⟨0,0,0,0,0,0⟩,0)) (IsCh K) (λH H' u c t h=>zpL t h) (SqL.of hP.at_) ?_ ?_ (zax (by rw[ml];have:=ok.len;omega)) (λD H1 bs s1 nD hD eb hb=>?_)
 ·intro i x Hh Q' hx sh q'
  obtain⟨z,e,hx⟩:=gmp hx
  cases hx
  have zz:=q' Hh (Same.refl _)
  unfold tak at zz
  rw[e]at zz
  obtain⟨dx,ez⟩:=(hP.pc z (tE e)).same sh
  exact⟨_,rfl,z.1,_,dx,_,_,rfl,ez,rfl,Bk z.2.1,z.1,z.2.2,rfl,⟨dx,ez⟩,_,rfl,zz⟩
 ·intro i x Hh Q' hx _ sh q'
  obtain⟨z,e,hx⟩:=gmp hx
  cases hx
  have hz:=tE e
  unfold itG at q'
  rw[e]at q'
  refine⟨_,rfl,_,rfl,z.1,s,z.2.1,z.2.2,rs,_,rfl,(hP.pc z hz).same sh,(ok.ok z hz).1,hS.same sh,ok.rl,ok.ro,ok.fd z hz,λt u H' s' hu ht=>q' u H' s' ⟨t,hu,ht⟩⟩
 rw[ml,zhN]at eb
 exact q D H1 bs s1 nD (zuZ ok hD eb hb) eb
def IsGr(cG:Addr)(H:Hp)(a:Addr)(n:V):Prop:=∃dx,H a=some (.ins cG dx [("number",n)])
inductive zmH(K:am)(vs:List V)(H:Hp)(Q:VK)(_:XK):Prop
 | mk (x C dx:Addr) (n:V) (_:vs=[.ref x,n]) (_:H x=some (.ins C dx [])) (_:Cls K C) (_:zal K C "number") (_:∀H',But x H H'->H' x=some (.ins C dx [("number",n)])->Q .non H')
inductive zpM(cG:Addr)(vs:List V)(H:Hp)(Q:VK)(_:XK):Prop
 | mk (n:V) (_:vs=[n]) (_:∀a H',Same H H'->H a=none->IsGr cG H' a n->Q (.ref a) H')
def zva{cG:Addr}(cl:Cls K cG)(no:zal K cG "number"):∀vs H Q E,zpM cG vs H Q E->∀y dx,H y=none->H dx=none->dx≠y->zmH K (.ref y::vs) (upd (upd H dx (.own y)) y (.ins cG dx [])) (λv H2=>v=.non/\Q (.ref y) H2) E:=by
 rintro vs H Q E ⟨n,rfl,q⟩ y dx ny nd ne
 have up:Same H (upd (upd H dx (.own y)) y (.ins cG dx [])):=λz o h=>by
  rw[zaw (zaA h ny),zaw (zaA h nd)]
  exact h
 exact⟨y,cG,dx,n,rfl,zar,cl,no,λH' k e=>⟨rfl,q y H' (λw o hw=>k w o (zaA hw ny) (up w o hw)) ny ⟨dx,e⟩⟩⟩
def zeV:FnScope pl21 pl21 (zac zbK):=fsc
include T in
theorem zeW(D:Mfn K "__init__" "Granted.__init__" zbK pl21 f fd):FnOk P w K mg bj CX0 1 f fd pl21 (zmH K):=by
 refine D.F.ok zeV (by walk_at "z") (λc A o s H vs Q E hr h=>?_)
 obtain⟨x,C,dx,n,rfl,hx,cl,no,q⟩:=h
 refine⟨_,(zaf (zaM (pv 0) (pv 1))),?_⟩
 exact⟨_,rfl,_,rfl,x,C,dx,_,rfl,hx,cl,no,(by show(0:Nat)<1000;decide),λH1 k1 h1=>q H1 k1 h1⟩
inductive zkC(cG:Addr)(vs:List V)(H:Hp)(Q:VK)(_:XK):Prop
 | mk (a:Addr) (n:V) (_:vs=[.ref a]) (_:IsGr cG H a n) (_:Q (.bl true) H)
def zfD:FnScope pl2 pl2 (zac bS):=fsc
include T in
theorem zfE(D:Mfn K "granted" "Granted.granted" bS pl2 f fd):FnOk P w K mg bj CX0 1 f fd pl2 (zkC Ag):=by
 refine D.F.ok zfD (by walk_at "z") (λc A o s H vs Q E hr h=>?_)
 obtain⟨a,n,rfl,hg,q⟩:=h
 exact⟨_,(zaf (zaj zdG)),q⟩
def IsLt(cL:Addr)(H:Hp)(a:Addr):Prop:=∃dx n d t r,H a=some (.ins cL dx [("number",n),("due",d),("turn",t),("run",r)])
inductive zse(cL:Addr)(vs:List V)(H:Hp)(Q:VK)(_:XK):Prop
 | mk (a:Addr) (_:vs=[.ref a]) (_:IsLt cL H a) (_:Q (.bl false) H)
def zfF:FnScope pl2 pl2 (zac bU):=fsc
include T in
theorem zfG(D:Mfn K "granted" "LateOne.granted" bU pl2 f fd):FnOk P w K mg bj CX0 1 f fd pl2 (zse Af):=by
 refine D.F.ok zfF (by walk_at "z") (λc A o s H vs Q E hr h=>?_)
 obtain⟨a,rfl,hg,q⟩:=h
 exact⟨_,(zaf (zaj zdG)),q⟩
inductive zfH(vs:List V)(H:Hp)(Q:VK)(_:XK):Prop
 | mk (l:Addr) (rs:List (Addr × Addr × Int × List Int)) (_:vs=[.ref l]) (_:IsRun H l rs) (_:rs.length<=2000) (_:∀D H' rs',Same H H'->H D=none->IsRun H' D rs'->rs'.map (·.2.2)=rs.map (·.2.2)->(∀r,r∈rs'->H r.1=none/\H r.2.1=none)->Q (.ref D) H')
def zrm{rs:List (Addr × Addr × Int × List Int)}{bs:List (Addr × Addr)}(l:bs.length=rs.length):((bs.zip rs).map λz=>V.ref (z.1.1,z.1.2,z.2.2.2.1,z.2.2.2.2).1)=bs.map (λb=>V.ref b.1)/\(bs.zip rs).map (λz=>(z.2.2.2.1,z.2.2.2.2))=rs.map (·.2.2):=by
 constructor
 ·rw[show(λz:(Addr × Addr) × (Addr × Addr × Int × List Int)=>V.ref (z.1.1,z.1.2,z.2.2.2.1,z.2.2.2.2).1)=(λb:Addr × Addr=>V.ref b.1) ∘ Prod.fst from rfl,<-t5,List.map_fst_zip (by omega)]
 ·rw[show(λz:(Addr × Addr) × (Addr × Addr × Int × List Int)=>(z.2.2.2.1,z.2.2.2.2))=(λr:Addr × Addr × Int × List Int=>r.2.2) ∘ Prod.snd from rfl,<-t5,pQ (by omega)]
def zlA:FnScope ["rows"] ["rows"] (zac zgk):=fsc
include T in
theorem zlB(D:Dfn K mg "own_rows" zgk ["rows"] f fd):Cal P w K mg bj "own_rows" 1 ["rows"] zfH:=by
 refine D.cal (D.F.ok zlA (by walk_at "z") (λc A o s H vs Q E hr h=>?_))
 obtain⟨l,rs,rfl,hR,len,q⟩:=h
 refine⟨_,(zaf (zaj (zaN (N:=["row"]) (js:=[]) rfl cpo (zaB (pv 0)) (λ_ _ _ _ _=>zbx) (λ_ _ _ _ _=>(zaK (zaa (zak (r:=rIxT K) zah (pv 0) zad (λ_ _=>rfl)) (zaa (zfm (znj (K:=K) rfl) rfl T.zhS zer (zaa (zak (r:=rIxT K) zah (pv 0) zad (λ_ _=>rfl)) zae)) zae))))))),?_⟩
 have big:(10000:Nat)<=sizeLine:=by decide
 refine⟨_,rfl,l,rfl,⟨_,SqL.of hR.at_⟩,?_⟩
 refine znl (xs:=rs.map λr=>V.ref r.1) (λi=>V.int (rs.getD i (0,0,0,[])).2.2.1) (λi=>((rs.getD i (0,0,0,[])).2.2.2).map V.int) (SqL.of hR.at_) (λi x Hh Q' hx sh q'=>q' Hh (Same.refl _)) ?_ (by rw[tm];omega) (λD H1 bs s1 nD hD lb hb=>?_)
 ·intro i x Hh Q' hx sh q'
  obtain⟨r,e,hx⟩:=gmp hx
  cases hx
  have hr':=tE e
  have h1:=sh _ _ (hR.row r hr')
  have h2:=sh _ _ (hR.num r hr')
  rw[show rs.getD i (0,0,0,[])=r by rw[tK,e];rfl]at q'
  exact⟨_,rfl,r.1,_,_,_,rfl,rfl,SqT.of h1,rfl,_,rfl,r.1,_,_,_,rfl,rfl,SqT.of h1,rfl,r.2.1,_,rfl,.inl (SqL.of h2),λlx Hx sx nx hx=>⟨si2,λp H3 s3 n3 h3=>q' p lx H3 (sx.trans s3) nx (Same.free sx n3) h3 (s3 _ _ hx)⟩⟩
 rw[tm]at lb
 obtain⟨z1,z2⟩:=zrm (rs:=rs) (bs:=bs) lb
 have mem:∀{z:(Addr × Addr) × (Addr × Addr × Int × List Int)},z∈bs.zip rs->H1 z.1.1=some (.tup [.int z.2.2.2.1,.ref z.1.2])/\H1 z.1.2=some (.lst (z.2.2.2.2.map V.int))/\H z.1.1=none/\H z.1.2=none:=λ{z} hz=>by
  obtain⟨i,hi,ez⟩:=t6 hz
  have hz':(bs.zip rs)[i]?=some z:=by rw[tj hi,ez]
  rw[qc]at hz'
  have:=hb i z.1 hz'.1
  rw[show rs.getD i (0,0,0,[])=z.2 by rw[tK,hz'.2];rfl]at this
  exact this
 refine q D H1 ((bs.zip rs).map λz=>(z.1.1,z.1.2,z.2.2.2.1,z.2.2.2.2)) s1 nD ⟨?_,λr hr=>?_,λr hr=>?_⟩ ?_ λr hr=>?_
 ·rw[hD,t5,<-z1]
  rfl
 ·obtain⟨z,hz,rfl⟩:=mem_map.mp hr
  exact(mem hz).1
 ·obtain⟨z,hz,rfl⟩:=mem_map.mp hr
  exact(mem hz).2.1
 ·rw[t5]
  exact z2
 ·obtain⟨z,hz,rfl⟩:=mem_map.mp hr
  exact(mem hz).2.2
def ltN:List Str:=["number","due","turn","run"]
def noL{C:Addr}(a:zal K C "number")(b:zal K C "due")(c:zal K C "turn")(d:zal K C "run"):∀g,g∈ltN->zal K C g:=λg hg=>by
 rcases mem_cons.mp hg with rfl | hg
 ·exact a
 rcases mem_cons.mp hg with rfl | hg
 ·exact b
 rcases mem_cons.mp hg with rfl | hg
 ·exact c
 rw[mem_singleton.mp hg]
 exact d
inductive zmI(K:am)(vs:List V)(H:Hp)(Q:VK)(_:XK):Prop
 | mk (x C dx l:Addr) (n d t:V) (rs:List (Addr × Addr × Int × List Int)) (_:vs=[.ref x,n,d,t,.ref l]) (_:H x=some (.ins C dx [])) (_:Cls K C) (_:(∀f,f∈ltN->zal K C f)) (_:IsRun H l rs) (_:rs.length<=2000) (_:∀H' r,But x H H'->H' x=some (.ins C dx [("number",n),("due",d),("turn",t),("run",r)])->Q .non H')
inductive zpN(cL:Addr)(vs:List V)(H:Hp)(Q:VK)(_:XK):Prop
 | mk (l:Addr) (n d t:V) (rs:List (Addr × Addr × Int × List Int)) (_:vs=[n,d,t,.ref l]) (_:IsRun H l rs) (_:rs.length<=2000) (_:∀a H',Same H H'->H a=none->IsLt cL H' a->Q (.ref a) H')
def zvb{cL:Addr}(cl:Cls K cL)(no:∀f,f∈ltN->zal K cL f):∀vs H Q E,zpN cL vs H Q E->∀y dx,H y=none->H dx=none->dx≠y->zmI K (.ref y::vs) (upd (upd H dx (.own y)) y (.ins cL dx [])) (λv H2=>v=.non/\Q (.ref y) H2) E:=by
 rintro vs H Q E ⟨l,n,d,t,rs,rfl,hR,len,q⟩ y dx ny nd ne
 have up:Same H (upd (upd H dx (.own y)) y (.ins cL dx [])):=λz o h=>by
  rw[zaw (zaA h ny),zaw (zaA h nd)]
  exact h
 exact⟨y,cL,dx,l,n,d,t,rs,rfl,zar,cl,no,hR.same up,len,λH' r k e=>⟨rfl,q y H' (λw o hw=>k w o (zaA hw ny) (up w o hw)) ny ⟨dx,n,d,t,r,e⟩⟩⟩
def ztr{H H':Hp}{x C dx l:Addr}{fs:List (Str × V)}{rs:List (Addr × Addr × Int × List Int)}(hx:H x=some (.ins C dx fs))(k:But x H H')(h:IsRun H l rs):IsRun H' l rs:=
 ⟨k _ _ (λz=>by have:=h.at_;rw[z,hx]at this;cases this) h.at_,λr hr=>k _ _ (λz=>by have:=h.row r hr;rw[z,hx]at this;cases this) (h.row r hr),λr hr=>k _ _ (λz=>by have:=h.num r hr;rw[z,hx]at this;cases this) (h.num r hr)⟩
def zeX:FnScope pl22 pl22 (zac zbL):=fsc
include T in
theorem zeY(D:Mfn K "__init__" "LateOne.__init__" zbL pl22 f fd)(zbu:Cal P w K mg bj "own_rows" 1 ["rows"] zfH):FnOk P w K mg bj CX0 2 f fd pl22 (zmI K):=by
 refine D.F.ok zeX (by walk_at "z") (λc A o s H vs Q E hr h=>?_)
 obtain⟨x,C,dx,l,n,d,t,rs,rfl,hx,cl,no,hR,len,q⟩:=h
 refine⟨_,(zab (zaM (pv 0) (pv 1))
  (zab (zaM (pv 0) (pv 2))
  (zab (zaM (pv 0) (pv 3))
  (zaf (zaM (pv 0) (zai zbu hr.o rfl (zaa (pv 4) zae))))))),?_⟩
 refine⟨_,rfl,_,rfl,x,C,dx,_,rfl,hx,cl,no _ (by decide),(by show(0:Nat)<1000;decide),λH1 k1 h1=>?_⟩
 have h1:H1 x=some (.ins C dx [("number",n)]):=h1
 refine⟨_,rfl,_,rfl,x,C,dx,_,rfl,h1,cl,no _ (by decide),(by show(1:Nat)<1000;decide),λH2 k2 h2=>?_⟩
 have h2:H2 x=some (.ins C dx [("number",n),("due",d)]):=h2
 refine⟨_,rfl,_,rfl,x,C,dx,_,rfl,h2,cl,no _ (by decide),(by show(2:Nat)<1000;decide),λH3 k3 h3=>?_⟩
 have h3:H3 x=some (.ins C dx [("number",n),("due",d),("turn",t)]):=h3
 have k13:=k1.trans (k2.trans k3)
 refine⟨_,rfl,l,rs,rfl,ztr hx k13 hR,len,λD H4 rs4 s4 n4 _ _ _=>?_⟩
 exact⟨_,rfl,x,C,dx,_,rfl,s4 _ _ h3,cl,no _ (by decide),(by show(3:Nat)<1000;decide),λH5 k5 h5=>q H5 (.ref D) (k13.trans (s4.toBut.trans k5)) h5⟩
def IsSt.butI{ct:Addr}{H H':Hp}{a x C dx:Addr}{rs:List SR}{fs:List (Str × V)}(hx:H x=some (.ins C dx fs))(ax:a≠x)(k:But x H H')(h:IsSt ct H a rs):IsSt ct H' a rs:=by
 obtain⟨sdx,m,zs,e1,e2,e3⟩:=h
 refine⟨sdx,m,zs,k _ _ ax e1,e2.but k hx (λ_ z=>by cases z) (λz=>?_),e3⟩
 have:=e2.at_
 rw[z,hx]at this
 cases this
def hsN:List Str:=["sorts","hands","turn","pieces","numbers","rows"]
def noH{C:Addr}(a:zal K C "sorts")(b:zal K C "hands")(c:zal K C "turn")(d:zal K C "pieces")(e:zal K C "numbers")(f:zal K C "rows"):∀g,g∈hsN->zal K C g:=λg hg=>by
 rcases mem_cons.mp hg with rfl | hg
 ·exact a
 rcases mem_cons.mp hg with rfl | hg
 ·exact b
 rcases mem_cons.mp hg with rfl | hg
 ·exact c
 rcases mem_cons.mp hg with rfl | hg
 ·exact d
 rcases mem_cons.mp hg with rfl | hg
 ·exact e
 rw[mem_singleton.mp hg]
 exact f
structure New(v:Hv)(rs:List SR)(h:Int):Prop where
 rs:v.rs=rs
 h:v.h=h
 t:v.t=0
 ps:v.ps=[]
 nb:v.nb=[]
inductive zmJ(K:am)(cs:CsA)(cS:Addr)(vs:List V)(H:Hp)(Q:VK)(_:XK):Prop
 | mk (x C dx l:Addr) (xs:List (Addr × SR)) (h:Int) (_:vs=[.ref x,.ref l,.int h]) (_:H x=some (.ins C dx [])) (_:Cls K C) (_:(∀f,f∈hsN->zal K C f)) (_:IsSRs H l xs) (_:RsOk (xs.map (·.2))) (_:1<=h) (_:h<=6) (_:∀H' v,But x H H'->H' x=some (.ins C dx v.fs)->HsP cs cS H' v->New v (xs.map (·.2.low)) h->Q .non H')
inductive zpO(cs:CsA)(cS cHs:Addr)(vs:List V)(H:Hp)(Q:VK)(_:XK):Prop
 | mk (l:Addr) (xs:List (Addr × SR)) (h:Int) (_:vs=[.ref l,.int h]) (_:IsSRs H l xs) (_:RsOk (xs.map (·.2))) (_:1<=h) (_:h<=6) (_:∀o H' v,Same H H'->H o=none->IsHs cs cS cHs H' o v->New v (xs.map (·.2.low)) h->Q (.ref o) H')
def zvc{cs:CsA}{cS cHs:Addr}(cl:Cls K cHs)(no:∀f,f∈hsN->zal K cHs f):∀vs H Q E,zpO cs cS cHs vs H Q E->∀y dx,H y=none->H dx=none->dx≠y->zmJ K cs cS (.ref y::vs) (upd (upd H dx (.own y)) y (.ins cHs dx [])) (λv H2=>v=.non/\Q (.ref y) H2) E:=by
 rintro vs H Q E ⟨l,xs,h,rfl,g,k,h0,h1,q⟩ y dx ny nd ne
 have up:Same H (upd (upd H dx (.own y)) y (.ins cHs dx [])):=λz o h=>by
  rw[zaw (zaA h ny),zaw (zaA h nd)]
  exact h
 exact⟨y,cHs,dx,l,xs,h,rfl,zar,cl,no,g.same up,k,h0,h1,λH' v k' hy hp nw=>⟨rfl,q y H' v (λw o hw=>k' w o (zaA hw ny) (up w o hw)) ny ⟨⟨dx,hy⟩,hp⟩ nw⟩⟩
def zgz:FnScope pl23 pl23 (zac zci):=fsc
include T in
theorem zgA(D:Mfn K "__init__" "House.__init__" zci pl23 f fd)(zao:Cal P w K mg bj "is_whole" 1 pl3 (zbn K))(DH:MakG CX0 P w K mg bj "Sorts" Ae 7 (zpz Ae)):FnOk P w K mg bj CX0 9 f fd pl23 (zmJ K (CsA.mk Aa Ad Ab) Ae):=by
 refine D.F.ok zgz (by walk_at "z") (λc A o s H vs Q E hr h=>?_)
 obtain⟨x,C,dx,l,xs,h,rfl,hx,cl,no,hl,ro,h0,h1,q⟩:=h
 refine⟨_,(zab (zaM (pv 0) (zhM DH hr.o rfl zaT (zaa (pv 1) zae)))
  (zab (zaQ (zbi (zaR (zai zao hr.o rfl (zaa (pv 2) (zaa zad (zaa (zbv (v:=.int 6) rfl T.BF.choose_spec ⟨_,rfl⟩) zae)))))) (zaf aB) zat)
  (zab (zaM (pv 0) (pv 2))
  (zab (zaM (pv 0) zad)
  (zab (zaM (pv 0) (az zae))
  (zab (zaM (pv 0) zfr)
  (zaf (zaM (pv 0) (az zae))))))))),?_⟩
 refine⟨_,rfl,l,xs,rfl,hl,ro,λa H1 s1 hst=>?_⟩
 refine⟨_,rfl,x,C,dx,_,rfl,s1 _ _ hx,cl,no _ (by decide),(by show(0:Nat)<1000;decide),λH2 k2 h2=>?_⟩
 have h2:H2 x=some (.ins C dx [("sorts",.ref a)]):=by
  rw[h2]
  rfl
 have k02:But x H H2:=s1.toBut.trans k2
 have ax:a≠x:=λz=>by
  obtain⟨_,_,_,e,_⟩:=hst
  rw[z,s1 _ _ hx]at e
  cases e
 have hst2:IsSt Ae H2 a (xs.map (·.2.low)):=hst.butI (s1 _ _ hx) ax k2
 refine⟨_,rfl,.int h,1,6,_,rfl,.inl ⟨h,rfl,rfl⟩,?_⟩
 rw[decide_eq_true h0,decide_eq_true h1]
 refine⟨_,rfl,iteF ?_⟩
 refine⟨_,rfl,_,rfl,x,C,dx,_,rfl,h2,cl,no _ (by decide),(by show(1:Nat)<1000;decide),λH3 k3 h3=>?_⟩
 have h3:H3 x=some (.ins C dx [("sorts",.ref a),("hands",.int h)]):=by
  rw[h3]
  rfl
 refine⟨_,rfl,x,C,dx,_,rfl,h3,cl,no _ (by decide),(by show(2:Nat)<1000;decide),λH4 k4 h4=>?_⟩
 have h4:H4 x=some (.ins C dx [("sorts",.ref a),("hands",.int h),("turn",.int 0)]):=by
  rw[h4]
  rfl
 refine⟨si0,λl5 H5 s5 n5 e5=>⟨_,rfl,x,C,dx,_,rfl,s5 _ _ h4,cl,no _ (by decide),(by show(3:Nat)<1000;decide),λH6 k6 h6=>?_⟩⟩
 have h6:H6 x=some (.ins C dx [("sorts",.ref a),("hands",.int h),("turn",.int 0),("pieces",.ref l5)]):=by
  rw[h6]
  rfl
 refine λd7 H7 s7 n7 e7=>⟨_,rfl,x,C,dx,_,rfl,s7 _ _ h6,cl,no _ (by decide),(by show(4:Nat)<1000;decide),λH8 k8 h8=>?_⟩
 have h8:H8 x=some (.ins C dx [("sorts",.ref a),("hands",.int h),("turn",.int 0),("pieces",.ref l5),("numbers",.ref d7)]):=by
  rw[h8]
  rfl
 refine⟨si0,λl9 H9 s9 n9 e9=>⟨_,rfl,x,C,dx,_,rfl,s9 _ _ h8,cl,no _ (by decide),(by show(5:Nat)<1000;decide),λH10 k10 h10=>?_⟩⟩
 have nl:∀{z:Addr}{Hh:Hp}{fs:List (Str × V)}{ys:List V},Hh x=some (.ins C dx fs)->Hh z=some (.lst ys)->z≠x:=λhw hz e=>by
  rw[e,hw]at hz
  cases hz
 have nd:d7≠x:=λe=>by
  rw[e,s7 _ _ h6]at e7
  cases e7
 have k210:But x H2 H10:=k3.trans (k4.trans (s5.toBut.trans (k6.trans (s7.toBut.trans (k8.trans (s9.toBut.trans k10))))))
 have k510:But x H5 H10:=k6.trans (s7.toBut.trans (k8.trans (s9.toBut.trans k10)))
 refine q H10 ⟨xs.map (·.2.low),h,0,[],[],a,l5,d7,l9⟩ (k02.trans k210) (by rw[h10];rfl) ⟨hst2.butI h2 ax k210,⟨k510 _ _ (nl (s5 _ _ h4) e5) e5,λq hq=>by simp at hq⟩,(k8.trans (s9.toBut.trans k10)) _ _ nd e7,[],k10 _ _ (nl (s9 _ _ h8) e9) e9,rfl⟩ ⟨rfl,rfl,rfl,rfl,rfl⟩
inductive zts(K:am)(cs:CsA)(cS cH:Addr)(vs:List V)(H:Hp)(Q:VK)(_:XK):Prop
 | mk (o:Addr) (v:Hv) (_:vs=[.ref o]) (_:IsHs cs cS cH H o v) (_:PsOk v.rs v.ps) (_:∀D H' xs,Same H H'->H D=none->ChIn K H' D xs->xs.map (·.2)=chV v.rs v.ps->Q (.ref D) H')
def zeZ:FnScope pl2 pl2 (zac zbQ):=fsc
include T in
theorem fJ(D:Mfn K "chores_now" "House.chores_now" zbQ pl2 f fd)(aY:Cal P w K mg bj "chores_of" 10 pl20 (zgx K (CsA.mk Aa Ad Ab) Ae)):FnOk P w K mg bj CX0 11 f fd pl2 (zts K (CsA.mk Aa Ad Ab) Ae Ac):=by
 refine D.F.ok zeZ (by walk_at "z") (λc A o s H vs Q E hr h=>?_)
 obtain⟨o,v,rfl,⟨⟨dx,e⟩,hp⟩,ok,q⟩:=h
 have O:=T.Ah
 refine⟨_,(zaf (zaj (zai aY hr.o rfl (zaa (zaq (pv 0) rfl) (zaa (zaq (pv 0) rfl) zae))))),?_⟩
 exact⟨_,rfl,o,_,dx,_,_,rfl,e,O.cl,T.Ai,rfl,_,rfl,o,_,dx,_,_,rfl,e,O.cl,T.Aq,rfl,v.aP,v.aS,v.ps,v.rs,rfl,hp.ps,hp.st,ok,q⟩
def ofW(d:Wd)(ps:List (Addr × Wd × Pv)):List (Addr × Wd × Pv):=ps.filter λq=>decide (q.2.1=d)
def zcG{d:Wd}{ps:List (Addr × Wd × Pv)}{q:Addr × Wd × Pv}:q∈ofW d ps↔q∈ps/\q.2.1=d:=by
 unfold ofW
 rw[mem_filter,tZ]
inductive ztt(cs:CsA)(cS cH:Addr)(d:Wd)(vs:List V)(H:Hp)(Q:VK)(_:XK):Prop
 | mk (o:Addr) (v:Hv) (_:vs=[.ref o]) (_:IsHs cs cS cH H o v) (_:v.ps.length<=200) (_:∀D H',Same H H'->H D=none->IsPs cs H' D (ofW d v.ps)->Q (.ref D) H')
theorem is_w(T:Txt K mg Bg Au Aa Ad Ab AJ Aj Ae Av Ag Af Ac):∀d,W.kitOne K (.ref (CsA.cl (CsA.mk Aa Ad Ab) d)) (.ref Aa)=some (decide (d=.waiting)):=λd=>match d with
 | .waiting=>T.Cz
 | .done=>T.Df
 | .givenUp=>T.Cy
theorem is_h(T:Txt K mg Bg Au Aa Ad Ab AJ Aj Ae Av Ag Af Ac):∀d,W.kitOne K (.ref (CsA.cl (CsA.mk Aa Ad Ab) d)) (.ref Au)=some false:=λd=>match d with
 | .waiting=>T.Dh
 | .done=>T.DG
 | .givenUp=>T.Dg
def zdv:FnScope pl2 pl2 (zac zbh):=fsc
include T in
theorem zdw(D:Mfn K "pieces_waiting" "House.pieces_waiting" zbh pl2 f fd):FnOk P w K mg bj CX0 1 f fd pl2 (ztt (CsA.mk Aa Ad Ab) Ae Ac .waiting):=by
 refine D.F.ok zdv (by walk_at "z") (λc A o s H vs Q E hr h=>?_)
 obtain⟨o,v,rfl,⟨⟨dx,e⟩,hp⟩,len,q⟩:=h
 have O:=T.Ah
 have S:=zcC T
 refine⟨_,(zaf (zaj (zaN (N:=["piece"]) (js:=[]) rfl cpo (zaB (zaq (pv 0) rfl)) (λ_ _ _ _ _=>(zcN (zaR (zau (ziO (C:=Aa) (K:=K) rfl) rfl T.zaI zaD (zaa (pv 0) (zaa (zbv (v:=.ref Aa) rfl T.Du rfl) zae)))))) (λ_ _ _ _ _=>(pv 0))))),?_⟩
 have ml:(v.ps.map λq=>V.ref q.1).length=v.ps.length:=tm _
 refine⟨_,rfl,o,_,dx,_,_,rfl,e,O.cl,T.Ai,rfl,v.aP,rfl,⟨_,SqL.of hp.ps.at_⟩,?_⟩
 refine zaS (xs:=v.ps.map λq=>V.ref q.1) (tak v.ps λq=>decide (q.2.1=.waiting)) (itm v.ps λq=>V.ref q.1) (SqL.of hp.ps.at_) ?_ ?_ (zax (by rw[ml];omega)) (λD H1 s1 nD hD=>?_)
 ·intro i x Hh Q' hx sh q'
  obtain⟨z,ez,hx⟩:=gmp hx
  cases hx
  have zz:=q' Hh (Same.refl _)
  unfold tak at zz
  rw[ez]at zz
  obtain⟨zdx,e1⟩:=(hp.ps.pc z (tE ez)).same sh
  exact⟨_,rfl,_,_,_,rfl,.old ((S.ow z.2.1).ty e1),is_w T z.2.1,_,rfl,zz⟩
 ·intro i x Hh Q' hx _ sh q'
  obtain⟨z,ez,hx⟩:=gmp hx
  cases hx
  have zz:=q' Hh (Same.refl _)
  unfold itm at zz
  rw[ez]at zz
  exact⟨_,rfl,zz⟩
 rw[ml,zdM]at hD
 exact q D H1 s1 nD ⟨hD,λz hz=>(hp.ps.pc z (zcG.mp hz).1).same s1⟩
def bZ(n:Nat):((List.range n).filter λ_=>false)=[]:=by
 rw[List.filter_eq_nil_iff]
 intro _ _ z
 cases z
inductive zmK(cs:CsA)(cS cH:Addr)(vs:List V)(H:Hp)(Q:VK)(_:XK):Prop
 | mk (o:Addr) (v:Hv) (_:vs=[.ref o]) (_:IsHs cs cS cH H o v) (_:v.ps.length<=200) (_:∀D H',Same H H'->H D=none->H' D=some (.lst [])->Q (.ref D) H')
def fL:FnScope pl2 pl2 (zac bV):=fsc
include T in
theorem fM(D:Mfn K "places" "House.places" bV pl2 f fd):FnOk P w K mg bj CX0 1 f fd pl2 (zmK (CsA.mk Aa Ad Ab) Ae Ac):=by
 refine D.F.ok fL (by walk_at "z") (λc A o s H vs Q E hr h=>?_)
 obtain⟨o,v,rfl,⟨⟨dx,e⟩,hp⟩,len,q⟩:=h
 have O:=T.Ah
 have S:=zcC T
 refine⟨_,(zaf (zaj (zaN (N:=["piece"]) (js:=[]) rfl cpo (zaB (zaq (pv 0) rfl)) (λ_ _ _ _ _=>(zcN (zaR (zau (ziO (C:=Au) (K:=K) rfl) rfl T.zaI zaD (zaa (pv 0) (zaa (zbv (v:=.ref Au) rfl T.D9 rfl) zae)))))) (λ_ _ _ _ _=>(pv 0))))),?_⟩
 have ml:(v.ps.map λq=>V.ref q.1).length=v.ps.length:=tm _
 refine⟨_,rfl,o,_,dx,_,_,rfl,e,O.cl,T.Ai,rfl,v.aP,rfl,⟨_,SqL.of hp.ps.at_⟩,?_⟩
 refine zaS (xs:=v.ps.map λq=>V.ref q.1) (λ_=>false) (itm v.ps λq=>V.ref q.1) (SqL.of hp.ps.at_) ?_ ?_ (zax (by rw[ml];omega)) (λD H1 s1 nD hD=>?_)
 ·intro i x Hh Q' hx sh q'
  obtain⟨z,ez,hx⟩:=gmp hx
  cases hx
  have zz:=q' Hh (Same.refl _)
  obtain⟨zdx,e1⟩:=(hp.ps.pc z (tE ez)).same sh
  exact⟨_,rfl,_,_,_,rfl,.old ((S.ow z.2.1).ty e1),is_h T z.2.1,_,rfl,zz⟩
 ·intro i x Hh Q' hx z sh q'
  cases z
 rw[bZ,map_nil]at hD
 exact q D H1 s1 nD hD
def zpP{H H':Hp}{u:Addr}{c:Cl}(t:Tups H H')(h:IsCl K H u c):IsCl K H' u c:=by
 obtain⟨pw,ps,x,y,z⟩:=h.ex
 exact⟨pw,ps,t _ _ x,t _ _ y,t _ _ z⟩
def clV(rs:List SR)(ps:List (Addr × Wd × Pv)):List Cl:=(ofW .waiting ps).map λq=>clOf q.2.2 (zfC rs q.2.2.nm).low
theorem PsOk.len_w{rs:List SR}{ps:List (Addr × Wd × Pv)}(h:PsOk rs ps)(d:Wd)(od:d.opn=true):(ofW d ps).length<=40:=by
 refine tU ?_ h.op
 unfold ofW
 have:∀l:List (Addr × Wd × Pv),(l.filter λq=>decide (q.2.1=d)).length<=(l.filter λq=>q.2.1.opn).length:=λl=>by
  induction l with
  | nil=>exact tF _
  | cons x l ih=>
    rw[se,se]
    by_cases c:x.2.1=d
    ·rw[if_pos (decide_eq_true c),if_pos (by rw[c];exact od),length_cons,length_cons]
     omega
    ·rw[if_neg (by simpa using c)]
     split
     ·rw[length_cons]
      omega
     ·exact ih
 exact this ps
def PsOk.good{rs:List SR}{ps:List (Addr × Wd × Pv)}(h:PsOk rs ps):Good (clV rs ps):=by
 refine⟨λc hc=>?_,?_⟩
 ·obtain⟨q,hq,rfl⟩:=mem_map.mp hc
  have hq:=(zcG.mp hq).1
  obtain⟨_,_,_,c0,c1⟩:=h.ok q hq
  exact zuY (h.n0 q hq) c0 c1 (h.ro _ (h.fd q hq).1)
 ·unfold clV
  rw[t5]
  exact h.nd.sublist (filter_sublist.map _)
inductive zlC(K:am)(cs:CsA)(cS cH:Addr)(vs:List V)(H:Hp)(Q:VK)(_:XK):Prop
 | mk (o:Addr) (v:Hv) (_:vs=[.ref o]) (_:IsHs cs cS cH H o v) (_:PsOk v.rs v.ps) (_:∀D H' bs,Same H H'->H D=none->IsCs K H' D bs->bs.map (·.2)=clV v.rs v.ps->Q (.ref D) H')
def fN:FnScope pl2 pl2 (zac zbP):=fsc
include T in
theorem fO(D:Mfn K "claims_now" "House.claims_now" zbP pl2 f fd)(zcq:Cal P w K mg bj "claim_of" 8 pl8 (zlr K (CsA.mk Aa Ad Ab) Ae))(Ak:MOk CX0 P w K mg bj 1 Ac "pieces_waiting" (ztt (CsA.mk Aa Ad Ab) Ae Ac .waiting)):FnOk P w K mg bj CX0 9 f fd pl2 (zlC K (CsA.mk Aa Ad Ab) Ae Ac):=by
 refine D.F.ok fN (by walk_at "z") (λc A o s H vs Q E hr h=>?_)
 obtain⟨o,v,rfl,hh,ok,q⟩:=h
 obtain⟨dx,e⟩:=hh.at_
 have O:=T.Ah
 refine⟨_,(zaf (zaj (zaN (N:=["piece","self"]) (js:=[0]) rfl cpo (zaB (zaO (k:=1) (pv 0) hr.o zaT)) (λ_ _ _ _ _=>zbx) (λ_ _ _ _ _=>(zai zcq hr.o rfl (zaa (pv 0) (zaa (zdO (K:=K) rfl (pv 1) rfl) zae))))))),?_⟩
 refine⟨_,rfl,o,_,dx,_,_,rfl,e,rfl,Ak,o,v,rfl,hh,ok.len,λl H1 s1 nl hl=>⟨l,rfl,⟨_,SqL.of hl.at_⟩,?_⟩⟩
 have hh1:=hh.same s1
 have lw:=ok.len_w .waiting rfl
 have ml:((ofW .waiting v.ps).map λq=>V.ref q.1).length=(ofW .waiting v.ps).length:=tm _
 refine zmy (xs:=(ofW .waiting v.ps).map λq=>V.ref q.1) (tak (ofW .waiting v.ps) λ_=>true) (itG (ofW .waiting v.ps) (λq=>clOf q.2.2 (zfC v.rs q.2.2.nm).low) ⟨0,0,0,0,0,0⟩) (IsCl K) (λH H' u c t h=>zpP t h) (SqL.of hl.at_) ?_ ?_ (zax (by rw[ml];omega)) (λD H2 bs s2 nD hD eb hb=>?_)
 ·intro i x Hh Q' hx sh q'
  rw[getElem?_map]at hx
  cases ez:(ofW .waiting v.ps)[i]? with
  | none=>rw[ez]at hx;cases hx
  | some z=>
    have zz:=q' Hh (Same.refl _)
    unfold tak at zz
    rw[ez]at zz
    exact zz
 ·intro i x Hh Q' hx _ sh q'
  obtain⟨z,ez,hx⟩:=gmp hx
  cases hx
  have hz:=tE ez
  have hz2:=(zcG.mp hz).1
  unfold itG at q'
  rw[ez]at q'
  obtain⟨dx2,e2⟩:=(hh1.same sh).at_
  exact⟨_,rfl,_,rfl,o,_,dx2,_,_,rfl,e2,O.cl,T.Aq,rfl,z.1,v.aS,z.2.1,z.2.2,v.rs,_,rfl,(hl.pc z hz).same sh,(hh1.same sh).p.st,ok.rl,ok.ro,ok.fd z hz2,λt H' s' ht=>q' t H' s' ht⟩
 rw[ml,zhN,zhd]at eb
 exact q D H2 bs (s1.trans s2) (Same.free s1 nD) ⟨hD,hb⟩ eb
inductive bg(K:am)(cs:CsA)(cS cH tT:Addr)(vs:List V)(H:Hp)(Q:VK)(_:XK):Prop
 | mk (o:Addr) (v:Hv) (_:vs=[.ref o]) (_:IsHs cs cS cH H o v) (_:PsOk v.rs v.ps) (_:0<=v.t) (_:v.t<=1000) (_:(∀q,q∈v.ps->q.2.1=.waiting->q.2.2.came<=v.t)) (_:H tT=some (.tbl zba lamQ)) (_:∀D H',Same H H'->H D=none->H' D=some (.lst (((ord (clV v.rs v.ps) v.t).map (·.n)).map V.int))->Q (.ref D) H')
def fP:FnScope pl2 pl2 (zac zcB):=fsc
include T in
theorem fQ(D:Mfn K "waiting" "House.waiting" zcB pl2 f fd)(zcr:Cal P w K mg bj "order_at" 8 pl10 (zlw K tT))(Aw:MOk CX0 P w K mg bj 9 Ac "claims_now" (zlC K (CsA.mk Aa Ad Ab) Ae Ac)):FnOk P w K mg bj CX0 10 f fd pl2 (bg K (CsA.mk Aa Ad Ab) Ae Ac tT):=by
 refine D.F.ok fP (by walk_at "z") (λc A o s H vs Q E hr h=>?_)
 obtain⟨o,v,rfl,hh,ok,t0,t1,ca,hT,q⟩:=h
 obtain⟨dx,e⟩:=hh.at_
 have O:=T.Ah
 refine⟨_,(zaf (zaj (zai zcr hr.o rfl (zaa (zaO (k:=9) (pv 0) hr.o zaT) (zaa (zaq (pv 0) rfl) zae))))),?_⟩
 refine⟨_,rfl,o,_,dx,_,_,rfl,e,rfl,Aw,o,v,rfl,hh,ok,λl H1 bs s1 nl hl eb=>?_⟩
 have e1:=s1 _ _ e
 have lb:bs.length<=40:=by
  have:=tW List.length eb
  unfold clV at this
  rw[tm,tm]at this
  rw[this]
  exact ok.len_w .waiting rfl
 refine⟨_,rfl,o,_,dx,_,_,rfl,e1,O.cl,T.Al,rfl,l,bs,v.t,rfl,hl,by rw[eb];exact ok.good,lb,s1 _ _ hT,t0,by omega,λb hb=>?_,λm H2 s2 n2 h2=>q m H2 (s1.trans s2) (Same.free s1 n2) (by rw[h2,eb])⟩
 have:b.2∈bs.map (·.2):=mem_map.mpr ⟨b,hb,rfl⟩
 rw[eb]at this
 obtain⟨z,hz,ez⟩:=mem_map.mp this
 rw[<-ez]
 exact ca z (zcG.mp hz).1 (zcG.mp hz).2
inductive b7(cs:CsA)(cS cH:Addr)(vs:List V)(H:Hp)(Q:VK)(_:XK):Prop
 | mk (o:Addr) (v:Hv) (i:Nat) (q0:Addr × Wd × Pv) (_:vs=[.ref o,.int i]) (_:IsHs cs cS cH H o v) (_:v.ps[i]?=some q0) (_:Q (.ref q0.1) H)
def zgB:FnScope pl21 pl21 (zac zcj):=fsc
include T in
theorem zgC(D:Mfn K "piece_of" "House.piece_of" zcj pl21 f fd)(zao:Cal P w K mg bj "is_whole" 1 pl3 (zbn K)):FnOk P w K mg bj CX0 2 f fd pl21 (b7 (CsA.mk Aa Ad Ab) Ae Ac):=by
 refine D.F.ok zgB (by walk_at "z") (λc A o s H vs Q E hr h=>?_)
 obtain⟨o,v,i,q0,rfl,hh,ei,q⟩:=h
 obtain⟨dx,e⟩:=hh.at_
 have O:=T.Ah
 refine⟨_,(zab (zaQ (zbi (zaR (zai zao hr.o rfl (zaa (pv 1) (zaa zad (zaa (zaz zel (zau zaH rfl T.zdW zcm (zaa (zaq (pv 0) rfl) zae)) zad) zae)))))) (zaf aB) zat)
  (zaf (zaj (zak zbc (zaq (pv 0) rfl) (pv 1) (λ_ _=>rfl))))),?_⟩
 have il:i<v.ps.length:=(List.getElem?_eq_some_iff.mp ei).1
 have ml:(v.ps.map λq=>V.ref q.1).length=v.ps.length:=tm _
 refine⟨_,rfl,_,rfl,o,_,dx,_,_,rfl,e,O.cl,T.Ai,rfl,v.aP,_,rfl,.inl (SqL.of hh.p.ps.at_),_,_,rfl,rfl,.int i,0,_,_,rfl,.inl ⟨i,rfl,rfl⟩,?_⟩
 rw[decide_eq_true (by omega:(0:Int)<=i),decide_eq_true (by rw[ml];omega:(i:Int)<=((v.ps.map λq=>V.ref q.1).length:Int)-1)]
 refine⟨_,rfl,iteF ?_⟩
 refine⟨_,rfl,o,_,dx,_,_,rfl,e,O.cl,T.Ai,rfl,_,rfl,v.aP,_,i,_,rfl,rfl,SqL.of hh.p.ps.at_,?_,q⟩
 exact zhs (by rw[getElem?_map,ei];rfl)
inductive zmL(cs:CsA)(cS cH:Addr)(vs:List V)(H:Hp)(Q:VK)(_:XK):Prop
 | mk (o:Addr) (v:Hv) (i:Nat) (q0:Addr × Wd × Pv) (_:vs=[.ref o,.int i]) (_:IsHs cs cS cH H o v) (_:v.ps[i]?=some q0) (_:q0.2.1=.waiting) (_:Q (.ref q0.1) H)
def zbT:FnScope ["self","number","piece"] pl21 (zac zbm):=fsc
include T in
theorem zdI(D:Mfn K "waiting_piece" "House.waiting_piece" zbm pl21 f fd)(AN:MOk CX0 P w K mg bj 2 Ac "piece_of" (b7 (CsA.mk Aa Ad Ab) Ae Ac)):FnOk P w K mg bj CX0 3 f fd pl21 (zmL (CsA.mk Aa Ad Ab) Ae Ac):=by
 refine D.F.ok zbT (by walk_at "z") (λc A o s H vs Q E hr h=>?_)
 obtain⟨o,v,i,q0,rfl,hh,ei,ew,q⟩:=h
 obtain⟨dx,e⟩:=hh.at_
 have S:=zcC T
 refine⟨_,(zab (zam (i:=2) zbT.nd rfl (Or.inl rfl) (zdD (k:=2) (pv 0) hr.o zaT (zaa (pv 1) zae)))
  (zab (zaQ (zbi (zaR (zau (zhx (C:=Aa)) rfl T.zaI zaD (zaa (pv 2) (zaa (zbv (v:=.ref Aa) rfl T.Du rfl) zae))))) (zaf aB) zat)
  (zaf (zaj (pv 2))))),?_⟩
 obtain⟨zdx,e1⟩:=hh.p.ps.pc q0 (tE ei)
 refine⟨_,rfl,o,_,dx,_,_,rfl,e,rfl,AN,_,rfl,o,v,i,q0,rfl,hh,ei,?_⟩
 refine⟨_,rfl,_,_,_,rfl,.old ((S.ow q0.2.1).ty e1),is_w T q0.2.1,?_⟩
 rw[decide_eq_true ew]
 exact⟨_,rfl,iteF ⟨_,rfl,q⟩⟩
def zwa{rs:List SR}{ps:List (Addr × Wd × Pv)}{xs:List (Addr × Cl × Int)}(ex:xs.map (·.2)=chV rs ps){q0:Addr × Wd × Pv}(hq:q0∈ps)(op:q0.2.1.opn=true):∃k,k∈xs/\k.2=(clOf q0.2.2 (zfC rs q0.2.2.nm).low,q0.2.2.left q0.2.1):=by
 have:(clOf q0.2.2 (zfC rs q0.2.2.nm).low,q0.2.2.left q0.2.1)∈xs.map (·.2):=by
  rw[ex]
  exact mem_map.mpr ⟨q0,mem_filter.mpr ⟨hq,op⟩,rfl⟩
 obtain⟨k,hk,e⟩:=mem_map.mp this
 exact⟨k,hk,e⟩
structure HvOk(v:Hv):Prop where
 p:PsOk v.rs v.ps
 h0:0<v.h
 t0:0<=v.t
 t1:v.t<=1000
inductive zpQ(K:am)(cs:CsA)(cS cH tT:Addr)(vs:List V)(H:Hp)(Q:VK)(_:XK):Prop
 | mk (o:Addr) (v:Hv) (i:Nat) (q0:Addr × Wd × Pv) (_:vs=[.ref o,.int i]) (_:IsHs cs cS cH H o v) (_:HvOk v) (_:H tT=some (.tbl zba lamQ)) (_:v.ps[i]?=some q0) (_:q0.2.1.opn=true) (_:0<q0.2.2.left q0.2.1) (_:∀u d H' L,Same H H'->LatOf H' d v.h.toNat v.t (chV v.rs v.ps) L->valI L i=some u->Q (.int u) H')
def zej:FnScope pl21 pl21 (zac zbB):=fsc
include T in
theorem zek(D:Mfn K "latest_turn" "House.latest_turn" zbB pl21 f fd)(b8:Cal P w K mg bj "latest_of" 12 pl18 (zpK K tT))(Ax:MOk CX0 P w K mg bj 11 Ac "chores_now" (zts K (CsA.mk Aa Ad Ab) Ae Ac)):FnOk P w K mg bj CX0 13 f fd pl21 (zpQ K (CsA.mk Aa Ad Ab) Ae Ac tT):=by
 refine D.F.ok zej (by walk_at "z") (λc A o s H vs Q E hr h=>?_)
 obtain⟨o,v,i,q0,rfl,hh,ok,hT,ei,op,l0,q⟩:=h
 obtain⟨dx,e⟩:=hh.at_
 have O:=T.Ah
 refine⟨_,(zaf (zaj (zai b8 hr.o rfl (pai (zag (zaO (k:=11) (pv 0) hr.o zaT) (zag (zaq (pv 0) rfl) (zag (zaq (pv 0) rfl) (zag (pv 1) zbd)))))))),?_⟩
 refine⟨_,rfl,o,_,dx,_,_,rfl,e,rfl,Ax,o,v,rfl,hh,ok.p,λD H1 xs s1 nD hI ex=>?_⟩
 have e1:=s1 _ _ e
 obtain⟨k,hk,ek⟩:=zwa ex (tE ei) op
 have en:k.2.1.n=i:=by
  rw[ek]
  exact ok.p.nm i q0 ei
 refine⟨_,rfl,o,_,dx,_,_,rfl,e1,O.cl,T.Az,rfl,_,rfl,o,_,dx,_,_,rfl,e1,O.cl,T.Al,rfl,_,rfl,D,xs,v.h,v.t,k,by rw[en];rfl,hI,ok.h0,ok.t0,ok.t1,s1 _ _ hT,hk,by rw[ek];exact l0,λu d H2 L s2 hL hu=>?_⟩
 rw[ex]at hL
 rw[en]at hu
 exact q u d H2 L (s1.trans s2) hL hu
inductive zsf(K:am)(cs:CsA)(cS cH:Addr)(vs:List V)(H:Hp)(Q:VK)(_:XK):Prop
 | mk (o:Addr) (v:Hv) (_:vs=[.ref o]) (_:IsHs cs cS cH H o v) (_:PsOk v.rs v.ps) (_:(v.ps.filter λq=>q.2.1.opn).length<40) (_:∀H',Same H H'->Q .non H')
def fR:FnScope pl2 pl2 (zac zbM):=fsc
include T in
theorem fS(D:Mfn K "check_room" "House.check_room" zbM pl2 f fd)(Ax:MOk CX0 P w K mg bj 11 Ac "chores_now" (zts K (CsA.mk Aa Ad Ab) Ae Ac)):FnOk P w K mg bj CX0 12 f fd pl2 (zsf K (CsA.mk Aa Ad Ab) Ae Ac):=by
 refine D.F.ok fR (by walk_at "z") (λc A o s H vs Q E hr h=>?_)
 obtain⟨o,v,rfl,hh,ok,c,q⟩:=h
 obtain⟨dx,e⟩:=hh.at_
 refine⟨_,(zaf (zaQ (zan ztO (zau zaH rfl T.zdW zcm (zaa (zaO (k:=11) (pv 0) hr.o zaT) zae)) (zbv (v:=.int 40) rfl T.B5.choose_spec ⟨_,rfl⟩) (zas _)) (zaf aB) zat)),?_⟩
 refine⟨_,rfl,o,_,dx,_,_,rfl,e,rfl,Ax,o,v,rfl,hh,ok,λD H1 xs s1 nD hI ex=>?_⟩
 have lx:(xs.map λq=>V.ref q.1).length=(v.ps.filter λq=>q.2.1.opn).length:=by
  have:=tW List.length ex
  unfold chV at this
  rw[tm,tm]at this
  rw[tm,this]
 refine⟨D,_,rfl,.inl (SqL.of hI.chs.at_),_,_,rfl,rfl,_,rfl,?_⟩
 rw[lx]
 exact aA (by omega) (q H1 s1)
def zrn{L:al}{bs:List (Addr × List V)}(eb:bs.map (·.2)=L.map λp=>[V.int p.1,V.int p.2]):∃cs:List (Addr × Key × V),(cs.map λb=>V.ref b.1)=(bs.map λb=>V.ref b.1)/\cs.map (·.2)=dI L/\∀c,c∈cs->∃b,b∈bs/\b.1=c.1/\b.2=[kV c.2.1,c.2.2]:=by
 refine⟨List.zipWith (λb p=>(b.1,(Sum.inl p.1:Key),V.int p.2)) bs L,?_,?_,λc hc=>?_⟩
 ·have hl:bs.length=L.length:=by
   have:=tW List.length eb
   rw[tm,tm]at this
   exact this
  rw[map_zipWith]
  refine rM (by simp[hl]) λi h1 h2=>?_
  simp
 ·have hl:bs.length=L.length:=by
   have:=tW List.length eb
   rw[tm,tm]at this
   exact this
  unfold dI
  rw[map_zipWith]
  refine rM (by simp[hl]) λi h1 h2=>?_
  simp
 ·obtain⟨i,hi,ei⟩:=t6 hc
  have hi2:i<bs.length/\i<L.length:=by
   rw[List.length_zipWith]at hi
   omega
  have e:=tW (λl:List (List V)=>l[i]?) eb
  simp[hi2.1,hi2.2]at e
  have ec:c=(bs[i].1,(Sum.inl L[i].1:Key),V.int L[i].2):=by
   rw[<-ei,List.getElem_zipWith]
  subst ec
  exact⟨bs[i],sI hi2.1,rfl,e⟩
def TlP(H:Hp)(v:Hv)(tl:Int->Int):Prop:=∀q,q∈v.ps->q.2.1=.waiting->∃(l:Addr)(us:List Int),valV v.nb (.inl q.2.2.n)=some (.ref l)/\H l=some (.lst ((us++[tl q.2.2.n]).map V.int))
def TlP.same{H H':Hp}{v:Hv}{tl:Int->Int}(s:Same H H')(h:TlP H v tl):TlP H' v tl:=λq hq w=>let ⟨l,us,a,b⟩:=h q hq w;⟨l,us,a,s _ _ b⟩
def tlL(tl:Int->Int)(ps:List (Addr × Wd × Pv)):List (Int × Int):=(ofW .waiting ps).map λq=>(q.2.2.n,tl q.2.2.n)
def ztu(xs:List V)(x:V):atI (xs++[x]) (-1)=some x:=by
 have z:ixN (xs.length+1) (-1)=some xs.length:=by
  unfold ixN
  rw[if_neg (by decide),if_pos (by omega)]
  congr 1
  omega
 unfold atI
 rw[tR,show[x].length=1 from rfl,z]
 simp
def zro(us:List Int)(u:Int):atI ((us++[u]).map V.int) (-1)=some (.int u):=by
 rw[t4]
 exact ztu _ _
inductive zsg(K:am)(cs:CsA)(cS cH:Addr)(vs:List V)(H:Hp)(Q:VK)(_:XK):Prop
 | mk (o:Addr) (v:Hv) (tl:Int->Int) (_:vs=[.ref o]) (_:IsHs cs cS cH H o v) (_:PsOk v.rs v.ps) (_:TlP H v tl) (_:∀d H',Same H H'->H d=none->H' d=some (.dK (dI (tlL tl v.ps)))->Q (.ref d) H')
def zgD:FnScope pl2 pl2 (zac zck):=fsc
include T in
theorem zgE(D:Mfn K "told_now" "House.told_now" zck pl2 f fd)(Ak:MOk CX0 P w K mg bj 1 Ac "pieces_waiting" (ztt (CsA.mk Aa Ad Ab) Ae Ac .waiting)):FnOk P w K mg bj CX0 2 f fd pl2 (zsg K (CsA.mk Aa Ad Ab) Ae Ac):=by
 refine D.F.ok zgD (by walk_at "z") (λc A o s H vs Q E hr h=>?_)
 obtain⟨o,v,tl,rfl,hh,ok,ht,q⟩:=h
 obtain⟨dx,e⟩:=hh.at_
 have O:=T.Ah
 have S:=zcC T
 refine⟨_,(zaf (zaj (zfm (zni hr.hd) rfl T.zuR zsG (zaa (zaN (N:=["piece","self"]) (js:=[0]) rfl cpo (zaB (zaO (k:=1) (pv 0) hr.o zaT)) (λ_ _ _ _ _=>zbx) (λ_ _ _ _ _=>(zaK (zaa (zdO (K:=K) rfl (pv 0) rfl) (zaa (zak (r:=rIxL K) zbc (zcT hr.units1 (zdO (K:=K) rfl (pv 1) rfl) (zdO (K:=K) rfl (pv 0) rfl) (λ_ _=>rfl)) (znS zjH zad) (λ_ _=>rfl)) zae))))) zae)))),?_⟩
 refine⟨_,rfl,o,_,dx,_,_,rfl,e,rfl,Ak,o,v,rfl,hh,ok.len,λl H1 s1 nl hl=>⟨l,rfl,⟨_,SqL.of hl.at_⟩,?_⟩⟩
 have hh1:=hh.same s1
 have ht1:=ht.same s1
 have lw:=ok.len_w .waiting rfl
 have ml:((ofW .waiting v.ps).map λq=>V.ref q.1).length=(ofW .waiting v.ps).length:=tm _
 refine zfq (xs:=(ofW .waiting v.ps).map λq=>V.ref q.1) (tak (ofW .waiting v.ps) λ_=>true) (itl (ofW .waiting v.ps) λq=>[V.int q.2.2.n,V.int (tl q.2.2.n)]) (SqL.of hl.at_) ?_ ?_ (zax (by rw[ml];omega)) (λD H2 bs s2 nD hD eb hb=>?_)
 ·intro i x Hh Q' hx sh q'
  rw[getElem?_map]at hx
  cases ez:(ofW .waiting v.ps)[i]? with
  | none=>rw[ez]at hx;cases hx
  | some z=>
    have zz:=q' Hh (Same.refl _)
    unfold tak at zz
    rw[ez]at zz
    exact zz
 ·intro i x Hh Q' hx _ sh q'
  obtain⟨z,ez,hx⟩:=gmp hx
  cases hx
  have hz:=tE ez
  have hz2:=zcG.mp hz
  unfold itl at q'
  rw[ez]at q'
  obtain⟨zdx,e1⟩:=(hl.pc z hz).same sh
  obtain⟨dx2,e2⟩:=(hh1.same sh).at_
  obtain⟨lt,us,g1,g2⟩:=ht1 z hz2.1 hz2.2
  have g:=DGet.k (k:=.inl z.2.2.n) (hh1.same sh).p.nb
  rw[g1]at g
  exact⟨_,rfl,z.1,_,zdx,_,_,rfl,e1,(S.ow z.2.1).cl,S.n1 z.2.1,rfl,_,rfl,o,_,dx2,_,_,rfl,e2,O.cl,T.Ap,rfl,_,rfl,z.1,_,zdx,_,_,rfl,e1,(S.ow z.2.1).cl,S.n1 z.2.1,rfl,v.aN,_,rfl,g,_,rfl,lt,_,_,_,rfl,rfl,SqL.of (sh _ _ g2),zro us _,si2,λp H3 s3 n3 h3=>q' p H3 s3 h3⟩
 rw[ml,zfX,zhd]at eb
 obtain⟨cs,c1,c2,c3⟩:=zrn (L:=tlL tl v.ps) (bs:=bs) (by rw[eb];unfold tlL;rw[t5];rfl)
 have nd:((tlL tl v.ps).map (·.1)).Nodup:=by
  unfold tlL
  rw[t5]
  exact ok.nd.sublist (filter_sublist.map _)
 refine⟨D,cs,rfl,by rw[c1];exact hD,λc hc=>?_,λd H3 s3 nd3 hd=>q d H3 (s1.trans (s2.trans s3)) (Same.free (s1.trans s2) nd3) ?_⟩
 ·obtain⟨b,b1,b2,b3⟩:=c3 c hc
  rw[<-b2,hb b b1,b3]
 ·rw[hd,c2,zuL nd]
def NbP(H:Hp)(v:Hv)(n:Int)(km:Nat):Prop:=∀x,valV v.nb (.inl n)=some x->∃(l:Addr)(us:List Int),x=.ref l/\H l=some (.lst (us.map V.int))/\us.length<=km
inductive zsh(K:am)(cs:CsA)(cS cH tT:Addr)(vs:List V)(H:Hp)(Q:VK)(_:XK):Prop
 | mk (o:Addr) (v:Hv) (i:Nat) (q0:Addr × Wd × Pv) (km:Nat) (_:vs=[.ref o,.int i]) (_:IsHs cs cS cH H o v) (_:HvOk v) (_:H tT=some (.tbl zba lamQ)) (_:v.ps[i]?=some q0) (_:q0.2.1=.waiting) (_:0<q0.2.2.left q0.2.1) (_:NbP H v i km) (_:km<=1000) (_:v.nb.length<=1000) (_:∀u d Hd L l us H',Same H Hd->LatOf Hd d v.h.toNat v.t (chV v.rs v.ps) L->valI L i=some u->But v.aN H H'->H l=none->H' l=some (.lst ((us++[u]).map V.int))->us.length<=km->H' v.aN=some (.dK (putK v.nb (.inl (i:Int)) (.ref l)))->Q (.int u) H')
def zfI:FnScope ["self","number","turn"] pl21 (zac zdV):=fsc
include T in
theorem zjq(D:Mfn K "tell" "House.tell" zdV pl21 f fd)(Bv:MOk CX0 P w K mg bj 13 Ac "latest_turn" (zpQ K (CsA.mk Aa Ad Ab) Ae Ac tT))(AR:MOk CX0 P w K mg bj 3 Ac "waiting_piece" (zmL (CsA.mk Aa Ad Ab) Ae Ac)):FnOk P w K mg bj CX0 14 f fd pl21 (zsh K (CsA.mk Aa Ad Ab) Ae Ac tT):=by
 refine D.F.ok zfI (by walk_at "z") (λc A o s H vs Q E hr h=>?_)
 obtain⟨o,v,i,q0,km,rfl,hh,ok,hT,ei,ew,lf,hn,hkm,ln,q⟩:=h
 obtain⟨dx,e⟩:=hh.at_
 have O:=T.Ah
 refine⟨_,(zab (zbw (zdD (k:=3) (pv 0) hr.o zaT (zaa (pv 1) zae)))
  (zab (zam (i:=2) zfI.nd rfl (Or.inl rfl) (zdD (k:=13) (pv 0) hr.o zaT (zaa (pv 1) zae)))
  (zab (zfS hr.units1 (zaq (pv 0) rfl) (pv 1) (zaz zlg (zmb hr.units1 (zaq (pv 0) rfl) (pv 1) (az zae) ⟨rfl,rfl,rfl,rfl⟩) (az (zaa (pv 2) zae))) rfl)
  (zaf (zaj (pv 2)))))),?_⟩
 refine⟨_,rfl,o,_,dx,_,_,rfl,e,rfl,AR,_,rfl,o,v,i,q0,rfl,hh,ei,ew,?_⟩
 refine⟨_,rfl,o,_,dx,_,_,rfl,e,rfl,Bv,_,rfl,o,v,i,q0,rfl,hh,ok,hT,ei,by rw[ew];rfl,lf,λu d H1 L s1 hL hu=>?_⟩
 have e1:=s1 _ _ e
 have hh1:=hh.same s1
 refine⟨_,rfl,o,_,dx,_,_,rfl,e1,O.cl,T.Ap,rfl,v.aN,rfl,.inl ⟨_,.inl hh1.p.nb⟩,_,rfl,si0,λnl H2 s2 n2 h2=>⟨_,DGet.k (k:=.inl (i:Int)) (s2 _ _ hh1.p.nb),?_⟩⟩
 obtain⟨m,us,em,hm,lu⟩:∃(m:Addr)(us:List Int),(valV v.nb (.inl (i:Int))).getD (.ref nl)=.ref m/\H2 m=some (.lst (us.map V.int))/\us.length<=km:=by
  cases ev:valV v.nb (.inl (i:Int)) with
  | none=>exact⟨nl,[],rfl,h2,tV _⟩
  | some x=>
    obtain⟨l,us,rfl,h3,h4⟩:=hn x ev
    exact⟨l,us,rfl,s2 _ _ (s1 _ _ h3),h4⟩
 rw[em]
 have big:(10000:Nat)<=sizeLine:=by decide
 refine⟨_,rfl,si1,λl3 H3 s3 n3 h3=>⟨m,l3,_,_,rfl,rfl,SqL.of (s3 _ _ hm),SqL.of h3,by rw[tm];show us.length+1<=_;omega,λC H4 s4 n4 h4=>?_⟩⟩
 have s14:=s2.trans (s3.trans s4)
 have hh4:=hh1.same s14
 obtain⟨dx4,e4⟩:=hh4.at_
 refine⟨_,rfl,o,_,dx4,_,_,rfl,e4,O.cl,T.Ap,rfl,_,rfl,v.aN,_,rfl,DPut.k (k:=.inl (i:Int)) hh4.p.nb (zax ln),?_⟩
 have CN:C≠v.aN:=λz=>by
  have:=hh4.p.nb
  rw[<-z,h4]at this
  cases this
 refine⟨_,rfl,q u d H1 L C us _ s1 hL hu ((s1.trans s14).toBut.trans (But.upd _ _ _)) (Same.free (s1.trans (s2.trans s3)) n4) ?_ lu zar⟩
 rw[zaw CN,h4,t4]
 rfl
def IsHs.put{cs:CsA}{cS cH o:Addr}{H H':Hp}{v:Hv}{kvs:List (Key × V)}(h:IsHs cs cS cH H o v)(k:But v.aN H H')(e:H' v.aN=some (.dK kvs)):IsHs cs cS cH H' o { v with nb:=kvs }:=by
 have hn:=h.p.nb
 have nl:∀ {z xs},H z=some (.lst xs)->z≠v.aN:=λe z=>by rw[z,hn]at e;cases e
 have nt:∀ {z xs},H z=some (.tup xs)->z≠v.aN:=λe z=>by rw[z,hn]at e;cases e
 have ni:∀ {z C dx fs},H z=some (.ins C dx fs)->z≠v.aN:=λe z=>by rw[z,hn]at e;cases e
 obtain⟨dx,e0⟩:=h.at_
 obtain⟨sdx,l,xs,e1,e2,e3⟩:=h.p.st
 obtain⟨rw,r1,r2⟩:=h.p.rw
 refine⟨⟨dx,k _ _ (ni e0) e0⟩,⟨sdx,l,xs,k _ _ (ni e1) e1,⟨k _ _ (nl e2.at_) e2.at_,λq hq=>?_⟩,e3⟩,⟨k _ _ (nl h.p.ps.at_) h.p.ps.at_,λq hq=>?_⟩,e,rw,k _ _ (nl r1) r1,r2⟩
 ·obtain⟨pw,ps,a,b,c⟩:=e2.sr q hq
  exact⟨pw,ps,k _ _ (nt a) a,k _ _ (nt b) b,k _ _ (nt c) c⟩
 ·obtain⟨pdx,ep⟩:=h.p.ps.pc q hq
  exact⟨pdx,k _ _ (ni ep) ep⟩
def But2(a b:Addr)(H H':Hp):Prop:=∀c u,c≠a->c≠b->H c=some u->H' c=some u
def zrp(h:Nat)(b:Int)(c:Ch)(tl:al):Prop:=∃N,(runN h N b (bhC [] c)).2=[]/\zhJ (zcJ (runN h N b (bhC [] c)).1 []) tl=[]
inductive zpR(K:am)(cs:CsA)(cS cH cG cL tT:Addr)(vs:List V)(H:Hp)(Q:VK)(_:XK):Prop
 | mk (o:Addr) (v:Hv) (tl:Int->Int) (l':Addr) (ps':List (Addr × Wd × Pv)) (n:V) (_:vs=[.ref o,.ref l',.ref v.aS,.int v.h,n]) (_:IsHs cs cS cH H o v) (_:HvOk v) (_:TlP H v tl) (_:IsPs cs H l' ps') (_:PsOk v.rs ps') (_:H tT=some (.tbl zba lamQ)) (_:(∀g H',zrp v.h.toNat v.t (chV v.rs ps') (tlL tl v.ps)->But o H H'->IsHs cs cS cH H' o { v with ps:=ps',aP:=l' }->IsGr cG H' g n->Q (.ref g) H')) (_:∀g H',Same H H'->IsLt cL H' g->Q (.ref g) H')
def zeo:FnScope ["self","pieces","sorts","hands","number","late"] pl24 (zac zdn):=fsc
include T in
theorem ziu(D:Mfn K "asked" "House.asked" zdn pl24 f fd)(zgF:Cal P w K mg bj "kept_all" 11 pl19 (zsd K tT))(aY:Cal P w K mg bj "chores_of" 10 pl20 (zgx K (CsA.mk Aa Ad Ab) Ae))(C6:MakG CX0 P w K mg bj "Granted" Ag 1 (zpM Ag))(C7:MakG CX0 P w K mg bj "LateOne" Af 2 (zpN Af))(CA:MOk CX0 P w K mg bj 2 Ac "told_now" (zsg K (CsA.mk Aa Ad Ab) Ae Ac)):FnOk P w K mg bj CX0 13 f fd pl24 (zpR K (CsA.mk Aa Ad Ab) Ae Ac Ag Af tT):=by
 refine D.F.ok zeo (by walk_at "z") (λc A o s H vs Q E hr h=>?_)
 obtain⟨o,v,tl,l',ps',n,rfl,hh,ok,ht,hP,ok',hT,q,qL⟩:=h
 obtain⟨dx,e⟩:=hh.at_
 have O:=T.Ah
 refine⟨_,(zab (zam (i:=5) zeo.nd rfl (Or.inl rfl) (zai zgF hr.o rfl (pai (zag (zai aY hr.o rfl (zaa (pv 1) (zaa (pv 2) zae))) (zag (pv 3) (zag (zaq (pv 0) rfl) (zag (zaO (k:=2) (pv 0) hr.o zaT) zbd)))))))
  (zab (zaQ (zan znX (pv 5) zdC (zas _)) (zaf (zaj (zhM C7 hr.o rfl zaT (pai (zag (zak zah (pv 5) zad (λ_ _=>rfl)) (zag (zak zah (pv 5) zad (λ_ _=>rfl)) (zag (zak zah (pv 5) zad (λ_ _=>rfl)) (zag (zak zah (pv 5) zad (λ_ _=>rfl)) zbd)))))))) zat)
  (zab (zaM (pv 0) (pv 1))
  (zab (zaM (pv 0) (pv 2))
  (zab (zaM (pv 0) (pv 3))
  (zaf (zaj (zhM C6 hr.o rfl zaT (zaa (pv 4) zae))))))))),?_⟩
 refine⟨_,rfl,_,rfl,l',v.aS,ps',v.rs,rfl,hP,hh.p.st,ok',λD H1 xs s1 nD hI ex=>?_⟩
 have e1:=s1 _ _ e
 have hh1:=hh.same s1
 refine⟨_,rfl,_,rfl,o,_,dx,_,_,rfl,e1,O.cl,T.Al,rfl,_,rfl,o,_,dx,_,_,rfl,e1,rfl,CA,o,v,tl,rfl,hh1,ok.p,ht.same s1,λd H2 s2 nd hd=>?_⟩
 have s02:=s1.trans s2
 refine⟨D,xs,v.h,v.t,d,tlL tl v.ps,rfl,hI.same s2,ok.h0,ok.t0,ok.t1,s02 _ _ hT,.inl hd,λE1 H3 rs s3 nE R l40 l14=>⟨λem=>?_,λM vv uu p hM _ _ _ _ hp=>?_⟩⟩
 ·have s03:=s02.trans s3
  have e3:=s03 _ _ e
  refine⟨_,rfl,rfl,_,rfl,iteF ?_⟩
  have p3:HsP (CsA.mk Aa Ad Ab) Ae H3 { v with ps:=ps',aP:=l' }:=⟨hh.p.st.same s03,hP.same s03,s03 _ _ hh.p.nb,let ⟨rw,a,b⟩:=hh.p.rw;⟨rw,s03 _ _ a,b⟩⟩
  refine⟨_,rfl,_,rfl,o,_,dx,_,rfl,e3,O.cl,T.Ai,(by show(6:Nat)<1000;decide),λH4 k4 h4=>?_⟩
  have p4:=p3.but e3 k4
  have e4:H4 o=some (.ins Ac dx ({ v with ps:=ps',aP:=l' }:Hv).fs):=h4
  refine⟨_,rfl,_,rfl,o,_,dx,_,rfl,e4,O.cl,T.Aq,(by show(6:Nat)<1000;decide),λH5 k5 h5=>?_⟩
  have p5:=p4.but e4 k5
  have e5:H5 o=some (.ins Ac dx ({ v with ps:=ps',aP:=l' }:Hv).fs):=h5
  refine⟨_,rfl,_,rfl,o,_,dx,_,rfl,e5,O.cl,T.Az,(by show(6:Nat)<1000;decide),λH6 k6 h6=>?_⟩
  have p6:=p5.but e5 k6
  have e6:H6 o=some (.ins Ac dx ({ v with ps:=ps',aP:=l' }:Hv).fs):=h6
  obtain⟨N,a1,a2,_⟩:=R.eq
  have a1:aC rs=_:=a1
  rw[ex]at a1 a2
  rw[a1]at em
  refine⟨_,rfl,n,rfl,λg H7 s7 ng hg=>q g H7 ⟨N,a2,em⟩ (s03.toBut.trans (k4.trans (k5.trans (k6.trans s7.toBut)))) ⟨⟨dx,s7 _ _ e6⟩,p6.same s7⟩ hg⟩
 ·refine⟨_,rfl,rfl,_,rfl,iteT ?_⟩
  have ix:∀(j:Nat)(x:V),[V.int M,V.int vv,V.int uu,V.ref E1][j]?=some x->atI [V.int M,V.int vv,V.int uu,V.ref E1] (j:Int)=some x:=λj x h=>zhs h
  exact⟨_,rfl,p,_,_,_,rfl,rfl,SqT.of hp,ix 0 _ rfl,_,rfl,p,_,_,_,rfl,rfl,SqT.of hp,ix 1 _ rfl,_,rfl,p,_,_,_,rfl,rfl,SqT.of hp,ix 2 _ rfl,_,rfl,p,_,_,_,rfl,rfl,SqT.of hp,ix 3 _ rfl,E1,_,_,_,rs,rfl,R.run,by omega,λg H4 s4 ng hg=>qL g H4 (s02.trans (s3.trans s4)) hg⟩
inductive zmM(K:am)(cs:CsA)(cS cH cG cL tT:Addr)(vs:List V)(H:Hp)(Q:VK)(_:XK):Prop
 | mk (o:Addr) (v:Hv) (tl:Int->Int) (b:Addr × Wd × Pv) (_:vs=[.ref o,.ref b.1]) (_:IsHs cs cS cH H o v) (_:HvOk v) (_:TlP H v tl) (_:IsPc cs H b.1 b.2.1 b.2.2) (_:H tT=some (.tbl zba lamQ)) (_:(v.ps.filter λq=>q.2.1.opn).length<40) (_:PsOk v.rs (v.ps++[b])) (_:(∀g l' H',zrp v.h.toNat v.t (chV v.rs (v.ps++[b])) (tlL tl v.ps)->But o H H'->H l'=none->IsHs cs cS cH H' o { v with ps:=v.ps++[b],aP:=l' }->IsGr cG H' g (.int b.2.2.n)->Q (.ref g) H')) (_:∀g H',Same H H'->IsLt cL H' g->Q (.ref g) H')
def fT:FnScope ["self","piece"] ["self","piece"] (zac zbN):=fsc
include T in
theorem fU(D:Mfn K "asked_with" "House.asked_with" zbN ["self","piece"] f fd)(DI:MOk CX0 P w K mg bj 13 Ac "asked" (zpR K (CsA.mk Aa Ad Ab) Ae Ac Ag Af tT))(BM:MOk CX0 P w K mg bj 12 Ac "check_room" (zsf K (CsA.mk Aa Ad Ab) Ae Ac)):FnOk P w K mg bj CX0 14 f fd ["self","piece"] (zmM K (CsA.mk Aa Ad Ab) Ae Ac Ag Af tT):=by
 refine D.F.ok fT (by walk_at "z") (λc A o s H vs Q E hr h=>?_)
 obtain⟨o,v,tl,b,rfl,hh,ok,ht,hb,hT,c,ok',q,qL⟩:=h
 obtain⟨dx,e⟩:=hh.at_
 have O:=T.Ah
 have S:=zcC T
 refine⟨_,(zab (zbw (zaO (k:=12) (pv 0) hr.o zaT))
  (zaf (zaj (zdD (k:=13) (pv 0) hr.o zaT (pai (zag (zaz zlg (zaq (pv 0) rfl) (az (zaa (pv 1) zae))) (zag (zaq (pv 0) rfl) (zag (zaq (pv 0) rfl) (zag (zaq (pv 1) rfl) zbd))))))))),?_⟩
 refine⟨_,rfl,o,_,dx,_,_,rfl,e,rfl,BM,o,v,rfl,hh,ok.p,c,λH1 s1=>?_⟩
 have e1:=s1 _ _ e
 have hh1:=hh.same s1
 have big:(10000:Nat)<=sizeLine:=by decide
 have ll:=ok.p.len
 refine⟨_,rfl,o,_,dx,_,_,rfl,e1,rfl,DI,_,rfl,o,_,dx,_,_,rfl,e1,O.cl,T.Ai,rfl,_,rfl,si1,λl2 H2 s2 n2 h2=>?_⟩
 have hh2:=hh1.same s2
 refine⟨v.aP,l2,_,_,rfl,rfl,SqL.of hh2.p.ps.at_,SqL.of h2,by rw[tm];show v.ps.length+1<=_;omega,λC H3 s3 n3 h3=>?_⟩
 have s03:=s1.trans (s2.trans s3)
 have hh3:=hh.same s03
 have e3:=s03 _ _ e
 obtain⟨bdx,eb⟩:=hb.same s03
 have hP:IsPs (CsA.mk Aa Ad Ab) H3 C (v.ps++[b]):=by
  refine⟨by rw[h3,t4];rfl,λq hq=>?_⟩
  rcases mem_append.mp hq with hq | hq
  ·exact hh3.p.ps.pc q hq
  ·rw[mem_singleton.mp hq]
   exact⟨bdx,eb⟩
 exact⟨_,rfl,o,_,dx,_,_,rfl,e3,O.cl,T.Aq,rfl,_,rfl,o,_,dx,_,_,rfl,e3,O.cl,T.Az,rfl,_,rfl,b.1,_,bdx,_,_,rfl,eb,(S.ow b.2.1).cl,S.n1 b.2.1,rfl,o,v,tl,C,v.ps++[b],.int b.2.2.n,rfl,hh3,ok,ht.same s03,hP,ok',s03 _ _ hT,λg H4 kp k4 h4 hg=>q g C H4 kp (s03.toBut.trans k4) (Same.free (s1.trans s2) n3) h4 hg,λg H4 s4 hg=>qL g H4 (s03.trans s4) hg⟩
def pvOf(r:SR)(n:Nat)(c:Int):Pv:=⟨n,r.nm,c,r.sp,r.tr,0⟩
inductive zpS(K:am)(cs:CsA)(cS cH cG cL tT:Addr)(vs:List V)(H:Hp)(Q:VK)(_:XK):Prop
 | mk (o:Addr) (v:Hv) (tl:Int->Int) (r:SR) (km:Nat) (_:vs=[.ref o,.str r.nm]) (_:IsHs cs cS cH H o v) (_:HvOk v) (_:TlP H v tl) (_:H tT=some (.tbl zba lamQ)) (_:(∀n,NbP H v n km)) (_:km<=1000) (_:v.nb.length<=1000) (_:r∈v.rs) (_:(∀s,s∈v.rs->s.nm=r.nm->s=r)) (_:(v.ps.filter λq=>q.2.1.opn).length<40) (_:(∀a,PsOk v.rs (v.ps++[(a,.waiting,pvOf r v.ps.length v.t)]))) (_:0<(pvOf r v.ps.length v.t).left .waiting) (_:(∀a l' l us u d Hd L g H',zrp v.h.toNat v.t (chV v.rs (v.ps++[(a,.waiting,pvOf r v.ps.length v.t)])) (tlL tl v.ps)->But2 o v.aN H H'->LatOf Hd d v.h.toNat v.t (chV v.rs (v.ps++[(a,.waiting,pvOf r v.ps.length v.t)])) L->valI L (v.ps.length:Int)=some u->H' l=some (.lst ((us++[u]).map V.int))->us.length<=km->H l=none->H l'=none->IsHs cs cS cH H' o { v with ps:=v.ps++[(a,.waiting,pvOf r v.ps.length v.t)],aP:=l',nb:=putK v.nb (.inl (v.ps.length:Int)) (.ref l) }->IsGr cG H' g (.int v.ps.length)->Q (.ref g) H')) (_:∀g H',Same H H'->IsLt cL H' g->Q (.ref g) H')
def zbR:FnScope ["self","sort","known","places","piece","verdict"] ["self","sort"] (zac zdU):=fsc
include T in
theorem zjr(D:Mfn K "come" "House.come" zdU ["self","sort"] f fd)(AA:Mak P w K mg bj "Waiting" Aa 1 pl0 (.int 0))(BN:MOk CX0 P w K mg bj 14 Ac "asked_with" (zmM K (CsA.mk Aa Ad Ab) Ae Ac Ag Af tT))(Cf:MOk CX0 P w K mg bj 1 Ag "granted" (zkC Ag)/\MOk CX0 P w K mg bj 1 Af "granted" (zse Af))(Dq:MOk CX0 P w K mg bj 1 Ac "places" (zmK (CsA.mk Aa Ad Ab) Ae Ac))(Bl:MOk CX0 P w K mg bj 7 Ae "sort_of" (zjg Aj Ae))(DS:MOk CX0 P w K mg bj 14 Ac "tell" (zsh K (CsA.mk Aa Ad Ab) Ae Ac tT)):FnOk P w K mg bj CX0 16 f fd ["self","sort"] (zpS K (CsA.mk Aa Ad Ab) Ae Ac Ag Af tT):=by
 refine D.F.ok zbR (by walk_at "z") (λc A o s H vs Q E hr h=>?_)
 obtain⟨o,v,tl,r,km,rfl,hh,ok,ht,hT,hn,hkm,ln,hr',un,op,okn,lf,q,qL⟩:=h
 obtain⟨dx,e⟩:=hh.at_
 have O:=T.Ah
 have S:=zcC T
 have hst:=hh.p.st
 obtain⟨sdx,sl,sxs,es,_,_⟩:=id hst
 refine⟨_,(zab (zam (i:=2) zbR.nd rfl (Or.inl rfl) (zdD (k:=7) (zaq (pv 0) rfl) hr.o zaT (zaa (pv 1) zae)))
  (zab (zet (i:=3) (N:=["place","self","sort"]) (js:=[0,1]) zbR.nd rfl rfl rfl cpo (zaB (zaO (k:=1) (pv 0) hr.o zaT)) (λ_ _ _ _ _=>(zcN (zan (znk (K:=K) rfl hr.units0) (zaK (zaa (zdO (K:=K) rfl (pv 0) rfl) (zaa (zdO (K:=K) rfl (pv 0) rfl) zae))) (zaK (zaa (pv 2) (zaa (zdO (K:=K) rfl (pv 1) rfl) zae))) (zas _)))) (λ_ _ _ _ _=>(pv 0)))
  (zab (zaQ (zan zei (zau zaH rfl T.zdW zcm (zaa (pv 3) zae)) zad (zas _)) (zaf aB) zat)
  (zab (zam (i:=4) zbR.nd rfl (Or.inl rfl) (zlh AA hr.o rfl (pai (zag (zau zaH rfl T.zdW zcm (zaa (zaq (pv 0) rfl) zae)) (zag (zaq (pv 2) rfl) (zag (zaq (pv 0) rfl) (zag (zaq (pv 2) rfl) (zag (zaq (pv 2) rfl) zbd))))))))
  (zab (zam (i:=5) zbR.nd rfl (Or.inl rfl) (zdD (k:=14) (pv 0) hr.o zaT (zaa (pv 4) zae)))
  (zab (zaQ (zaR (zaO (k:=1) (pv 5) hr.o zaT)) (zaf (zbw (zdD (k:=14) (pv 0) hr.o zaT (zaa (zaq (pv 4) rfl) zae)))) zat)
  (zaf (zaj (pv 5))))))))),?_⟩
 refine⟨_,rfl,o,_,dx,_,_,rfl,e,O.cl,T.Aq,rfl,v.aS,_,sdx,_,_,rfl,es,rfl,Bl,_,rfl,v.aS,v.rs,r,rfl,hst,ok.p.rl,ok.p.ro,hr',un,λb H1 s1 hb=>?_⟩
 have e1:=s1 _ _ e
 have hh1:=hh.same s1
 refine⟨_,rfl,o,_,dx,_,_,rfl,e1,rfl,Dq,o,v,rfl,hh1,ok.p.len,λl H2 s2 nl hl=>⟨l,rfl,⟨_,SqL.of hl⟩,?_⟩⟩
 have s02:=s1.trans s2
 refine zaS (xs:=[]) (λ_=>true) (λ_=>.non) (SqL.of hl) (λi x Hh Q' hx _ _=>by simp at hx) (λi x Hh Q' hx _ _ _=>by simp at hx) (zax (by decide)) (λD H3 s3 nD hD=>?_)
 have hD:H3 D=some (.lst []):=hD
 have s03:=s02.trans s3
 have hh3:=hh.same s03
 have e3:=s03 _ _ e
 refine⟨_,rfl,D,_,rfl,.inl (SqL.of hD),_,_,rfl,rfl,_,rfl,aA (by decide) ?_⟩
 obtain⟨bdx,pw,pz,b1,b2,b3⟩:=hb.same (s2.trans s3)
 have SO:=T.Dv
 refine⟨_,rfl,o,_,dx,_,_,rfl,e3,O.cl,T.Ai,rfl,v.aP,_,rfl,.inl (SqL.of hh3.p.ps.at_),_,rfl,b,_,bdx,_,_,rfl,b1,SO.cl,T.B8,rfl,_,rfl,o,_,dx,_,_,rfl,e3,O.cl,T.Al,rfl,_,rfl,b,_,bdx,_,_,rfl,b1,SO.cl,T.B9,rfl,_,rfl,b,_,bdx,_,_,rfl,b1,SO.cl,T.BL,rfl,rfl,λa adx H4 s4 n4 h4=>?_⟩
 have s04:=s03.trans s4
 have hh4:=hh.same s04
 have e4:=s04 _ _ e
 have ml2:(v.ps.map λq=>V.ref q.1).length=v.ps.length:=tm _
 have ha:IsPc (CsA.mk Aa Ad Ab) H4 a .waiting (pvOf r v.ps.length v.t):=⟨adx,by rw[h4,ml2];rfl⟩
 refine⟨_,rfl,o,_,dx,_,_,rfl,e4,rfl,BN,_,rfl,o,v,tl,(a,.waiting,pvOf r v.ps.length v.t),rfl,hh4,ok,ht.same s04,ha,s04 _ _ hT,op,okn a,λg l' H5 kp k5 nl5 hH5 hg=>?_,λg H5 s5 hg=>?_⟩
 rotate_left
 ·obtain⟨gdx,g0,g2,g3,g4,g1⟩:=id hg
  exact⟨_,rfl,g,_,gdx,_,_,rfl,g1,rfl,Cf.2,g,rfl,hg,_,rfl,iteF ⟨_,rfl,qL g H5 (s04.trans s5) hg⟩⟩
 obtain⟨gdx,g1⟩:=id hg
 have ao:a≠o:=λz=>by
  rw[z,e3]at n4
  cases n4
 obtain⟨adx4,a4⟩:=id ha
 have a5:=k5 _ _ ao a4
 obtain⟨dx5,e5⟩:=hH5.at_
 have ne:∀{z:Addr}{u:HO},H z=some u->(∀C dx fs,u≠.ins C dx fs)->z≠o:=λhz hu w=>by
  rw[w,e]at hz
  cases hz
  exact hu _ _ _ rfl
 have hT5:=k5 _ _ (ne hT λ_ _ _ w=>by cases w) (s04 _ _ hT)
 have ei5:(v.ps++[(a,Wd.waiting,pvOf r v.ps.length v.t)])[v.ps.length]?=some (a,Wd.waiting,pvOf r v.ps.length v.t):=by
  rw[sN (tF _),Nat.sub_self]
  rfl
 refine⟨_,rfl,g,_,gdx,_,_,rfl,g1,rfl,Cf.1,g,_,rfl,hg,_,rfl,iteT ?_⟩
 refine⟨_,rfl,o,_,dx5,_,_,rfl,e5,rfl,DS,_,rfl,a,_,adx4,_,_,rfl,a5,(S.ow .waiting).cl,S.n1 .waiting,rfl,o,_,v.ps.length,_,km,rfl,hH5,⟨okn a,ok.h0,ok.t0,ok.t1⟩,hT5,ei5,rfl,lf,?_,hkm,ln,?_⟩
 ·intro x hx
  obtain⟨l,us,b1,b2,b3⟩:=hn _ x hx
  exact⟨l,us,b1,k5 _ _ (ne b2 λ_ _ _ w=>by cases w) (s04 _ _ b2),b3⟩
 ·intro u d Hd L l us H6 sd hL hu k6 nl hl lk h6
  have g6:=k6 _ _ (λw=>by have:=hH5.p.nb;rw[<-w,g1]at this;cases this) g1
  exact⟨_,rfl,q a l' l us u d Hd L g H6 kp (λc u c1 c2 hc=>k6 _ _ c2 (k5 _ _ c1 (s04 _ _ hc))) hL hu hl lk (Same.free s04 (But.free k5 e5 nl)) (Same.free s04 nl5) (hH5.put k6 h6) ⟨gdx,g6⟩⟩
structure Ens(H:Hp)(d:Addr)(en:Int->Option Bool):Prop where
 ex:∃kvs:List (Key × V),Rd H d (.dK kvs)/\kvs.length<sizeLine/\(∀n,valV kvs (.inl n)=(en n).map λb=>V.str (if b then "done" else "failed"))/\∀p,p∈kvs->∃n,p.1=.inl n/\(en n).isSome=true
def zrq(ws:List Int):(ws.map V.int).all zcd=true:=by
 rw[all_eq_true]
 intro x hx
 obtain⟨i,_,rfl⟩:=mem_map.mp hx
 rfl
inductive zsi(K:am)(vs:List V)(H:Hp)(Q:VK)(_:XK):Prop
 | mk (d m:Addr) (en:Int->Option Bool) (kvs:List (Key × V)) (ws:List Int) (_:vs=[.ref d,.ref m]) (_:H d=some (.dK kvs)) (_:kvs.length<sizeLine) (_:(∀n,valV kvs (.inl n)=(en n).map λb=>V.str (if b then "done" else "failed"))) (_:(∀p,p∈kvs->∃n,p.1=.inl n/\(en n).isSome=true)) (_:H m=some (.lst (ws.map V.int))) (_:ws.length<=40) (_:(∀n,(en n).isSome=true->n∈ws)) (_:∀H' ob,But d H H'->H' d=some (.frz ob (.dK kvs))->Q .non H')
def zfJ:FnScope ["ends","numbers","number"] ["ends","numbers"] (zac zdT):=fsc
include T in
theorem zjs(D:Dfn K mg "check_ends" zdT ["ends","numbers"] f fd)(zao:Cal P w K mg bj "is_whole" 1 pl3 (zbn K)):Cal P w K mg bj "check_ends" 2 ["ends","numbers"] (zsi K):=by
 refine D.cal (D.F.ok zfJ (by walk_at "z") (λc A o s H vs Q E hr h=>?_))
 obtain⟨d,m,en,kvs,ws,rfl,hd,kl,kv,kn,hm,wl,ew,q⟩:=h
 refine⟨_,(zaf (zcL tY rfl (zpf (pv 0)) (ay (i:=2) zfJ.nd rfl (Or.inr rfl)) (zab (zaQ (zbi (zaR (zau (zhE rfl) rfl T.ztm zoI (zaa (zaN (N:=["known","number"]) (js:=[2]) rfl cpo (zaB (pv 1)) (λ_ _ _ _ _=>zbx) (λ_ _ _ _ _=>(zai zao hr.o rfl (zaa (pv 1) (zaa (pv 0) (zaa (pv 0) zae)))))) zae)))) (zaf aB) zat)
  (zaf (zaQ (zan zgO (zcT hr.units1 (pv 0) (pv 2) (λ_ _=>rfl)) (zaK (zaa zbD (zaa zbD zae))) rfl) (zaf aB) zat))))),?_⟩
 have md:m≠d:=λz=>by
  rw[z,hd]at hm
  cases hm
 refine⟨_,rfl,d,kvs,rfl,.inl hd,λob H1 k1 h1=>?_⟩
 have hm1:=k1 _ _ md hm
 refine zre (λi σ H'=>∃v2:Option V,σ=[some (.ref d),some (.ref m),v2]/\Same H1 H') ⟨_,rfl,Same.refl _⟩ (λi σ H' ⟨_,_,s⟩=>s _ _ h1) ?_ ?_
 ·rintro i p σ HA hp ⟨v2,rfl,sA⟩
  obtain⟨n,en1,en2⟩:=kn p (tE hp)
  rw[en1]
  have hmA:=sA _ _ hm1
  have nw:=ew n en2
  have ml:(ws.map V.int).length=ws.length:=tm _
  refine⟨_,rfl,m,rfl,⟨_,SqL.of hmA⟩,?_⟩
  refine zaS (xs:=ws.map V.int) (λ_=>true) (itm ws λk=>V.bl (decide (k<=n)&&decide (n<=k))) (SqL.of hmA) (λi x Hh Q' hx sh q'=>q' Hh (Same.refl _)) ?_ (zax (by rw[ml];omega)) (λD H2 s2 nD hD=>?_)
  ·intro i x Hh Q' hx _ sh q'
   obtain⟨k,ez,hx⟩:=gmp hx
   cases hx
   have zz:=q' Hh (Same.refl _)
   unfold itm at zz
   rw[ez]at zz
   exact⟨_,rfl,_,rfl,_,rfl,.int n,k,k,_,rfl,.inl ⟨n,rfl,rfl⟩,zz⟩
  rw[zbW,ml,zes]at hD
  have hD:H2 D=some (.lst ((ws.map λk=>decide (k<=n)&&decide (n<=k)).map V.bl)):=by
   rw[hD,t5]
   rfl
  refine⟨D,_,rfl,SqL.of hD,?_⟩
  have at_:((ws.map λk=>decide (k<=n)&&decide (n<=k)).any id)=true:=by
   rw[List.any_eq_true]
   exact⟨true,mem_map.mpr ⟨n,nw,by simp⟩,rfl⟩
  rw[at_]
  refine⟨_,rfl,iteF ?_⟩
  obtain⟨b,eb⟩:=Option.isSome_iff_exists.mp en2
  have g:DGet H2 d (.int n) (some (V.str (if b then "done" else "failed"))):=.inl ⟨kvs,.inl n,.inr ⟨ob,(sA.trans s2) _ _ h1⟩,rfl,by rw[kv,eb];rfl⟩
  refine⟨_,rfl,_,rfl,d,_,rfl,g,si2,λtp H3 s3 n3 h3=>⟨tp,_,rfl,.inr (SqT.of h3),rfl,rfl,?_⟩⟩
  have iv:(if true=true then !inV (V.str (if b then "done" else "failed")) [V.str "done",V.str "failed"]else inV (V.str (if b then "done" else "failed")) [V.str "done",V.str "failed"])=false:=by
   cases b with
   | true=>decide +kernel
   | false=>decide +kernel
  rw[iv]
  exact⟨_,rfl,iteF ⟨_,rfl,sA.trans (s2.trans s3)⟩⟩
 ·rintro σ HA ⟨v2,rfl,sA⟩
  exact q HA ob (k1.trans sA.toBut) (sA _ _ h1)
def bhP(ws:List Int)(en:Int->Option Bool)(x:Wd × Pv):Wd × Pv:=if x.2.n∈ws then(match en x.2.n with | some true=>(.done,x.2) | some false=>x.2.fail | none=>x.2.step)else x
inductive zsj(K:am)(cs:CsA)(vs:List V)(H:Hp)(Q:VK)(_:XK):Prop
 | mk (q0:Addr × Wd × Pv) (t:Int) (m d:Addr) (ws:List Int) (kvs:List (Key × V)) (en:Int->Option Bool) (_:vs=[.ref q0.1,.int t,.ref m,.ref d]) (_:IsPc cs H q0.1 q0.2.1 q0.2.2) (_:H m=some (.lst (ws.map V.int))) (_:Rd H d (.dK kvs)) (_:(∀n,valV kvs (.inl n)=(en n).map λb=>V.str (if b then "done" else "failed"))) (_:(q0.2.2.n∈ws->q0.2.1=.waiting)) (_:∀a' H',Same H H'->IsPc cs H' a' (bhP ws en q0.2).1 (bhP ws en q0.2).2->Q (.ref a') H')
def zdZ:FnScope ["piece","turn","numbers","ends","end"] pl25 (zac zcX):=fsc
include T in
theorem fV(D:Dfn K mg "piece_behind" zcX pl25 f fd)(DT:MOk CX0 P w K mg bj 3 Aa "done" (zhX (CsA.mk Aa Ad Ab) λp=>(.done,p)))(BV:MOk CX0 P w K mg bj 3 Aa "failed" (zhX (CsA.mk Aa Ad Ab) Pv.fail))(C8:MOk CX0 P w K mg bj 4 Aa "stepped" (zhX (CsA.mk Aa Ad Ab) Pv.step)):Cal P w K mg bj "piece_behind" 5 pl25 (zsj K (CsA.mk Aa Ad Ab)):=by
 refine D.cal (D.F.ok zdZ (by walk_at "z") (λc A o s H vs Q E hr h=>?_))
 obtain⟨q0,t,m,d,ws,kvs,en,rfl,hp,hm,hd,kv,hw,q⟩:=h
 have S:=zcC T
 obtain⟨dx,e⟩:=id hp
 refine⟨_,(zab (zaQ (PW.pt (zhh (zaR (zau (zhx (C:=Au)) rfl T.zaI zaD (zaa (pv 0) (zaa (zbv (v:=.ref Au) rfl T.D9 rfl) zae)))) (zeq (zan zdd (zaq (pv 0) rfl) (pv 1) (zas _))))) (zaf aB) zat)
  (zab (zaQ (zan zgO (zaq (pv 0) rfl) (pv 2) rfl) (zaf (zaj (pv 0))) zat)
  (zab (zam (i:=4) zdZ.nd rfl (Or.inl rfl) (zqx hr.units1 (pv 3) (zaq (pv 0) rfl) ⟨rfl,rfl,rfl,rfl⟩))
  (zab (zaQ (zan zdd (pv 4) zbD (zas _)) (zaf (zaj (zaO (k:=3) (pv 0) hr.o zaT))) zat)
  (zaf (zaj (zcK (zan zdd (pv 4) zbD (zas _)) (zaO (k:=3) (pv 0) hr.o zaT) (zaO (k:=4) (pv 0) hr.o zaT)))))))),?_⟩
 refine⟨_,rfl,_,_,_,rfl,.old ((S.ow q0.2.1).ty e),is_h T q0.2.1,_,rfl,iteF (iteF ?_)⟩
 refine⟨_,rfl,q0.1,_,dx,_,_,rfl,e,(S.ow q0.2.1).cl,S.n1 q0.2.1,rfl,_,rfl,m,_,rfl,.inl (SqL.of hm),rfl,zrq ws,?_⟩
 have iv:(if true=true then !inV (V.int q0.2.2.n) (ws.map V.int)else inV (V.int q0.2.2.n) (ws.map V.int)) = !decide (q0.2.2.n∈ws):=by
  rw[if_pos rfl,zle]
 rw[iv]
 unfold bhP at q
 by_cases c:q0.2.2.n∈ws
 ·rw[if_pos c]at q
  rw[decide_eq_true c]
  refine⟨_,rfl,iteF ?_⟩
  have ew:=hw c
  rw[ew]at e
  have hp:IsPc (CsA.mk Aa Ad Ab) H q0.1 .waiting q0.2.2:=⟨dx,e⟩
  have g:DGet H d (.int q0.2.2.n) ((en q0.2.2.n).map λb=>V.str (if b then "done" else "failed")):=.inl ⟨kvs,.inl q0.2.2.n,hd,rfl,(kv _).symm⟩
  refine⟨_,rfl,d,rfl,.inl ⟨kvs,hd⟩,_,rfl,q0.1,_,dx,_,_,rfl,e,(S.ow .waiting).cl,S.n1 .waiting,rfl,_,g,?_⟩
  cases h:en q0.2.2.n with
  | none=>
    rw[h]at q
    refine⟨_,rfl,rfl,_,rfl,aA (λz=>by cases z) ?_⟩
    refine⟨_,rfl,rfl,_,rfl,aA (λz=>by cases z) ?_⟩
    exact⟨_,rfl,q0.1,_,dx,_,_,rfl,e,rfl,C8,q0.1,_,rfl,hp,q⟩
  | some b=>
    rw[h]at q
    cases b with
    | true=>
      refine⟨_,rfl,rfl,_,rfl,iteD rfl ?_⟩
      exact⟨_,rfl,q0.1,_,dx,_,_,rfl,e,rfl,DT,q0.1,_,rfl,hp,q⟩
    | false=>
      refine⟨_,rfl,rfl,_,rfl,aA (λz=>?_) ?_⟩
      ·have:=V.str.inj z
       revert this
       decide +kernel
      refine⟨_,rfl,rfl,_,rfl,iteD rfl ?_⟩
      exact⟨_,rfl,q0.1,_,dx,_,_,rfl,e,rfl,BV,q0.1,_,rfl,hp,q⟩
 ·rw[if_neg c]at q
  rw[tS c]
  exact⟨_,rfl,iteT ⟨_,rfl,q q0.1 H (Same.refl _) hp⟩⟩
def PsOk.one{rs:List SR}{ps:List (Addr × Wd × Pv)}(h:PsOk rs ps){q z:Addr × Wd × Pv}(hq:q∈ps)(hz:z∈ps)(e:q.2.2.n=z.2.2.n):q=z:=by
 obtain⟨i,hi,ei⟩:=t6 hq
 obtain⟨j,hj,ej⟩:=t6 hz
 have a:=h.nm i q (by rw[tj hi,ei])
 have b:=h.nm j z (by rw[tj hj,ej])
 have:i=j:=by omega
 subst this
 rw[<-ei,<-ej]
def IsHs.butD{cs:CsA}{cS cH o d:Addr}{H H':Hp}{v:Hv}{kvs:List (Key × V)}(h:IsHs cs cS cH H o v)(k:But d H H')(hd:H d=some (.dK kvs))(ne:d≠v.aN):IsHs cs cS cH H' o v:=by
 have nl:∀ {z xs},H z=some (.lst xs)->z≠d:=λe z=>by rw[z,hd]at e;cases e
 have nt:∀ {z xs},H z=some (.tup xs)->z≠d:=λe z=>by rw[z,hd]at e;cases e
 have ni:∀ {z C dx fs},H z=some (.ins C dx fs)->z≠d:=λe z=>by rw[z,hd]at e;cases e
 obtain⟨dx,e0⟩:=h.at_
 obtain⟨sdx,l,xs,e1,e2,e3⟩:=h.p.st
 obtain⟨rw,r1,r2⟩:=h.p.rw
 refine⟨⟨dx,k _ _ (ni e0) e0⟩,⟨sdx,l,xs,k _ _ (ni e1) e1,⟨k _ _ (nl e2.at_) e2.at_,λq hq=>?_⟩,e3⟩,⟨k _ _ (nl h.p.ps.at_) h.p.ps.at_,λq hq=>?_⟩,k _ _ (Ne.symm ne) h.p.nb,rw,k _ _ (nl r1) r1,r2⟩
 ·obtain⟨pw,ps,a,b,c⟩:=e2.sr q hq
  exact⟨pw,ps,k _ _ (nt a) a,k _ _ (nt b) b,k _ _ (nt c) c⟩
 ·obtain⟨pdx,ep⟩:=h.p.ps.pc q hq
  exact⟨pdx,k _ _ (ni ep) ep⟩
def wsV(v:Hv):List Int:=((ord (clV v.rs v.ps) v.t).map (·.n)).take v.h.toNat
def zlD{v:Hv}{n:Int}(h:n∈wsV v):∃q,q∈v.ps/\q.2.1=.waiting/\q.2.2.n=n:=by
 unfold wsV at h
 obtain⟨c,hc,rfl⟩:=mem_map.mp (qz h)
 have hc:=(zaU _ _).mem_iff.mp hc
 obtain⟨q,hq,rfl⟩:=mem_map.mp hc
 exact⟨q,(zcG.mp hq).1,(zcG.mp hq).2,rfl⟩
def ztv{v:Hv}(h:PsOk v.rs v.ps):(wsV v).length<=40:=by
 unfold wsV
 rw[sj,tm,(zaU _ _).length_eq]
 unfold clV
 rw[tm]
 have:=h.len_w .waiting rfl
 omega
def ztw(e:V)(en:Int->Option Bool)(aN:Addr)(H:Hp):Prop:=(e=.non/\∀n,en n=none)\/∃d kvs,e=.ref d/\d≠aN/\H d=some (.dK kvs)/\kvs.length<sizeLine/\(∀n,valV kvs (.inl n)=(en n).map λb=>V.str (if b then "done" else "failed"))/\(∀p,p∈kvs->∃n,p.1=.inl n/\(en n).isSome=true)
def ButE(o:Addr)(e:V)(H H':Hp):Prop:=∀c u,c≠o->(∀d,e=.ref d->c≠d)->H c=some u->H' c=some u
structure RwT(H H':Hp)(v:Hv)(lr:Addr):Prop where
 ex:∃(rw:List V)(p m:Addr),H v.aR=some (.lst rw)/\H p=none/\H m=none/\H' lr=some (.lst (rw++[.ref p]))/\H' p=some (.tup [.int v.t,.ref m])/\H' m=some (.lst ((wsV v).map V.int))
inductive zkD(K:am)(cs:CsA)(cS cH tT:Addr)(vs:List V)(H:Hp)(Q:VK)(_:XK):Prop
 | mk (o:Addr) (v:Hv) (e:V) (en:Int->Option Bool) (_:vs=[.ref o,e,.int 0]) (_:IsHs cs cS cH H o v) (_:HvOk v) (_:v.t<1000) (_:v.h<=40) (_:(∀q,q∈v.ps->q.2.1=.waiting->q.2.2.came<=v.t)) (_:H tT=some (.tbl zba lamQ)) (_:ztw e en v.aN H) (_:(∀n,(en n).isSome=true->n∈wsV v)) (_:∀ps' l' lr p m H',RwT H H' v lr->ps'.map (·.2)=v.ps.map (λq=>bhP (wsV v) en q.2)->ButE o e H H'->H l'=none->H lr=none->IsHs cs cS cH H' o { v with ps:=ps',aP:=l',aR:=lr,t:=v.t+1 }->H' p=some (.tup [.int v.t,.ref m])->H' m=some (.lst ((wsV v).map V.int))->Q (.ref p) H')
def zbk:FnScope ["self","ends","more","known","numbers","row"] pl26 (zac zaP):=fsc
include T in
theorem zfK{u1 u2:Value}(D:MfnE2 K "pass_turn" "House.pass_turn" zaP pl26 f fd u1 u2)(zao:Cal P w K mg bj "is_whole" 1 pl3 (zbn K))(zbu:Cal P w K mg bj "own_rows" 1 ["rows"] zfH)(b9:Cal P w K mg bj "check_ends" 2 ["ends","numbers"] (zsi K))(ci:Cal P w K mg bj "piece_behind" 5 pl25 (zsj K (CsA.mk Aa Ad Ab)))(An:MOk CX0 P w K mg bj 10 Ac "waiting" (bg K (CsA.mk Aa Ad Ab) Ae Ac tT)):FnOk P w K mg bj CX0 11 f fd pl26 (zkD K (CsA.mk Aa Ad Ab) Ae Ac tT):=by
 refine D.F.ok zbk (by walk_at "z") (λc A o s H vs Q E hr h=>?_)
 obtain⟨o,v,ee,en,rfl,hh,ok,t9,h9,ca,hT,hE,ew,q⟩:=h
 obtain⟨dx,e⟩:=hh.at_
 have O:=T.Ah
 refine⟨_,(zab (zaQ (zbi (zaR (zai zao hr.o rfl (zaa (pv 2) (zaa zad (zaa (zbv (v:=.int 6) rfl T.Bi.choose_spec ⟨_,rfl⟩) zae)))))) (zaf aB) zat)
  (bI (zam (i:=3) zbk.nd rfl (Or.inr rfl) (zcK (zan zjI (pv 1) zdC (zas _)) zfr (pv 1)))
  (zab (zam (i:=4) zbk.nd rfl (Or.inr rfl) (zco zcO (zaO (k:=10) (pv 0) hr.o zaT) zdJ (zcU (zaz aw (zaq (pv 0) rfl) (pv 2)))))
  (zab (zbw (zai b9 hr.o rfl (zaa (pv 3) (zaa (pv 4) zae))))
  (zab (zaM (pv 0) (zaN (N:=["piece","self","known","numbers"]) (js:=[0,3,4]) rfl cpo (zaB (zaq (pv 0) rfl)) (λ_ _ _ _ _=>zbx) (λ_ _ _ _ _=>(zai ci hr.o rfl (pai (zag (pv 0) (zag (zdO (K:=K) rfl (pv 1) rfl) (zag (pv 3) (zag (pv 2) zbd)))))))))
  (zab (zam (i:=5) zbk.nd rfl (Or.inl rfl) (zaK (zaa (zaq (pv 0) rfl) (zaa (pv 4) zae))))
  (zab (zaM (pv 0) (zaz zlg (zaq (pv 0) rfl) (zai zbu hr.o rfl (zaa (az (zaa (pv 5) zae)) zae))))
  (zab (eL (pv 0) zad ztQ)
  (zaf (zaj (pv 5))))))))))),?_⟩
 refine⟨_,rfl,.int 0,0,6,_,rfl,.inl ⟨0,rfl,rfl⟩,_,rfl,iteF ?_⟩
 refine⟨λσ' H'=>∃(d:Addr)(kvs:List (Key × V)),σ'=[some (.ref o),some ee,some (.int 0),some (.ref d),none,none]/\Same H H'/\(H d=none\/ee=.ref d)/\H' d=some (.dK kvs)/\kvs.length<sizeLine/\(∀n,valV kvs (.inl n)=(en n).map λb=>V.str (if b then "done" else "failed"))/\(∀p,p∈kvs->∃n,p.1=.inl n/\(en n).isSome=true),?_,?_⟩
 ·rcases hE with⟨rfl,hn⟩ | ⟨d,kvs,rfl,_,hd,kl,kv,kn⟩
  ·refine⟨_,rfl,rfl,_,rfl,iteD rfl λd H1 s1 nd hd=>⟨d,[],rfl,s1,.inl nd,hd,by decide,λn=>?_,λp hp=>by simp at hp⟩⟩
   rw[hn]
   rfl
  ·exact⟨_,rfl,rfl,_,rfl,aA (λz=>by cases z) ⟨_,rfl,d,kvs,rfl,Same.refl _,.inr rfl,hd,kl,kv,kn⟩⟩
 rintro σ' H1 ⟨d,kvs,rfl,s1,nd,hd,kl,kv,kn⟩
 have hh1:=hh.same s1
 have e1:=s1 _ _ e
 refine⟨_,rfl,o,_,dx,_,_,rfl,e1,rfl,An,o,v,rfl,hh1,ok.p,ok.t0,ok.t1,ca,s1 _ _ hT,λm0 H2 s2 n2 h2=>?_⟩
 have e2:=s2 _ _ e1
 refine⟨_,rfl,o,_,dx,_,_,rfl,e2,O.cl,T.Az,rfl,_,rfl,_,_,rfl,rfl,_,rfl,m0,_,rfl,SqL.of h2,λm H3 s3 n3 h3=>?_⟩
 have h3:H3 m=some (.lst ((wsV v).map V.int)):=by
  rw[h3,show v.h+0=((v.h.toNat:Nat):Int) by have:=ok.h0;omega,zmF]
  unfold wsV
  rw[pB]
 have s13:=s2.trans s3
 have hd3:=s13 _ _ hd
 have hh3:=hh1.same s13
 have ndN:d≠v.aN:=by
  rcases nd with nd | nd
  ·exact λz=>by
    have:=hh.p.nb
    rw[<-z,nd]at this
    cases this
  ·rcases hE with⟨z,_⟩ | ⟨d',kvs',z,ne,_⟩
   ·rw[z]at nd
    cases nd
   ·rw[z]at nd
    cases nd
    exact ne
 refine⟨_,rfl,_,rfl,d,m,en,kvs,wsV v,rfl,hd3,kl,kv,kn,h3,ztv ok.p,ew,λH4 ob k4 h4=>?_⟩
 have hh4:=hh3.butD k4 hd3 ndN
 have hm4:=k4 _ _ (λz=>by rw[z,hd3]at h3;cases h3) h3
 obtain⟨dx4,e4⟩:=hh4.at_
 have S:=zcC T
 have ml:(v.ps.map λq=>V.ref q.1).length=v.ps.length:=tm _
 refine⟨_,rfl,o,_,dx4,_,_,rfl,e4,O.cl,T.Ai,rfl,v.aP,rfl,⟨_,SqL.of hh4.p.ps.at_⟩,?_⟩
 refine zhG (xs:=v.ps.map λq=>V.ref q.1) (tak v.ps λ_=>true) (itG v.ps (λq=>bhP (wsV v) en q.2) (.done,⟨0,"",0,0,0,0⟩)) (λH u x=>IsPc (CsA.mk Aa Ad Ab) H u x.1 x.2) (λH H' u c t ⟨dx,h⟩=>⟨dx,t _ _ (λ_ z=>by cases z) h⟩) (SqL.of hh4.p.ps.at_) ?_ ?_ (zax (by rw[ml];have:=ok.p.len;omega)) (λD H5 bs s5 nD hD eb hb=>?_)
 ·intro i x Hh Q' hx sh q'
  rw[getElem?_map]at hx
  cases ez:v.ps[i]? with
  | none=>rw[ez]at hx;cases hx
  | some z=>
    have zz:=q' Hh (Same.refl _)
    unfold tak at zz
    rw[ez]at zz
    exact zz
 ·intro i x Hh Q' hx _ sh q'
  obtain⟨z,ez,hx⟩:=gmp hx
  cases hx
  have hz:=tE ez
  unfold itG at q'
  rw[ez]at q'
  obtain⟨dxh,eh⟩:=(hh4.same sh).at_
  refine⟨_,rfl,_,rfl,o,_,dxh,_,_,rfl,eh,O.cl,T.Al,rfl,_,rfl,_,rfl,z,v.t,m,d,wsV v,kvs,en,rfl,(hh4.same sh).p.ps.pc z hz,sh _ _ hm4,.inr ⟨ob,sh _ _ h4⟩,kv,λhw=>?_,λa' H' s' ha=>q' a' H' s' ha⟩
  obtain⟨y,hy,yw,yn⟩:=zlD hw
  rw[<-ok.p.one hy hz yn]
  exact yw
 rw[ml,zhN,zhd]at eb
 have e5:=s5 _ _ e4
 have p5:HsP (CsA.mk Aa Ad Ab) Ae H5 { v with ps:=bs,aP:=D }:=⟨hh4.p.st.same s5,⟨hD,hb⟩,s5 _ _ hh4.p.nb,let ⟨rw,a,b⟩:=hh4.p.rw;⟨rw,s5 _ _ a,b⟩⟩
 refine⟨_,rfl,o,_,dx4,_,rfl,e5,O.cl,T.Ai,(by show(6:Nat)<1000;decide),λH6 k6 h6=>?_⟩
 have p6:=p5.but e5 k6
 have e6:H6 o=some (.ins Ac dx4 ({ v with ps:=bs,aP:=D }:Hv).fs):=h6
 have ne:∀{z:Addr}{u:HO},H5 z=some u->(∀C dx fs,u≠.ins C dx fs)->z≠o:=λhz hu w=>by
  rw[w,e5]at hz
  cases hz
  exact hu _ _ _ rfl
 have hm6:=k6 _ _ (ne (s5 _ _ hm4) λ_ _ _ w=>by cases w) (s5 _ _ hm4)
 refine⟨_,rfl,o,_,dx4,_,_,rfl,e6,O.cl,T.Al,rfl,_,rfl,si2,λp H7 s7 n7 h7=>?_⟩
 have e7:=s7 _ _ e6
 have p7:=p6.same s7
 obtain⟨rw,r1,r2⟩:=p7.rw
 have big:(10000:Nat)<=sizeLine:=by decide
 refine⟨_,rfl,o,_,dx4,_,_,rfl,e7,O.cl,T.AZ,rfl,_,rfl,si1,λl1 H8 s8 n8 h8=>⟨l1,[(p,m,v.t,wsV v)],rfl,⟨h8,λr hr=>?_,λr hr=>?_⟩,by show(1:Nat)<=2000;decide,λD2 H9 rs2 s9 n9 R9 e9 f9=>?_⟩⟩
 ·rw[mem_singleton.mp hr]
  exact s8 _ _ h7
 ·rw[mem_singleton.mp hr]
  exact(s7.trans s8) _ _ hm6
 have s79:=s8.trans s9
 obtain⟨p2,m2,er⟩:∃p2 m2,rs2=[(p2,m2,v.t,wsV v)]:=by
  match rs2,e9 with
  | [(p2,m2,t2,w2)],e9=>
    have e9:[(t2,w2)]=[(v.t,wsV v)]:=e9
    cases e9
    exact⟨p2,m2,rfl⟩
 subst er
 have fp2:H8 p2=none/\H8 m2=none:=f9 _ tN
 have hp2:=R9.row _ tN
 have hm2:=R9.num _ tN
 refine⟨v.aR,D2,_,_,rfl,rfl,SqL.of (s79 _ _ r1),SqL.of R9.at_,by rw[r2];show v.t.toNat+1<=_;omega,λC H10 s10 n10 h10=>?_⟩
 have s710:=s79.trans s10
 have e10:=s710 _ _ e7
 refine⟨_,rfl,o,_,dx4,_,rfl,e10,O.cl,T.AZ,(by show(6:Nat)<1000;decide),λH11 k11 h11=>?_⟩
 have e11:H11 o=some (.ins Ac dx4 ({ v with ps:=bs,aP:=D,aR:=C }:Hv).fs):=h11
 have t0:=ok.t0
 have p10:HsP (CsA.mk Aa Ad Ab) Ae H10 { v with ps:=bs,aP:=D,aR:=C,t:=v.t+1 }:=⟨(p7.same s710).st,(p7.same s710).ps,(p7.same s710).nb,_,h10,by rw[tR,r2];show v.t.toNat+1=(v.t+1).toNat;omega⟩
 have p11:=p10.but e10 k11
 have p12:=p11.but e11 (But.upd o H11 (.ins Ac dx4 ({ v with ps:=bs,aP:=D,aR:=C,t:=v.t+1 }:Hv).fs))
 have hd4o:d≠o:=λz=>by
  rw[z,e4]at h4
  cases h4
 have h6d:=k6 _ _ hd4o (s5 _ _ h4)
 have po:p≠o:=λz=>by
  rw[z,e7]at h7
  cases h7
 have mo:m≠o:=λz=>by
  have:=s7 _ _ hm6
  rw[z,e7]at this
  cases this
 have far:∀c u,c≠o->c≠d->H c=some u->H6 c=some u:=λc u c1 c2 hc=>k6 _ _ c1 (s5 _ _ (k4 _ _ c2 (s13 _ _ (s1 _ _ hc))))
 have live:∀c u,H c=some u->∃u',H6 c=some u':=λc u hc=>by
  by_cases c1:c=o
  ·exact⟨_,by rw[c1];exact e6⟩
  by_cases c2:c=d
  ·exact⟨_,by rw[c2];exact h6d⟩
  exact⟨u,far c u c1 c2 hc⟩
 have fD:H D=none:=by
  cases hx:H D with
  | none=>rfl
  | some u=>
    by_cases c2:D=d
    ·rw[c2,h4]at nD
     cases nD
    ·rw[k4 _ _ c2 (s13 _ _ (s1 _ _ hx))]at nD
     cases nD
 have fC:H C=none:=by
  cases hx:H C with
  | none=>rfl
  | some u=>
    obtain⟨u',h'⟩:=live C u hx
    rw[s9 _ _ (s8 _ _ (s7 _ _ h'))]at n10
    cases n10
 refine⟨_,rfl,o,_,dx4,_,_,rfl,e11,O.cl,T.Al,rfl,_,_,rfl,rfl,dx4,_,e11,(by show(6:Nat)<1000;decide),?_⟩
 have no:∀c,H8 c=none->H c=none:=λc n=>by
  cases hx:H c with
  | none=>rfl
  | some u=>
    obtain⟨u',h'⟩:=live c u hx
    rw[s8 _ _ (s7 _ _ h')]at n
    cases n
 have nio:∀{c:Addr}{u:HO},H10 c=some u->(∀C dx fs,u≠.ins C dx fs)->c≠o:=λhc hu z=>by
  rw[z,e10]at hc
  cases hc
  exact hu _ _ _ rfl
 have fin:∀{c:Addr}{u:HO},H10 c=some u->(∀C dx fs,u≠.ins C dx fs)->(upd H11 o (.ins Ac dx4 ({ v with ps:=bs,aP:=D,aR:=C,t:=v.t+1 }:Hv).fs)) c=some u:=λhc hu=>by
  have z:=nio hc hu
  rw[zaw z]
  exact k11 _ _ z hc
 have rt:RwT H (upd H11 o (.ins Ac dx4 ({ v with ps:=bs,aP:=D,aR:=C,t:=v.t+1 }:Hv).fs)) v C:=by
  obtain⟨rw0,r01,_⟩:=hh.p.rw
  have z:H7 v.aR=some (.lst rw0):=s7 _ _ (far _ _ (λz=>by rw[z,e]at r01;cases r01) (λz=>by have:=s1 _ _ r01;rw[z,hd]at this;cases this) r01)
  have z':H7 v.aR=some (.lst rw):=r1
  rw[z']at z
  cases z
  exact⟨rw,p2,m2,r01,no _ fp2.1,no _ fp2.2,fin h10 (λ_ _ _ w=>by cases w),fin (s10 _ _ hp2) (λ_ _ _ w=>by cases w),fin (s10 _ _ hm2) (λ_ _ _ w=>by cases w)⟩
 refine⟨_,rfl,q bs D C p m _ rt eb (λc u c1 c2 hc=>?_) fD fC ⟨⟨dx4,zar⟩,p12⟩ ?_ ?_⟩
 ·have cd:c≠d:=by
   rcases nd with nd | nd
   ·exact λz=>by
     rw[z,nd]at hc
     cases hc
   ·exact c2 d nd
  rw[zaw c1]
  exact k11 _ _ c1 (s710 _ _ (s7 _ _ (far c u c1 cd hc)))
 ·rw[zaw po]
  exact k11 _ _ po (s710 _ _ h7)
 ·rw[zaw mo]
  exact k11 _ _ mo (s710 _ _ (s7 _ _ hm6))
structure PcI(x:Wd × Pv):Prop where
 s0:1<=x.2.span
 s1:x.2.span<=4
 t0:0<=x.2.tries
 t1:x.2.tries<=3
 w:x.1=.waiting->1<=x.2.tries/\0<=x.2.spent/\x.2.spent<x.2.span
 c0:0<=x.2.came
 c1:x.2.came<=1000
theorem zmN{d:Wd}:d.opn=true↔d=.waiting:=by
 cases d with
 | waiting=>exact⟨λ_=>rfl,λ_=>rfl⟩
 | done=>exact⟨λz=>(by cases z),λz=>(by cases z)⟩
 | givenUp=>exact⟨λz=>(by cases z),λz=>(by cases z)⟩
def PcI.left{x:Wd × Pv}(h:PcI x):0<=x.2.left x.1/\x.2.left x.1<=12/\(x.1=.waiting->0<x.2.left x.1):=by
 unfold Pv.left
 by_cases c:x.1=.waiting
 ·rw[if_pos (zmN.mpr c)]
  obtain⟨a,b,d⟩:=h.w c
  have:=h.s0
  have:=h.s1
  have ht:x.2.tries=1\/x.2.tries=2\/x.2.tries=3:=by have:=h.t1;omega
  rcases ht with e | e | e<;>rw[e]<;>exact⟨by omega,by omega,λ_=>by omega⟩
 ·rw[if_neg (λz=>c (zmN.mp z))]
  exact⟨rA _,by decide,λz=>(c z).elim⟩
def zdy(ws:List Int)(en:Int->Option Bool)(x:Wd × Pv):(bhP ws en x).2.n=x.2.n/\(bhP ws en x).2.nm=x.2.nm/\(bhP ws en x).2.came=x.2.came/\(bhP ws en x).2.span=x.2.span:=by
 have f:x.2.fail.2.n=x.2.n/\x.2.fail.2.nm=x.2.nm/\x.2.fail.2.came=x.2.came/\x.2.fail.2.span=x.2.span:=by
  unfold Pv.fail
  split<;>exact⟨rfl,rfl,rfl,rfl⟩
 unfold bhP
 split
 ·split
  ·exact⟨rfl,rfl,rfl,rfl⟩
  ·exact f
  ·unfold Pv.step
   split
   ·exact f
   ·exact⟨rfl,rfl,rfl,rfl⟩
 ·exact⟨rfl,rfl,rfl,rfl⟩
def zpT{x:Wd × Pv}(h:PcI x)(hw:x.1=.waiting):PcI x.2.fail:=by
 obtain⟨a,b,c⟩:=h.w hw
 have:=h.t1
 have:=h.s0
 unfold Pv.fail
 split
 ·exact⟨h.s0,h.s1,by show 0<=x.2.tries-1;omega,by show x.2.tries-1<=3;omega,λz=>(by cases z),h.c0,h.c1⟩
 ·exact⟨h.s0,h.s1,by show 0<=x.2.tries-1;omega,by show x.2.tries-1<=3;omega,λ_=>⟨by show 1<=x.2.tries-1;omega,rA _,by show 0<x.2.span;omega⟩,h.c0,h.c1⟩
def ztx{x:Wd × Pv}(h:PcI x)(hw:x.1=.waiting):PcI x.2.step:=by
 obtain⟨a,b,c⟩:=h.w hw
 unfold Pv.step
 split
 ·exact zpT h hw
 ·exact⟨h.s0,h.s1,h.t0,h.t1,λ_=>⟨a,by show 0<=x.2.spent+1;omega,by show x.2.spent+1<x.2.span;omega⟩,h.c0,h.c1⟩
def zvd{ws:List Int}{en:Int->Option Bool}{x:Wd × Pv}(h:PcI x)(hw:x.2.n∈ws->x.1=.waiting):PcI (bhP ws en x):=by
 unfold bhP
 by_cases c:x.2.n∈ws
 ·rw[if_pos c]
  split
  ·exact⟨h.s0,h.s1,h.t0,h.t1,λz=>(by cases z),h.c0,h.c1⟩
  ·exact zpT h (hw c)
  ·exact ztx h (hw c)
 ·rw[if_neg c]
  exact h
def zmO{ws:List Int}{en:Int->Option Bool}{x:Wd × Pv}(hw:x.2.n∈ws->x.1=.waiting)(z:(bhP ws en x).1=.waiting):x.1=.waiting:=by
 by_cases c:x.2.n∈ws
 ·exact hw c
 ·unfold bhP at z
  rw[if_neg c]at z
  exact z
theorem zsk{ps' ps:List (Addr × Wd × Pv)}{g:Addr × Wd × Pv->Wd × Pv}(e:ps'.map (·.2)=ps.map g){i:Nat}{q:Addr × Wd × Pv}(h:ps'[i]?=some q):∃z,ps[i]?=some z/\q.2=g z:=by
 have:=tW (λl:List (Wd × Pv)=>l[i]?) e
 simp only[getElem?_map,h]at this
 cases hz:ps[i]? with
 | none=>rw[hz]at this;cases this
 | some z=>
   rw[hz]at this
   exact⟨z,rfl,tL this⟩
def zmP{ps' ps:List (Addr × Wd × Pv)}{g:Addr × Wd × Pv->Wd × Pv}(e:ps'.map (·.2)=ps.map g){q:Addr × Wd × Pv}(h:q∈ps'):∃z,z∈ps/\q.2=g z:=by
 obtain⟨i,hi,ei⟩:=t6 h
 obtain⟨z,hz,ez⟩:=zsk e (i:=i) (q:=q) (by rw[tj hi,ei])
 exact⟨z,tE hz,ez⟩
theorem zsl{ws:List Int}{en:Int->Option Bool}:∀{ps' ps:List (Addr × Wd × Pv)},ps'.map (·.2)=ps.map (λq=>bhP ws en q.2)->(∀q,q∈ps->q.2.2.n∈ws->q.2.1=.waiting)->(ps'.filter λq=>q.2.1.opn).length<=(ps.filter λq=>q.2.1.opn).length
 | [],[],_,_=>tF _
 | [],_::_,e,_=>by cases e
 | _::_,[],e,_=>by cases e
 | q::ps',z::ps,e,hw=>by
   injection e with e1 e2
   have ih:=zsl e2 λq hq=>hw q (tO _ hq)
   rw[se,se]
   by_cases c:z.2.1.opn=true
   ·rw[if_pos c,length_cons]
    split
    ·rw[length_cons]
     omega
    ·omega
   ·rw[if_neg c,if_neg]
    ·exact ih
    ·intro y
     have e1:q.2=bhP ws en z.2:=e1
     rw[e1]at y
     exact c (zmN.mpr (zmO (hw z tN) (zmN.mp y)))
def zty{rs:List SR}{ps' ps:List (Addr × Wd × Pv)}{ws:List Int}{en:Int->Option Bool}(p:PsOk rs ps)(pc:∀q,q∈ps->PcI q.2)(e:ps'.map (·.2)=ps.map (λq=>bhP ws en q.2))(hw:∀q,q∈ps->q.2.2.n∈ws->q.2.1=.waiting):PsOk rs ps'/\∀q,q∈ps'->PcI q.2:=by
 have pc':∀q,q∈ps'->PcI q.2:=λq hq=>by
  obtain⟨z,hz,ez⟩:=zmP e hq
  rw[ez]
  exact zvd (pc z hz) (hw z hz)
 refine⟨⟨p.rl,p.ro,λi q hq=>?_,λq hq=>?_,λq hq=>?_,?_,tU (zsl e hw) p.op⟩,pc'⟩
 ·obtain⟨z,hz,ez⟩:=zsk e hq
  rw[ez,(zdy ws en z.2).1]
  exact p.nm i z hz
 ·have h:=pc' q hq
  have l:=h.left
  exact⟨⟨h.s0,h.s1,h.t1,h.t0⟩,l.1,l.2.1,h.c0,h.c1⟩
 ·obtain⟨z,hz,ez⟩:=zmP e hq
  rw[ez,(zdy ws en z.2).2.1]
  exact p.fd z hz
 ·have:=tW List.length e
  rw[tm,tm]at this
  rw[this]
  exact p.len
structure HJ(cs:CsA)(cS cH tT:Addr)(H:Hp)(o:Addr)(v:Hv)(tl:Int->Int)(km:Nat)(rs:List SR)(hd:Int):Prop where
 hh:IsHs cs cS cH H o v
 hT:H tT=some (.tbl zba lamQ)
 ers:v.rs=rs
 ehd:v.h=hd
 h0:0<hd
 h6:hd<=6
 p:PsOk v.rs v.ps
 pc:∀q,q∈v.ps->PcI q.2
 ca:∀q,q∈v.ps->q.2.2.came<=v.t
 t0:0<=v.t
 ht:TlP H v tl
 nb:∀n,NbP H v n km
 nl:v.nb.length<=km
def HJ.same{cs:CsA}{cS cH tT:Addr}{H H':Hp}{o:Addr}{v:Hv}{tl:Int->Int}{km:Nat}{rs:List SR}{hd:Int}(s:Same H H')(h:HJ cs cS cH tT H o v tl km rs hd):HJ cs cS cH tT H' o v tl km rs hd:=
 ⟨h.hh.same s,s _ _ h.hT,h.ers,h.ehd,h.h0,h.h6,h.p,h.pc,h.ca,h.t0,h.ht.same s,λn x e=>let ⟨l,us,a,b,c⟩:=h.nb n x e;⟨l,us,a,s _ _ b,c⟩,h.nl⟩
def HJ.ok{cs:CsA}{cS cH tT:Addr}{H:Hp}{o:Addr}{v:Hv}{tl:Int->Int}{km:Nat}{rs:List SR}{hd:Int}(h:HJ cs cS cH tT H o v tl km rs hd)(t1:v.t<=1000):HvOk v:=⟨h.p,by rw[h.ehd];exact h.h0,h.t0,t1⟩
def HJ.pass{cs:CsA}{cS cH tT:Addr}{H H':Hp}{o:Addr}{v:Hv}{tl:Int->Int}{km:Nat}{rs:List SR}{hd:Int}(h:HJ cs cS cH tT H o v tl km rs hd){e:V}{en:Int->Option Bool}(hE:ztw e en v.aN H){ps':List (Addr × Wd × Pv)}{l' lr:Addr}(em:ps'.map (·.2)=v.ps.map (λq=>bhP (wsV v) en q.2))(k:ButE o e H H')(hh':IsHs cs cS cH H' o { v with ps:=ps',aP:=l',aR:=lr,t:=v.t+1 }):HJ cs cS cH tT H' o { v with ps:=ps',aP:=l',aR:=lr,t:=v.t+1 } tl km rs hd:=by
 have hw:∀q,q∈v.ps->q.2.2.n∈wsV v->q.2.1=.waiting:=λq hq hn=>by
  obtain⟨y,hy,yw,yn⟩:=zlD hn
  rw[<-h.p.one hy hq yn]
  exact yw
 obtain⟨p',pc'⟩:=zty h.p h.pc em hw
 obtain⟨dx,e0⟩:=h.hh.at_
 have keep:∀{c:Addr}{u:HO},H c=some u->(∀C dx fs,u≠.ins C dx fs)->(∀kvs,u≠.dK kvs)->H' c=some u:=λ{c u} hc n1 n2=>k _ _ (λz=>by
  rw[z,e0]at hc
  exact n1 _ _ _ (tL hc).symm) (λd hd z=>by
  rcases hE with⟨z2,_⟩ | ⟨d',kvs,z2,_,hd',_⟩
  ·rw[z2]at hd
   cases hd
  ·rw[z2]at hd
   cases hd
   rw[z,hd']at hc
   exact n2 _ (tL hc).symm) hc
 refine⟨hh',keep h.hT (λ_ _ _ z=>by cases z) (λ_ z=>by cases z),h.ers,h.ehd,h.h0,h.h6,p',pc',λq hq=>?_,by have:=h.t0;show 0<=v.t+1;omega,λq hq qw=>?_,λn x en=>?_,h.nl⟩
 ·obtain⟨z,hz,ez⟩:=zmP em hq
  have:=h.ca z hz
  rw[ez,(zdy (wsV v) en z.2).2.2.1]
  show z.2.2.came<=v.t+1
  omega
 ·obtain⟨z,hz,ez⟩:=zmP em hq
  have qw':=qw
  rw[ez]at qw'
  obtain⟨l,us,a,b⟩:=h.ht z hz (zmO (hw z hz) qw')
  rw[ez,(zdy (wsV v) en z.2).1]
  exact⟨l,us,a,keep b (λ_ _ _ z=>by cases z) (λ_ z=>by cases z)⟩
 ·obtain⟨l,us,a,b,c⟩:=h.nb n x en
  exact⟨l,us,a,keep b (λ_ _ _ z=>by cases z) (λ_ z=>by cases z),c⟩
def wo(D:Addr)(H:Hp):Hp:=λc=>if c=D then none else H c
def aK{D:Addr}{H:Hp}:Same (wo D H) H:=λc u h=>by
 unfold wo at h
 by_cases e:c=D
 ·rw[if_pos e]at h
  cases h
 ·rw[if_neg e]at h
  exact h
def zda{D c:Addr}{H:Hp}{u:HO}(h:H c=some u)(ne:c≠D):wo D H c=some u:=by
 unfold wo
 rw[if_neg ne]
 exact h
def ziv{D c:Addr}{H:Hp}{u:HO}(h:wo D H c=some u):c≠D:=λe=>by
 unfold wo at h
 rw[if_pos e]at h
 cases h
def zpU{D o:Addr}{H H':Hp}(k:But o H H'):But o (wo D H) (wo D H'):=λc u c1 h=>zda (k c u c1 (aK c u h)) (ziv h)
def wo_D{D:Addr}{H H':Hp}(k:But D H H'):Same (wo D H) (wo D H'):=λc u h=>zda (k c u (ziv h) (aK c u h)) (ziv h)
def HJ.passD{cs:CsA}{cS cH tT D:Addr}{H H':Hp}{o:Addr}{v:Hv}{tl:Int->Int}{km:Nat}{rs:List SR}{hd:Int}{acc:List V}(h:HJ cs cS cH tT (wo D H) o v tl km rs hd)(hD:H D=some (.lst acc)){ps':List (Addr × Wd × Pv)}{l' lr:Addr}(em:ps'.map (·.2)=v.ps.map (λq=>bhP (wsV v) (λ_=>none) q.2))(k:But o H H')(nl:H l'=none)(nr:H lr=none)(hh':IsHs cs cS cH H' o { v with ps:=ps',aP:=l',aR:=lr,t:=v.t+1 }):HJ cs cS cH tT (wo D H') o { v with ps:=ps',aP:=l',aR:=lr,t:=v.t+1 } tl km rs hd:=by
 have kw:=zpU (D:=D) k
 obtain⟨dx,e0⟩:=h.hh.at_
 have oD:o≠D:=ziv e0
 have hD':H' D=some (.lst acc):=k _ _ (Ne.symm oD) hD
 have lD:l'≠D:=λz=>by rw[z,hD]at nl;cases nl
 have rD:lr≠D:=λz=>by rw[z,hD]at nr;cases nr
 have q:=h.hh.p.but e0 kw
 obtain⟨dx',e'⟩:=hh'.at_
 refine h.pass (e:=.non) (en:=λ_=>none) (.inl ⟨rfl,λ_=>rfl⟩) em (λc u c1 _ hc=>kw c u c1 hc) ⟨⟨dx',zda e' oD⟩,q.st,⟨zda hh'.p.ps.at_ lD,λz hz=>?_⟩,q.nb,?_⟩
 ·obtain⟨pdx,ep⟩:=hh'.p.ps.pc z hz
  exact⟨pdx,zda ep λw=>by rw[w,hD']at ep;cases ep⟩
 ·obtain⟨rw,r1,r2⟩:=hh'.p.rw
  exact⟨rw,zda r1 rD,r2⟩
def RwV(H:Hp)(v:Hv):Prop:=∃rs,IsRun H v.aR rs
def RwV.same{H H':Hp}{v:Hv}(s:Same H H'):RwV H v->RwV H' v:=λ⟨rs,R⟩=>⟨rs,R.same s⟩
def RwV.kls{H H':Hp}{v v':Hv}(e:v'.aR=v.aR)(kl:∀ {z xs},H z=some (.lst xs)->H' z=some (.lst xs))(kt:∀ {z xs},H z=some (.tup xs)->H' z=some (.tup xs)):RwV H v->RwV H' v':=λ⟨rs,R⟩=>⟨rs,by rw[e];exact kl R.at_,λr hr=>kt (R.row r hr),λr hr=>kl (R.num r hr)⟩
def RwT.run{H H':Hp}{v:Hv}{lr:Addr}(h:RwT H H' v lr){rs:List (Addr × Addr × Int × List Int)}(R:IsRun H v.aR rs)(kl:∀ {z xs},H z=some (.lst xs)->H' z=some (.lst xs))(kt:∀ {z xs},H z=some (.tup xs)->H' z=some (.tup xs)):∃p m,IsRun H' lr (rs++[(p,m,v.t,wsV v)]):=by
 obtain⟨rw,p,m,a,np,nm,b,c,d⟩:=h.ex
 rw[R.at_]at a
 cases a
 refine⟨p,m,?_,λr hr=>?_,λr hr=>?_⟩
 ·rw[b,t4]
  rfl
 ·rcases mem_append.mp hr with hr | hr
  ·exact kt (R.row r hr)
  ·rw[mem_singleton.mp hr]
   exact c
 ·rcases mem_append.mp hr with hr | hr
  ·exact kl (R.num r hr)
  ·rw[mem_singleton.mp hr]
   exact d
def RwT.out{D lr:Addr}{H H':Hp}{v:Hv}{acc:List V}(h:RwT H H' v lr)(hD:H D=some (.lst acc))(hl:H lr=none)(ha:v.aR≠D):RwT (wo D H) (wo D H') v lr:=by
 obtain⟨rw,p,m,a,np,nm,b,c,d⟩:=h.ex
 have ne:∀{c:Addr},H c=none->c≠D:=λn z=>by rw[z,hD]at n;cases n
 have nn:∀{c:Addr},H c=none->wo D H c=none:=λ{c} n=>by
  unfold wo
  rw[if_neg (ne n)]
  exact n
 exact⟨rw,p,m,zda a ha,nn np,nn nm,zda b (ne hl),zda c (ne np),zda d (ne nm)⟩
inductive zmQ(cs:CsA)(cS cH tT:Addr)(vs:List V)(H:Hp)(Q:VK)(_:XK):Prop
 | mk (o:Addr) (v:Hv) (tl:Int->Int) (km:Nat) (rs:List SR) (hd:Int) (k:Nat) (_:vs=[.ref o,.int k]) (_:HJ cs cS cH tT H o v tl km rs hd) (_:k<=100) (_:v.t+k<=1000) (_:∀D H' v',But o H H'->HJ cs cS cH tT H' o v' tl km rs hd->v'.t=v.t+k->v'.ps.length=v.ps.length->v'.aN=v.aN->(RwV H v->RwV H' v')->Q (.ref D) H')
def zfa:FnScope ["self","many"] ["self","many"] (zac zbO):=fsc
include T in
theorem zfb(D:Mfn K "pass_turns" "House.pass_turns" zbO ["self","many"] f fd)(zao:Cal P w K mg bj "is_whole" 1 pl3 (zbn K))(Am:MOk2 CX0 P w K mg bj 11 Ac "pass_turn" .non (.int 0) (zkD K (CsA.mk Aa Ad Ab) Ae Ac tT)):FnOk P w K mg bj CX0 12 f fd ["self","many"] (zmQ (CsA.mk Aa Ad Ab) Ae Ac tT):=by
 refine D.F.ok zfa (by walk_at "z") (λc A o s H vs Q E hr h=>?_)
 obtain⟨o,v,tl,km,rs,hd,k,rfl,hj,k1,t1,q⟩:=h
 refine⟨_,(zab (zaQ (zbi (zaR (zai zao hr.o rfl (zaa (pv 1) (zaa zad (zaa (zbv (v:=.int 100) rfl T.At.choose_spec ⟨_,rfl⟩) zae)))))) (zaf aB) zat)
  (zaf (zaj (zaN (N:=["step","self"]) (js:=[0]) rfl cpo (zjF rfl T.zpr (zaa (pv 1) zae)) (λ_ _ _ _ _=>zbx) (λ_ _ _ _ _=>(zrj (P:=P) (w:=w) (K:=K) (mg:=mg) (bj:=bj) (k:=11) rfl rfl rfl rfl rfl (pv 1) hr.o zaT)))))),?_⟩
 refine⟨_,rfl,.int k,0,100,_,rfl,.inl ⟨k,rfl,rfl⟩,?_⟩
 rw[decide_eq_true (show(0:Int)<=k by omega),decide_eq_true (show(k:Int)<=100 by omega)]
 refine⟨_,rfl,iteF ?_⟩
 refine⟨_,rfl,k,rfl,by have:(100:Int)<2 ^ 62:=by decide
                       omega,by have:(100:Int)<2 ^ 62:=by decide
                                omega,?_⟩
 have ek:((k:Int)).toNat=k:=by omega
 rw[ek]
 refine zlj (λD i H'=>H D=none/\(∀c u,c≠o->H c=some u->H' c=some u)/\∃v',HJ (CsA.mk Aa Ad Ab) Ae Ac tT (wo D H') o v' tl km rs hd/\v'.t=v.t+(i:Int)/\v'.ps.length=v.ps.length/\v'.aN=v.aN/\(RwV H v->RwV (wo D H') v')) (λD H2 s2 nD hD=>⟨nD,λc u _ hc=>s2 _ _ hc,v,hj.same λc u hc=>zda (s2 _ _ hc) λz=>(by rw[z,nD]at hc;cases hc),by show v.t=v.t+((0:Nat):Int);omega,rfl,rfl,RwV.same λc u hc=>zda (s2 _ _ hc) λz=>(by rw[z,nD]at hc;cases hc)⟩) (λi Hh Q' hi q'=>q') ?_ (zax (by omega)) (λD H2 vs ⟨nD,kp,v',hj',et,el,en,rv⟩ hD lv=>q D H2 v' kp (hj'.same aK) et el en λR=>(rv R).same aK)
 rintro D i acc Hh Q' hi ⟨nD,kp,v',hj',et,el,en,rv⟩ hD q'
 have hjh:=hj'.same aK
 obtain⟨dx,e⟩:=hjh.hh.at_
 have oD:D≠o:=λz=>by
  rw[z,e]at hD
  cases hD
 refine⟨_,rfl,o,_,dx,_,_,_,_,rfl,e,rfl,Am,o,v',.non,λ_=>none,rfl,hjh.hh,hjh.ok (by omega),by omega,by have:=hjh.h6;rw[hjh.ehd];omega,λq hq _=>hjh.ca q hq,hjh.hT,.inl ⟨rfl,λ_=>rfl⟩,λn z=>(by cases z),λps' l' lr p m H' rt em kb nl nr hh' hp hm=>?_⟩
 have kb':But o Hh H':=λc u c1 hc=>kb c u c1 (λ_ z=>by cases z) hc
 refine q' (.ref p) H' (kb' _ _ oD hD) λH7 k7 h7=>⟨nD,λc u c1 hc=>k7 _ _ (λz=>by rw[z,nD]at hc;cases hc) (kb' _ _ c1 (kp c u c1 hc)),_,(hj'.passD hD em kb' nl nr hh').same (wo_D k7),?_,?_,en,λR=>?_⟩
 ·show v'.t+1=v.t+((i+1:Nat):Int)
  omega
 ·have:=tW List.length em
  rw[tm,tm]at this
  exact this.trans el
 ·obtain⟨rs',R'⟩:=rv R
  obtain⟨dxw,ew⟩:=hj'.hh.at_
  obtain⟨p2,m2,R2⟩:=(rt.out hD nr (ziv R'.at_)).run R' (λhz=>zpU kb' _ _ (λy=>by rw[y,ew]at hz;cases hz) hz) (λhz=>zpU kb' _ _ (λy=>by rw[y,ew]at hz;cases hz) hz)
  exact⟨_,R2.same (wo_D k7)⟩
inductive zpV(cs:CsA)(cS cH:Addr)(vs:List V)(H:Hp)(Q:VK)(_:XK):Prop
 | mk (o:Addr) (v:Hv) (_:vs=[.ref o]) (_:IsHs cs cS cH H o v) (_:Q (.int v.t) H)
def zkE:FnScope pl2 pl2 (zac zeP):=fsc
include T in
theorem zkF(D:Mfn K "now" "House.now" zeP pl2 f fd):FnOk P w K mg bj CX0 1 f fd pl2 (zpV (CsA.mk Aa Ad Ab) Ae Ac):=by
 refine D.F.ok zkE (by walk_at "z") (λc A o s H vs Q E hr h=>?_)
 obtain⟨o,v,rfl,hh,q⟩:=h
 obtain⟨dx,e⟩:=hh.at_
 have O:=T.Ah
 exact⟨_,(zaf (zaj (zaq (pv 0) rfl))),_,rfl,o,_,dx,_,_,rfl,e,O.cl,T.Al,rfl,q⟩
inductive zpW(cs:CsA)(cS cH:Addr)(vs:List V)(H:Hp)(Q:VK)(_:XK):Prop
 | mk (o:Addr) (v:Hv) (rs:List (Addr × Addr × Int × List Int)) (_:vs=[.ref o]) (_:IsHs cs cS cH H o v) (_:IsRun H v.aR rs) (_:rs.length<=2000) (_:∀D H' rs',Same H H'->IsRun H' D rs'->rs'.map (·.2.2)=rs.map (·.2.2)->Q (.ref D) H')
def zfL:FnScope pl2 pl2 (zac bW):=fsc
include T in
theorem zfM(D:Mfn K "rows_done" "House.rows_done" bW pl2 f fd)(zbu:Cal P w K mg bj "own_rows" 1 ["rows"] zfH):FnOk P w K mg bj CX0 2 f fd pl2 (zpW (CsA.mk Aa Ad Ab) Ae Ac):=by
 refine D.F.ok zfL (by walk_at "z") (λc A o s H vs Q E hr h=>?_)
 obtain⟨o,v,rs,rfl,hh,R,l,q⟩:=h
 obtain⟨dx,e⟩:=hh.at_
 have O:=T.Ah
 exact⟨_,(zaf (zaj (zai zbu hr.o rfl (zaa (zaq (pv 0) rfl) zae)))),_,rfl,o,_,dx,_,_,rfl,e,O.cl,T.AZ,rfl,v.aR,rs,rfl,R,l,λD H1 rs' s1 n1 R1 e1 _=>q D H1 rs' s1 R1 e1⟩
inductive zpX(cs:CsA)(cS cH:Addr)(vs:List V)(H:Hp)(Q:VK)(_:XK):Prop
 | mk (o:Addr) (v:Hv) (i km:Nat) (q0:Addr × Wd × Pv) (_:vs=[.ref o,.int i]) (_:IsHs cs cS cH H o v) (_:v.ps[i]?=some q0) (_:NbP H v i km) (_:km<=1000) (_:∀p m H',Same H H'->H' p=some (.tup [.str q0.2.1.str,.str q0.2.2.nm,.int q0.2.2.came,.int q0.2.2.tries,.int q0.2.2.spent,.ref m])->Q (.ref p) H')
def zep:FnScope ["self","number","row"] pl21 (zac zdo):=fsc
include T in
theorem ziw(D:Mfn K "state" "House.state" zdo pl21 f fd)(AN:MOk CX0 P w K mg bj 2 Ac "piece_of" (b7 (CsA.mk Aa Ad Ab) Ae Ac))(Ed:∀d,MOk CX0 P w K mg bj 2 (CsA.cl (CsA.mk Aa Ad Ab) d) "row" (zto (CsA.mk Aa Ad Ab))):FnOk P w K mg bj CX0 6 f fd pl21 (zpX (CsA.mk Aa Ad Ab) Ae Ac):=by
 refine D.F.ok zep (by walk_at "z") (λc A o s H vs Q E hr h=>?_)
 obtain⟨o,v,i,km,q0,rfl,hh,hi,nb,k1,q⟩:=h
 obtain⟨dx,e⟩:=hh.at_
 have O:=T.Ah
 obtain⟨dxp,ep⟩:=hh.p.ps.pc q0 (tE hi)
 refine⟨_,(zab (zam (i:=2) zep.nd rfl (Or.inl rfl) (zaO (k:=2) (zdD (k:=2) (pv 0) hr.o zaT (zaa (pv 1) zae)) hr.o zaT))
  (zaf (zaj (zaK (pai (zag (zak zah (pv 2) zad (λ_ _=>rfl)) (zag (zak zah (pv 2) zad (λ_ _=>rfl)) (zag (zak zah (pv 2) zad (λ_ _=>rfl)) (zag (zak zah (pv 2) zad (λ_ _=>rfl)) (zag (zak zah (pv 2) zad (λ_ _=>rfl)) (zag (zfm zhy rfl T.zhS zer (zaa (zmb hr.units1 (zaq (pv 0) rfl) (pv 1) (az zae) ⟨rfl,rfl,rfl,rfl⟩) zae)) zbd))))))))))),?_⟩
 refine⟨_,rfl,o,_,dx,_,_,rfl,e,rfl,AN,_,rfl,o,v,i,q0,rfl,hh,hi,q0.1,_,dxp,_,_,rfl,ep,rfl,Ed q0.2.1,q0.1,_,_,rfl,⟨dxp,ep⟩,λt H1 s1 h1=>?_⟩
 have hh1:=hh.same s1
 have e1:=s1 _ _ e
 refine⟨_,rfl,t,_,_,_,rfl,rfl,SqT.of h1,rfl,_,rfl,t,_,_,_,rfl,rfl,SqT.of h1,rfl,_,rfl,t,_,_,_,rfl,rfl,SqT.of h1,rfl,_,rfl,t,_,_,_,rfl,rfl,SqT.of h1,rfl,_,rfl,t,_,_,_,rfl,rfl,SqT.of h1,rfl,?_⟩
 refine⟨_,rfl,o,_,dx,_,_,rfl,e1,O.cl,T.Ap,rfl,v.aN,rfl,.inl ⟨_,.inl hh1.p.nb⟩,_,rfl,si0,λnl H2 s2 n2 h2=>⟨_,DGet.k (k:=.inl (i:Int)) (s2 _ _ hh1.p.nb),?_⟩⟩
 cases ev:valV v.nb (.inl (i:Int)) with
 | none=>
   exact⟨nl,[],rfl,.inl (SqL.of h2),λm H3 s3 n3 h3=>⟨si6,λp H4 s4 n4 h4=>q p m H4 (s1.trans (s2.trans (s3.trans s4))) h4⟩⟩
 | some x=>
   obtain⟨l,us,rfl,b,_⟩:=nb x ev
   exact⟨l,_,rfl,.inl (SqL.of (s2 _ _ (s1 _ _ b))),λm H3 s3 n3 h3=>⟨si6,λp H4 s4 n4 h4=>q p m H4 (s1.trans (s2.trans (s3.trans s4))) h4⟩⟩
inductive zsm(K:am)(vs:List V)(H:Hp)(Q:VK)(_:XK):Prop
 | mk (a:Addr) (ns:List Int) (k:Int) (_:vs=[.ref a,.int k]) (_:SqL K H a (ns.map V.int)) (_:0<=k) (_:∀v:Int,Q (.int v) H)
inductive zpY(K:am)(vs:List V)(H:Hp)(Q:VK)(_:XK):Prop
 | mk (p q:Addr) (a b c d n:Int) (_:vs=[.ref p,.ref q,.int n]) (_:SqT K H p [.int a,.int b]) (_:SqT K H q [.int c,.int d]) (_:0<b) (_:b<1000000000) (_:0<=c) (_:c<=1000000) (_:0<d) (_:d<=12) (_:0<=n) (_:n<1000000000000000000000000000000000000000000000000000000000000) (_:∀r H',Same H H'->H' r=some (.tup [.int ((a*d+n*c*b) / M1.gd (a*d+n*c*b) (b*d)),.int (b*d / M1.gd (a*d+n*c*b) (b*d))])->Q (.ref r) H')
inductive spAt(K:am)(vs:List V)(H:Hp)(Q:VK)(_:XK):Prop
 | mk (p:Addr) (c:Cl) (t:Int) (_:vs=[.ref p,.int t]) (_:IsCl K H p c) (_:c.Ok) (_:t<100000000000000000000000000000000000000000000000000) (_:c.came<=t) (_:∀r H',Same H H'->H' r=some (.tup [.int (wtop c t / M1.gd (wtop c t) (wbot c)),.int (wbot c / M1.gd (wtop c t) (wbot c))])->Q (.ref r) H')
def pow6:(10:Int) ^ (6:Int).toNat=1000000:=by decide
def zwb:(10:Int) ^ (15:Int).toNat=1000000000000000:=by decide
inductive ztz(K:am)(vs:List V)(H:Hp)(Q:VK)(_:XK):Prop
 | mk (p q:Addr) (t b u c:Int) (_:vs=[.ref p,.ref q]) (_:SqT K H p [.int t,.int b]) (_:SqT K H q [.int u,.int c]) (_:0<b) (_:b<10000000000000000000) (_:0<c) (_:c<10000000000000000000) (_:∀H',Same H H'->Q (.int (sg (t*c) (u*b))) H')
inductive zpZ(K:am)(vs:List V)(H:Hp)(Q:VK)(_:XK):Prop
 | mk (p q:Addr) (c d:Cl) (t:Int) (_:vs=[.ref p,.ref q,.int t]) (_:IsCl K H p c) (_:IsCl K H q d) (_:c.Ok) (_:d.Ok) (_:t<100000000000000000000000000000000000000000000000000) (_:c.came<=t) (_:d.came<=t) (_:∀H',Same H H'->Q (.bl (ahd c d t)) H')
inductive zmR(K:am)(vs:List V)(H:Hp)(Q:VK)(_:XK):Prop
 | mk (p:Addr) (c:Cl) (t:Int) (_:vs=[.ref p,.int t]) (_:IsCl K H p c) (_:c.Ok) (_:∀r H',Same H H'->H' r=some (.tup [.int (wtop c t),.int (wbot c)])->Q (.ref r) H')
inductive zmS(K:am)(vs:List V)(H:Hp)(Q:VK)(_:XK):Prop
 | mk (p q:Addr) (c d:Cl) (t:Int) (_:vs=[.ref p,.ref q,.int t]) (_:IsCl K H p c) (_:IsCl K H q d) (_:c.Ok) (_:d.Ok) (_:∀H',Same H H'->Q (.bl (ahd c d t)) H')
inductive zkG(K:am)(vs:List V)(H:Hp)(Q:VK)(_:XK):Prop
 | mk (p q:Addr) (c d:Cl) (t:Int) (_:vs=[.ref p,.ref q,.int t]) (_:IsCl K H p c) (_:IsCl K H q d) (_:c.Ok) (_:d.Ok) (_:c.n≠d.n) (_:t<1000000000000000000) (_:c.came<=t) (_:d.came<=t) (_:∀v H',Same H H'->PassOf c d t v->Q v H')
inductive ztA(K:am)(vs:List V)(H:Hp)(Q:VK)(_:XK):Prop
 | mk (p q:Addr) (c d:Cl) (_:vs=[.ref p,.ref q]) (_:IsCl K H p c) (_:IsCl K H q d) (_:∀H',Same H H'->Q (.bl (tie c d)) H')
inductive zsn(K:am)(vs:List V)(H:Hp)(Q:VK)(_:XK):Prop
 | mk (p q:Addr) (a b c d:Int) (_:vs=[.ref p,.ref q]) (_:SqT K H p [.int a,.int b]) (_:SqT K H q [.int c,.int d]) (_:0<b) (_:b<=144) (_:0<d) (_:d<=144) (_:∀r H',Same H H'->H' r=some (.tup [.int (a*d-c*b),.int (b*d)])->Q (.ref r) H')
inductive zqa(K:am)(vs:List V)(H:Hp)(Q:VK)(_:XK):Prop
 | mk (pf pb:Addr) (fr ba:Cl) (t:Int) (_:vs=[.ref pf,.ref pb,.int t]) (_:IsCl K H pf fr) (_:IsCl K H pb ba) (_:fr.Ok) (_:ba.Ok) (_:fr.came<=t) (_:ba.came<=t) (_:t<1000000000000000000) (_:ahd ba fr t=false) (_:(∀H',Same H H'->Pass ba fr t .non->Q .non H')) (_:(∀n H',Same H H'->Pass ba fr t (.int (t+n))->Q (.int n) H'))
inductive zve(vs:List V)(H:Hp)(Q:VK)(_:XK):Prop
 | mk (x k:Int) (_:vs=[.int x,.int k]) (_:∀r:Int,0<=r->Q (.int r) H)
inductive zlE(vs:List V)(H:Hp)(Q:VK)(_:XK):Prop
 | mk (x:Int) (_:vs=[.int x]) (_:∀l H',Same H H'->H l=none->St3 H' l->Q (.ref l) H')
inductive zkH(vs:List V)(H:Hp)(Q:VK)(_:XK):Prop
 | mk (a:Addr) (m:Int) (_:vs=[.ref a,.int m]) (_:St3 H a) (_:0<m) (_:m<1000000000000000000000000000000000000000000000000000000000000) (_:∀r H',But a H H'->St3 H' a->0<=r->r<m->Q (.int r) H')
inductive zmT(K:am)(vs:List V)(H:Hp)(Q:VK)(_:XK):Prop
 | mk (l:Addr) (ps:List (Addr × Cl)) (t:Int) (_:vs=[.ref l,.int t]) (_:IsCs K H l ps) (_:Good (ps.map (·.2))) (_:ps.length<=40) (_:∀m H',Same H H'->H m=none->H' m=some (.lst ((ordP ps t).map λq=>V.ref q.1))->Q (.ref m) H')
inductive zlF(K:am)(vs:List V)(H:Hp)(Q:VK)(_:XK):Prop
 | mk (a b:Addr) (ns:List Int) (_:vs=[.ref a,.ref b]) (_:H a=some (.lst (ns.map V.int))) (_:H b=some (.lst (ns.map V.int))) (_:ns.length<=1000-1) (_:∀H',Same H H'->Q (.bl true) H')
inductive zef(K:am)(tT:Addr)(vs:List V)(H:Hp)(Q:VK)(_:XK):Prop
 | mk (l:Addr) (ps:List (Addr × Cl)) (t:Int) (_:vs=[.ref l,.int t]) (_:IsCs K H l ps) (_:Good (ps.map (·.2))) (_:ps.length<=11) (_:H tT=some (.tbl zba lamQ)) (_:t<1000000000000000000) (_:(∀q,q∈ps->q.2.came<=t)) (_:∀D H' (rs:List (Addr × Row)),Same H H'->H D=none->IsRows H' D rs->rs.length<64->RowsOf (ps.map (·.2)) t (rs.map (·.2))->Q (.ref D) H')
def zvf(H:Hp)(rows:List Row)(v:V):Prop:=(rows=[]/\v=.non)\/∃(p m:Addr)(bs:List (Addr × List V))(r0:Row)(rest:List Row),rows=r0::rest/\v=.ref p/\H p=some (.tup [.int r0.1,.ref m])/\H m=some (.lst (bs.map λb=>V.ref b.1))/\bs.map (·.2)=(rows.filter λr=>decide (r.1=r0.1)).map (λr=>[V.int r.2.1,V.int r.2.2])/\∀b,b∈bs->H b.1=some (.tup b.2)
def zns(rows:List Row):V:=match rows.getLast? with
 | some r=>.int r.1
 | none=>.non
inductive zqb(K:am)(tT:Addr)(vs:List V)(H:Hp)(Q:VK)(_:XK):Prop
 | mk (l:Addr) (ps:List (Addr × Cl)) (t:Int) (_:vs=[.ref l,.int t]) (_:IsCs K H l ps) (_:Good (ps.map (·.2))) (_:ps.length<=11) (_:H tT=some (.tbl zba lamQ)) (_:t<1000000000000000000) (_:(∀q,q∈ps->q.2.came<=t)) (_:∀H' (rows:List Row),Same H H'->RowsOf (ps.map (·.2)) t rows->Q (zns rows) H')
inductive zso(K:am)(tT:Addr)(vs:List V)(H:Hp)(Q:VK)(_:XK):Prop
 | mk (l:Addr) (ps:List (Addr × Cl)) (_:vs=[.ref l]) (_:IsCs K H l ps) (_:Good (ps.map (·.2))) (_:ps.length<=11) (_:H tT=some (.tbl zba lamQ)) (_:∀m H' t0,Same H H'->H m=none->H' m=some (.lst (((ord (ps.map (·.2)) t0).map (·.n)).map V.int))->t0<=1000000000000000000000000000000->(∀v,t0<=v->ord (ps.map (·.2)) t0=ord (ps.map (·.2)) v)->Q (.ref m) H')
inductive zvg(K:am)(tT:Addr)(vs:List V)(H:Hp)(Q:VK)(_:XK):Prop
 | mk (l:Addr) (ps:List (Addr × Cl)) (t u:Int) (_:vs=[.ref l,.int t,.int u]) (_:IsCs K H l ps) (_:Good (ps.map (·.2))) (_:ps.length<=11) (_:H tT=some (.tbl zba lamQ)) (_:0<=t) (_:t<=1000000000000000) (_:(∀q,q∈ps->q.2.came<=t)) (_:t<=u) (_:u<=1000000000000000) (_:∀D H' (rs:List (Addr × Row)),Same H H'->H D=none->IsRows H' D (rs.filter λr=>decide (r.2.1<=u))->rs.length<64->RowsOf (ps.map (·.2)) t (rs.map (·.2))->Q (.ref D) H')
inductive zqc(K:am)(tT:Addr)(vs:List V)(H:Hp)(Q:VK)(_:XK):Prop
 | mk (l:Addr) (ps:List (Addr × Cl)) (t:Int) (_:vs=[.ref l,.int t]) (_:IsCs K H l ps) (_:Good (ps.map (·.2))) (_:ps.length<=11) (_:H tT=some (.tbl zba lamQ)) (_:0<=t) (_:t<=1000000000000000) (_:(∀q,q∈ps->q.2.came<=t)) (_:∀v H' (rows:List Row),Same H H'->RowsOf (ps.map (·.2)) t rows->rows.length<64->zvf H' rows v->Q v H')
theorem zmU:∀{rows:List Row}{r:Row},rows.Pairwise (λr q=>rlt r q=true)->rows.getLast?=some r->∀q,q∈rows->q.1<=r.1
 | [x],r,_,h,q,hq=>by
   have h:some x=some r:=h
   cases h
   rw[mem_singleton.mp hq]
   exact rA _
 | x::y::rows,r,hs,h,q,hq=>by
   have h:(y::rows).getLast?=some r:=by rw[List.getLast?_cons_cons]at h;exact h
   have hs:=pairwise_cons.mp hs
   have hr:r∈y::rows:=ph h
   rcases mem_cons.mp hq with rfl | hq
   ·have:=(zhF _ _).mp (hs.1 r hr)
    omega
   ·exact zmU hs.2 h q hq
def zvh:(10:Int) ^ (40:Int).toNat=10000000000000000000000000000000000000000:=by decide
def zfc:FnScope ["one","other","left","right"] pl6 (zac zgd):=fsc
include T in
theorem zlG(D:Dfn K mg "compared" zgd pl6 f fd):Cal P w K mg bj "compared" 1 pl6 (ztz K):=by
 refine D.cal (D.F.ok zfc (by walk_at "z") (λc A o s H vs Q E hr h=>?_))
 obtain⟨p,p2,t,b,u,c,rfl,hp,hq,b0,b1,c0,c1,q⟩:=h
 refine⟨_,(zab (zam (i:=2) zfc.nd rfl (Or.inl rfl) (zaz au (zak zah (pv 0) zad (λ_ _=>rfl)) (zak zah (pv 1) zad (λ_ _=>rfl))))
  (zab (zam (i:=3) zfc.nd rfl (Or.inl rfl) (zaz au (zak zah (pv 1) zad (λ_ _=>rfl)) (zak zah (pv 0) zad (λ_ _=>rfl))))
  (zab (zaQ (zan znW (pv 2) (pv 3) (zas _)) (zaf (zaj (znS zjH zad))) zat)
  (zaf (zaj (zcK (zan zei (pv 2) (pv 3) (zas _)) zad zad)))))),?_⟩
 refine⟨_,rfl,p,_,_,_,rfl,rfl,hp,rfl,_,rfl,p2,_,_,_,rfl,rfl,hq,rfl,_,_,rfl,rfl,.inr ⟨by omega,by omega⟩,?_⟩
 refine⟨_,rfl,p2,_,_,_,rfl,rfl,hq,rfl,_,rfl,p,_,_,_,rfl,rfl,hp,rfl,_,_,rfl,rfl,.inr ⟨by omega,by omega⟩,?_⟩
 refine⟨_,rfl,_,rfl,_,_,rfl,rfl,_,rfl,?_⟩
 have Z:=q H (Same.refl H)
 unfold sg at Z
 refine ite2 (λd=>?_) (λd=>?_)
 ·have d':t*c<u*b:=tP d
  rw[if_pos d']at Z
  exact⟨_,rfl,Z⟩
 ·have d':¬t*c<u*b:=su (Bool.eq_false_iff.mpr d)
  rw[if_neg d']at Z
  refine⟨_,rfl,_,rfl,_,_,rfl,rfl,_,rfl,?_⟩
  refine ite2 (λd2=>?_) (λd2=>?_)
  ·have d3:u*b<t*c:=tP d2
   rw[if_pos d3]at Z
   exact Z
  ·have d3:¬u*b<t*c:=su (Bool.eq_false_iff.mpr d2)
   rw[if_neg d3]at Z
   exact Z
def eG:FnScope ["weight","speed","turns","top"] pl27 (zac zcV):=fsc
include T in
theorem fW(D:Dfn K mg "weight_after" zcV pl27 f fd)(zed:Cal P w K mg bj "lowest" 2 ["top","bottom"] zjf):Cal P w K mg bj "weight_after" 3 pl27 (zpY K):=by
 refine D.cal (D.F.ok eG (by walk_at "z") (λc A o s H vs Q E hr h=>?_))
 obtain⟨p,p2,a,b,c,d,n,rfl,hp,hq,b0,b1,c0,c1,d0,d1,n0,n1,q⟩:=h
 refine⟨_,(zab (zam (i:=3) eG.nd rfl (Or.inl rfl) (zaz aw (zaz au (zak zah (pv 0) zad (λ_ _=>rfl)) (zak zah (pv 1) zad (λ_ _=>rfl))) (zaz au (zaz au (pv 2) (zak zah (pv 1) zad (λ_ _=>rfl))) (zak zah (pv 0) zad (λ_ _=>rfl)))))
  (zaf (zaj (zai zed hr.o rfl (zaa (pv 3) (zaa (zaz au (zak zah (pv 0) zad (λ_ _=>rfl)) (zak zah (pv 1) zad (λ_ _=>rfl))) zae)))))),?_⟩
 refine⟨_,rfl,p,_,_,_,rfl,rfl,hp,rfl,_,rfl,p2,_,_,_,rfl,rfl,hq,rfl,_,_,rfl,rfl,.inr ⟨by omega,by omega⟩,?_⟩
 refine⟨_,rfl,_,rfl,p2,_,_,_,rfl,rfl,hq,rfl,_,_,rfl,rfl,.inr ⟨by omega,by omega⟩,_,rfl,p,_,_,_,rfl,rfl,hp,rfl,_,_,rfl,rfl,.inr ⟨by omega,by omega⟩,_,_,rfl,rfl,?_⟩
 have z1:0<b*d:=sL b0 d0
 have z2:b*d<=1000000000*12:=sy (by omega) d1 (by omega) (by decide)
 refine⟨_,rfl,_,rfl,p,_,_,_,rfl,rfl,hp,rfl,_,rfl,p2,_,_,_,rfl,rfl,hq,rfl,_,_,rfl,rfl,.inr ⟨by omega,by omega⟩,_,_,rfl,z1,by omega,λr H1 s1 hr1=>?_⟩
 exact q r H1 s1 hr1
def zgR:FnScope ["claim","turn","came"] pl15 (zac zex):=fsc
include T in
theorem zkI(D:Dfn K mg "weight_at" zex pl15 f fd)(cj:Cal P w K mg bj "weight_after" 3 pl27 (zpY K)):Cal P w K mg bj "weight_at" 4 pl15 (spAt K):=by
 refine D.cal (D.F.ok zgR (by walk_at "z") (λc A o s H vs Q E hr h=>?_))
 obtain⟨p,c,t,rfl,hc,ok,t1,ht,q1⟩:=h
 refine⟨_,(zab (zam (i:=2) zgR.nd rfl (Or.inl rfl) (zak zah (pv 0) zad (λ_ _=>rfl)))
  (zab (zaQ (zan znW (pv 1) (pv 2) (zas _)) (zaf aB) zat)
  (zaf (zaj (zai cj hr.o rfl (zaa (zak zah (pv 0) zad (λ_ _=>rfl)) (zaa (zak zah (pv 0) zad (λ_ _=>rfl)) (zaa (zaz zel (pv 1) (pv 2)) zae)))))))),?_⟩
 obtain⟨pw,ps,e1,e2,e3⟩:=hc.ex
 have hp:SqT K H p [.int c.n,.ref pw,.ref ps,.int c.came]:=SqT.of e1
 refine⟨_,rfl,p,_,_,_,rfl,rfl,hp,rfl,_,rfl,_,rfl,_,_,rfl,rfl,_,rfl,?_⟩
 refine aA (show ¬t<c.came by omega) ?_
 have z1:=ok.w2
 have z2:=ok.w3
 have z3:=ok.s2
 have z4:=ok.c0
 refine⟨_,rfl,p,_,_,_,rfl,rfl,hp,rfl,_,rfl,p,_,_,_,rfl,rfl,hp,rfl,_,rfl,_,rfl,_,_,rfl,rfl,?_⟩
 refine⟨pw,ps,_,_,_,_,_,rfl,SqT.of e2,SqT.of e3,by omega,by omega,ok.s0,ok.s1,by omega,ok.s3,by show(0:Int)<=t-c.came;omega,by show t-c.came<1000000000000000000000000000000000000000000000000000000000000;omega,λr H1 s1 hr1=>?_⟩
 exact q1 r H1 s1 hr1
def zfN:FnScope pl6 pl6 (zac zbX):=fsc
include T in
theorem zfO(D:Dfn K mg "ahead_of_equals" zbX pl6 f fd):Cal P w K mg bj "ahead_of_equals" 1 pl6 (ztA K):=by
 refine D.cal (D.F.ok zfN (by walk_at "z") (λc A o s H vs Q E hr h=>?_))
 obtain⟨p,p2,c,d,rfl,hc,hd,q⟩:=h
 refine⟨_,(zaf (zaj (zbU (zrD hr.units0) (zaK (zaa (zak zah (pv 0) zad (λ_ _=>rfl)) (zaa (zak zah (pv 0) zad (λ_ _=>rfl)) zae))) (zaK (zaa (zak zah (pv 1) zad (λ_ _=>rfl)) (zaa (zak zah (pv 1) zad (λ_ _=>rfl)) zae))) (zas _)))),?_⟩
 obtain⟨pw,ps,x1,_,_⟩:=id hc.ex
 obtain⟨pw2,ps2,x2,_,_⟩:=id hd.ex
 refine⟨_,rfl,p,_,_,_,rfl,rfl,SqT.of x1,rfl,_,rfl,p,_,_,_,rfl,rfl,SqT.of x1,rfl,si2,λl1 H3 s3 n3 h3=>?_⟩
 refine⟨_,rfl,p2,_,_,_,rfl,rfl,SqT.of (s3 _ _ x2),rfl,_,rfl,p2,_,_,_,rfl,rfl,SqT.of (s3 _ _ x2),rfl,si2,λl2 H4 s4 n4 h4=>?_⟩
 refine⟨l1,l2,[c.came,c.n],[d.came,d.n],rfl,rfl,SqT.of (s4 _ _ h3),SqT.of h4,?_⟩
 have e:HT.lexLt [c.came,c.n] [d.came,d.n]=tie c d:=by
  rw[HT.lexLt_cons,HT.lexLt_cons,HT.lexLt_nil_nil]
  unfold tie
  by_cases k:c.came=d.came
  ·rw[if_pos k]
   by_cases k2:c.n=d.n
   ·rw[if_pos k2,eq_comm,sS]
    omega
   ·rw[if_neg k2,rg]
    omega
  ·rw[if_neg k,rg]
   omega
 rw[e]
 exact q H4 (s3.trans s4)
def zmV:FnScope ["one","other","turn","step"] pl28 (zac zlk):=fsc
include T in
theorem zrr(D:Dfn K mg "ahead" zlk pl28 f fd)(zcs:Cal P w K mg bj "compared" 1 pl6 (ztz K))(zbo:Cal P w K mg bj "weight_at" 4 pl15 (spAt K))(zaZ:Cal P w K mg bj "ahead_of_equals" 1 pl6 (ztA K)):Cal P w K mg bj "ahead" 5 pl28 (zpZ K):=by
 refine D.cal (D.F.ok zmV (by walk_at "z") (λc A o s H vs Q E hr h=>?_))
 obtain⟨p,p2,c,d,t,rfl,hc,hd,oc,od,t1,h1,h2,q1⟩:=h
 refine⟨_,(zab (zam (i:=3) zmV.nd rfl (Or.inl rfl) (zai zcs hr.o rfl (zaa (zai zbo hr.o rfl (zaa (pv 0) (zaa (pv 2) zae))) (zaa (zai zbo hr.o rfl (zaa (pv 1) (zaa (pv 2) zae))) zae))))
  (zab (zaQ (zan zdd (pv 3) zad (zas _)) (zaf (zaj (zai zaZ hr.o rfl (zaa (pv 0) (zaa (pv 1) zae))))) zat)
  (zaf (zaj (zbU zei (pv 3) zad (zas _)))))),?_⟩
 refine⟨_,rfl,_,rfl,p,c,t,rfl,hc,oc,t1,h1,λr1 H1 s1 e1=>?_⟩
 refine⟨_,rfl,_,rfl,p2,d,t,rfl,hd.same s1,od,t1,h2,λr2 H2 s2 e2=>?_⟩
 have a1:=zbV oc
 have a2:=zbV od
 have a3:=M1.low_bot (t:=wtop c t) a1
 have a4:=M1.low_bot (t:=wtop d t) a2
 have a5:=M1.low_bot_le (t:=wtop c t) a1
 have a6:=M1.low_bot_le (t:=wtop d t) a2
 have a7:=zhz oc
 have a8:=zhz od
 refine⟨r1,r2,_,_,_,_,rfl,SqT.of (s2 _ _ e1),SqT.of e2,a3,by omega,a4,by omega,λH3 s3=>?_⟩
 rw[zuo a1 a2,zup]
 have Z:=q1
 have s13:Same H H3:=s1.trans (s2.trans s3)
 unfold ahd at Z
 rcases(by omega:gap c d t<0\/gap c d t=0\/0<gap c d t)with g | g | g
 ·rw[if_pos g]
  rw[if_neg (by omega),tS (by omega)]at Z
  refine⟨_,rfl,rfl,_,rfl,iteF ?_⟩
  exact⟨_,rfl,_,_,rfl,rfl,Z H3 s13⟩
 ·rw[if_neg (by omega),if_neg (by omega)]
  rw[if_pos g]at Z
  refine⟨_,rfl,rfl,_,rfl,iteT ?_⟩
  exact⟨_,rfl,_,rfl,p,p2,c,d,rfl,hc.same s13,hd.same s13,λH4 s4=>Z H4 (s13.trans s4)⟩
 ·rw[if_neg (by omega),if_pos g]
  rw[if_neg (by omega),decide_eq_true g]at Z
  refine⟨_,rfl,rfl,_,rfl,iteF ?_⟩
  exact⟨_,rfl,_,_,rfl,rfl,Z H3 s13⟩
def zjt:FnScope pl6 pl6 (zac zdP):=fsc
include T in
theorem zju(D:Dfn K mg "difference" zdP pl6 f fd):Cal P w K mg bj "difference" 1 pl6 (zsn K):=by
 refine D.cal (D.F.ok zjt (by walk_at "z") (λc A o s H vs Q E hr h=>?_))
 obtain⟨p,p2,a,b,c,d,rfl,hp,hp2,b0,b1,d0,d1,q⟩:=h
 refine⟨_,(zaf (zaj (zaK (zaa (zaz zel (zaz au (zak zah (pv 0) zad (λ_ _=>rfl)) (zak zah (pv 1) zad (λ_ _=>rfl))) (zaz au (zak zah (pv 1) zad (λ_ _=>rfl)) (zak zah (pv 0) zad (λ_ _=>rfl)))) (zaa (zaz au (zak zah (pv 0) zad (λ_ _=>rfl)) (zak zah (pv 1) zad (λ_ _=>rfl))) zae))))),?_⟩
 refine⟨_,rfl,p,_,_,_,rfl,rfl,hp,rfl,_,rfl,p2,_,_,_,rfl,rfl,hp2,rfl,_,_,rfl,rfl,.inr ⟨by omega,by omega⟩,?_⟩
 refine⟨_,rfl,p2,_,_,_,rfl,rfl,hp2,rfl,_,rfl,p,_,_,_,rfl,rfl,hp,rfl,_,_,rfl,rfl,.inr ⟨by omega,by omega⟩,_,_,rfl,rfl,?_⟩
 refine⟨_,rfl,p,_,_,_,rfl,rfl,hp,rfl,_,rfl,p2,_,_,_,rfl,rfl,hp2,rfl,_,_,rfl,rfl,.inr ⟨by omega,by omega⟩,si2,λr H1 s1 n1 h1=>?_⟩
 exact q r H1 s1 h1
def zbA:FnScope ["front","back","begin","gap","gain","parts"] pl29 (zac zcu):=fsc
include T in
theorem fX(D:Dfn K mg "turns_to_pass" zcu pl29 f fd)(zcs:Cal P w K mg bj "compared" 1 pl6 (ztz K))(zbo:Cal P w K mg bj "weight_at" 4 pl15 (spAt K))(zaZ:Cal P w K mg bj "ahead_of_equals" 1 pl6 (ztA K))(zcS:Cal P w K mg bj "difference" 1 pl6 (zsn K)):Cal P w K mg bj "turns_to_pass" 5 pl29 (zqa K):=by
 refine D.cal (D.F.ok zbA (by walk_at "z") (λc A o s H vs Q E hr h=>?_))
 obtain⟨pf,pb,fr,ba,t,rfl,hf,hb,of,ob,cf,cb,t1,h0,qn,qi⟩:=h
 refine⟨_,(zab (zaQ (zan ziY (zai zcs hr.o rfl (zaa (zak zah (pv 1) zad (λ_ _=>rfl)) (zaa (zak zah (pv 0) zad (λ_ _=>rfl)) zae))) zad (zas _)) (zaf (zaj zdC)) zat)
  (zab (zam (i:=3) zbA.nd rfl (Or.inl rfl) (zai zcS hr.o rfl (zaa (zai zbo hr.o rfl (zaa (pv 0) (zaa (pv 2) zae))) (zaa (zai zbo hr.o rfl (zaa (pv 1) (zaa (pv 2) zae))) zae))))
  (zab (zam (i:=4) zbA.nd rfl (Or.inl rfl) (zai zcS hr.o rfl (zaa (zak zah (pv 1) zad (λ_ _=>rfl)) (zaa (zak zah (pv 0) zad (λ_ _=>rfl)) zae))))
  (zab (zam (i:=5) zbA.nd rfl (Or.inl rfl) (zau fk rfl T.zrk zoH (zaa (zaz au (zak zah (pv 3) zad (λ_ _=>rfl)) (zak zah (pv 4) zad (λ_ _=>rfl))) (zaa (zaz au (zak zah (pv 3) zad (λ_ _=>rfl)) (zak zah (pv 4) zad (λ_ _=>rfl))) zae))))
  (zab (zaQ (PW.pt (zhh (zan zdd (zak zah (pv 5) zad (λ_ _=>rfl)) zad (zas _)) (zeq (zaR (zai zaZ hr.o rfl (zaa (pv 1) (zaa (pv 0) zae))))))) (zaf (zaj (zak zah (pv 5) zad (λ_ _=>rfl)))) zat)
  (zaf (zaj (zaz aw (zak zah (pv 5) zad (λ_ _=>rfl)) zad)))))))),?_⟩
 obtain⟨fw,fs,y1,y2,y3⟩:=id hf.ex
 obtain⟨bw,bs,x1,x2,x3⟩:=id hb.ex
 have f2:=of.s2
 have f3:=of.s3
 have b2:=ob.s2
 have b3:=ob.s3
 refine⟨_,rfl,pb,_,_,_,rfl,rfl,SqT.of x1,rfl,_,rfl,pf,_,_,_,rfl,rfl,SqT.of y1,rfl,?_⟩
 refine⟨bs,fs,_,_,_,_,rfl,SqT.of x3,SqT.of y3,by omega,by omega,by omega,by omega,λH1 s1=>?_⟩
 refine⟨_,_,rfl,rfl,_,rfl,?_⟩
 by_cases slow:ba.st*fr.sb<=fr.st*ba.sb
 ·refine iteD (show sg (ba.st*fr.sb) (fr.st*ba.sb)<=0 by unfold sg;split<;>(try split)<;>omega) ?_
  exact qn H1 s1 (.no (fh h0 ((fi ob of).mpr slow)))
 refine aA (show ¬sg (ba.st*fr.sb) (fr.st*ba.sb)<=0 by unfold sg;rw[if_neg (by omega),if_pos (by omega)];omega) ?_
 have rq:=zov ba fr
 have wp:=zow ob of
 have rp:0<rate ba fr:=by rw[rq];exact sL (by omega) wp
 refine⟨_,rfl,_,rfl,pf,fr,t,rfl,hf.same s1,of,by omega,cf,λr1 H2 s2 e1=>?_⟩
 refine⟨_,rfl,_,rfl,pb,ba,t,rfl,(hb.same s1).same s2,ob,by omega,cb,λr2 H3 s3 e2=>?_⟩
 have a1:=zbV of
 have a2:=zbV ob
 have a3:=M1.low_bot (t:=wtop fr t) a1
 have a4:=M1.low_bot (t:=wtop ba t) a2
 have a5:=M1.low_bot_le (t:=wtop fr t) a1
 have a6:=M1.low_bot_le (t:=wtop ba t) a2
 have a7:=zhz of
 have a8:=zhz ob
 have l1:=M1.low_cross (wtop fr t) (wbot fr)
 have l2:=M1.low_cross (wtop ba t) (wbot ba)
 have h1:H3 r1=_:=s3 _ _ e1
 generalize wtop fr t / M1.gd (wtop fr t) (wbot fr)=u0 at h1 l1
 generalize wbot fr / M1.gd (wtop fr t) (wbot fr)=u1 at h1 l1 a3 a5
 generalize wtop ba t / M1.gd (wtop ba t) (wbot ba)=v0 at e2 l2
 generalize wbot ba / M1.gd (wtop ba t) (wbot ba)=v1 at e2 l2 a4 a6
 refine⟨r1,r2,_,_,_,_,rfl,SqT.of h1,SqT.of e2,by omega,by omega,by omega,by omega,λg H4 s4 hg=>?_⟩
 have s14:Same H H4:=s1.trans (s2.trans (s3.trans s4))
 refine⟨_,rfl,pb,_,_,_,rfl,rfl,SqT.of (s14 _ _ x1),rfl,_,rfl,pf,_,_,_,rfl,rfl,SqT.of (s14 _ _ y1),rfl,?_⟩
 refine⟨bs,fs,_,_,_,_,rfl,SqT.of (s14 _ _ x3),SqT.of (s14 _ _ y3),by omega,by omega,by omega,by omega,λn H5 s5 hn=>?_⟩
 have hg5:=s5 _ _ hg
 have m1:ba.sb*fr.sb<=12*12:=sy b3 f3 (by omega) (by decide)
 have m2:0<ba.sb*fr.sb:=sL b2 f2
 have m3:u1*v1<=144*144:=sy (by omega) (by omega) (by omega) (by decide)
 have m4:0<u1*v1:=sL a3 a4
 have fu:ba.st*fr.sb<=1000000*12:=sy ob.s1 f3 (by omega) (by decide)
 have fl:0<=fr.st*ba.sb:=sT of.s0 (by omega)
 have m5:0<u1*v1*(ba.st*fr.sb-fr.st*ba.sb):=sL m4 (by omega)
 have m6:u1*v1*(ba.st*fr.sb-fr.st*ba.sb)<=144*144*(1000000*12):=sy m3 (by omega) (by omega) (by decide)
 refine⟨_,rfl,g,_,_,_,rfl,rfl,SqT.of hg5,rfl,_,rfl,n,_,_,_,rfl,rfl,SqT.of hn,rfl,_,_,rfl,rfl,.inr ⟨by omega,by omega⟩,?_⟩
 refine⟨_,rfl,g,_,_,_,rfl,rfl,SqT.of hg5,rfl,_,rfl,n,_,_,_,rfl,rfl,SqT.of hn,rfl,_,_,rfl,rfl,.inl ⟨by omega,by omega⟩,?_⟩
 refine⟨_,_,rfl,⟨m5,by omega⟩,λd H6 s6 n6 hd=>?_⟩
 have te:(u0*v1-v0*u1)*(ba.sb*fr.sb)*rate ba fr=(- gap ba fr t)*(u1*v1*(ba.st*fr.sb-fr.st*ba.sb)):=by
  have e:=zqK (fa:=ba.st*fr.sb-fr.st*ba.sb) l1 l2
  rw[rq,show-gap ba fr t=wtop fr t*wbot ba-wtop ba t*wbot fr by unfold gap;omega,show u1*v1*(ba.st*fr.sb-fr.st*ba.sb)=(ba.st*fr.sb-fr.st*ba.sb)*u1*v1 by ac_rfl,<-e]
  unfold wbot
  ac_rfl
 obtain⟨n1,n2⟩:=zqJ m5 rp te
 have n3:=fm m5 rp te
 generalize (u0*v1-v0*u1)*(ba.sb*fr.sb) / (u1*v1*(ba.st*fr.sb-fr.st*ba.sb))=n at n1 n2 n3 hd
 generalize (u0*v1-v0*u1)*(ba.sb*fr.sb) % (u1*v1*(ba.st*fr.sb-fr.st*ba.sb))=rm at n3 hd
 have PA:=zsR h0 rp n1 n2
 have s16:Same H H6:=s14.trans (s5.trans s6)
 refine⟨_,rfl,d,_,_,_,rfl,rfl,SqT.of hd,rfl,rfl,_,rfl,?_⟩
 by_cases z:rm=0
 ·refine iteD (tW V.int z) ?_
  refine⟨_,rfl,_,rfl,pb,pf,ba,fr,rfl,hb.same s16,hf.same s16,λH7 s7=>?_⟩
  have s17:=s16.trans s7
  have hd7:=s7 _ _ hd
  refine⟨_,rfl,?_⟩
  cases w:tie ba fr with
  | true=>
    rw[if_pos ⟨n3.mp z,w⟩]at PA
    refine iteT ?_
    exact⟨_,rfl,d,_,_,_,rfl,rfl,SqT.of hd7,rfl,qi _ _ s17 PA⟩
  | false=>
    rw[if_neg (λy=>by rw[w]at y;cases y.2)]at PA
    refine iteF ?_
    exact⟨_,rfl,d,_,_,_,rfl,rfl,SqT.of hd7,rfl,_,_,rfl,rfl,qi _ _ s17 PA⟩
 ·refine aA (λy=>z (V.int.inj y)) ?_
  refine iteF ?_
  rw[if_neg (λy=>z (n3.mpr y.1))]at PA
  exact⟨_,rfl,d,_,_,_,rfl,rfl,SqT.of hd,rfl,_,_,rfl,rfl,qi _ _ s16 PA⟩
def zgG:FnScope ["one","other","begin","turns"] pl30 (zac zhP):=fsc
include T in
theorem znt(D:Dfn K mg "passing" zhP pl30 f fd)(zlH:Cal P w K mg bj "ahead" 5 pl28 (zpZ K))(zbS:Cal P w K mg bj "turns_to_pass" 5 pl29 (zqa K)):Cal P w K mg bj "passing" 6 pl30 (zkG K):=by
 refine D.cal (D.F.ok zgG (by walk_at "z") (λc A o s H vs Q E hr h=>?_))
 obtain⟨p,p2,c,d,t,rfl,hc,hd,oc,od,ne,t1,h1,h2,q1⟩:=h
 refine⟨_,(bI (zaQ (zaR (zai zlH hr.o rfl (zaa (pv 0) (zaa (pv 1) (zaa (pv 2) zae))))) (zaf (zam (i:=3) zgG.nd rfl (Or.inl rfl) (zai zbS hr.o rfl (zaa (pv 0) (zaa (pv 1) (zaa (pv 2) zae)))))) (zaf (zam (i:=3) zgG.nd rfl (Or.inl rfl) (zai zbS hr.o rfl (zaa (pv 1) (zaa (pv 0) (zaa (pv 2) zae)))))))
  (zaf (zaj (zcK (zan zjI (pv 3) zdC (zas _)) zdC (zaz aw (pv 2) (pv 3)))))),?_⟩
 refine⟨λσ' H'=>∃v:V,σ'=[some (.ref p),some (.ref p2),some (.int t),some v]/\Same H H'/\((v=.non/\PassOf c d t .non)\/∃n:Int,v=.int n/\PassOf c d t (.int (t+n))),?_,?_⟩
 ·refine⟨_,rfl,_,rfl,_,rfl,p,p2,c,d,t,rfl,hc,hd,oc,od,by omega,h1,h2,λH1 s1=>?_⟩
  refine⟨_,rfl,?_⟩
  have sw:=zbI ne t
  cases z:ahd c d t with
  | true=>
    have z':ahd d c t=false:=by rw[sw,z];rfl
    refine iteT ?_
    refine⟨_,rfl,_,rfl,_,rfl,p,p2,c,d,t,rfl,hc.same s1,hd.same s1,oc,od,h1,h2,t1,z',λH2 s2 PN=>?_,λn H2 s2 PN=>?_⟩
    ·exact⟨_,rfl,s1.trans s2,.inl ⟨rfl,⟨λ_=>PN,λy=>by rw[z]at y;cases y⟩⟩⟩
    ·exact⟨_,rfl,s1.trans s2,.inr ⟨n,rfl,⟨λ_=>PN,λy=>by rw[z]at y;cases y⟩⟩⟩
  | false=>
    refine iteF ?_
    refine⟨_,rfl,_,rfl,_,rfl,p2,p,d,c,t,rfl,hd.same s1,hc.same s1,od,oc,h2,h1,t1,z,λH2 s2 PN=>?_,λn H2 s2 PN=>?_⟩
    ·exact⟨_,rfl,s1.trans s2,.inl ⟨rfl,⟨(λy=>by rw[z]at y;cases y),λ_=>PN⟩⟩⟩
    ·exact⟨_,rfl,s1.trans s2,.inr ⟨n,rfl,⟨(λy=>by rw[z]at y;cases y),λ_=>PN⟩⟩⟩
 rintro σ' H1 ⟨v,rfl,s1,P⟩
 rcases P with⟨rfl,P⟩ | ⟨n,rfl,P⟩
 ·refine⟨_,rfl,rfl,_,rfl,iteT ?_⟩
  exact q1 _ _ s1 P
 ·refine⟨_,rfl,rfl,_,rfl,iteF ?_⟩
  exact⟨_,rfl,_,rfl,_,_,rfl,rfl,q1 _ _ s1 P⟩
def zaL:FnScope ["claims","turn","ordered","found","place","back","front","met"] pl10 (zac zbY):=fsc
include T in
theorem zfP(D:Dfn K mg "passings_behind" zbY pl10 f fd)(zia:Cal P w K mg bj "passing" 6 pl30 (zkG K))(zaY:Cal P w K mg bj "claims_in_order" 6 pl10 (zlv K tT)):Cal P w K mg bj "passings_behind" 7 pl10 (zef K tT):=by
 refine D.cal (D.F.ok zaL (by walk_at "z") (λc A o s H vs Q E hr h=>?_))
 obtain⟨l,ps,t,rfl,hC,G,pl,hT,t1,ca,q⟩:=h
 refine⟨_,(zab (zam (i:=2) zaL.nd rfl (Or.inl rfl) (zai zaY hr.o rfl (zaa (pv 0) (zaa (pv 1) zae))))
  (zab (zam (i:=3) zaL.nd rfl (Or.inl rfl) (az zae))
  (zab (zcL tY rfl (zla rfl T.zeQ (zaa (pv 2) zae)) (zjE rfl (zbp (ay (i:=4) zaL.nd rfl (Or.inl rfl)) (zbp (ay (i:=5) zaL.nd rfl (Or.inl rfl)) zhk))) (zaf (zcL tY rfl (zaB (zco zcO (pv 2) zdJ (zcU (pv 4)))) (ay (i:=6) zaL.nd rfl (Or.inl rfl)) (zab (zam (i:=7) zaL.nd rfl (Or.inl rfl) (zai zia hr.o rfl (zaa (pv 6) (zaa (pv 5) (zaa (pv 1) zae)))))
  (zaf (zaQ (zan znX (pv 7) zdC (zas _)) (zaf (zbw (zqC rL qr qt zfU (pv 3) (zaa (zaK (zaa (pv 7) (zaa (zak zah (pv 5) zad (λ_ _=>rfl)) (zaa (zak zah (pv 6) zad (λ_ _=>rfl)) zae)))) zae)))) zat))))))
  (zaf (zaj (zau znc rfl T.zmz dX (zaa (pv 3) zae))))))),?_⟩
 refine⟨_,rfl,_,rfl,l,ps,t,rfl,hC,G,tU pl (by decide),hT,λo H1 qs s1 n1 h1 hp hs=>?_⟩
 have Gq:Good (qs.map (·.2)):=⟨λc hc=>G.ok c ((hp.map _).mem_iff.mp hc),(((hp.map (·.2)).map (·.n)).nodup_iff).mpr G.nd⟩
 have cq:∀x,x∈qs->IsCl K H1 x.1 x.2/\x.2.Ok/\x.2.came<=t:=λx hx=>⟨(hC.cl x (hp.mem_iff.mp hx)).same s1,Gq.ok _ (mem_map.mpr ⟨x,hx,rfl⟩),ca x (hp.mem_iff.mp hx)⟩
 have lq:=hp.length_eq
 refine⟨si0,λF H2 s2 n2 h2=>?_⟩
 refine⟨_,rfl,o,rfl,⟨_,SqL.of (s2 _ _ h1)⟩,?_⟩
 have oF:o≠F:=λz=>by rw[<-z,h1]at n2;cases n2
 refine zmg (K:=K) (a:=o) (xs:=qs.map λq=>V.ref q.1) (λi σ H3=>∃(v4 v5 v6 v7:Option V)(rs:List (Addr × Row)),σ=[some (.ref l),some (.int t),some (.ref o),some (.ref F),v4,v5,v6,v7]/\Same H1 H3/\IsRows H3 F rs/\rs.map (·.2)=rowsTo (qs.map (·.2)) t i)
  ⟨_,_,_,_,[],rfl,s2,⟨h2,λr hr=>by simp at hr⟩,by simp[rowsTo]⟩ (λi σ H3 _ ⟨_,_,_,_,_,_,s3,_⟩=>SqL.of (s3 _ _ h1)) ?_ ?_
 ·rintro i x σ H3 p H4 hi ⟨v4,v5,v6,v7,rs,rfl,s3,R3,e3⟩ s4 n4 h4
  obtain⟨b,eb,hi⟩:=gmp hi
  cases hi
  have il:i<qs.length:=(List.getElem?_eq_some_iff.mp eb).1
  obtain⟨cb,ob,bb⟩:=cq b (tE eb)
  refine⟨p,_,rfl,SqT.of h4,rfl,_,_,rfl,_,_,rfl,rfl,?_⟩
  have s14:=s3.trans s4
  refine⟨_,rfl,_,rfl,_,rfl,o,_,rfl,SqL.of (s14 _ _ h1),λc H5 s5 n5 h5=>?_⟩
  have cut:cutV (qs.map λq=>V.ref q.1) none (some (i:Int))=(qs.take i).map λq=>V.ref q.1:=by
   unfold cutV
   rw[HT.sIx_none,HT.sIx_nat,tm,List.drop_zero,Nat.min_eq_left (by omega),Nat.sub_zero,pB]
  rw[cut]at h5
  refine⟨c,rfl,⟨_,SqL.of h5⟩,?_⟩
  have R5:=(R3.same s4).same s5
  have s15:=s14.trans s5
  have cF:c≠F:=λz=>by
   have:=s4 _ _ R3.at_
   rw[<-z,n5]at this
   cases this
  have li:(qs.take i).length=i:=by rw[sj];omega
  refine zcn (K:=K) (a:=c) (xs:=(qs.take i).map λq=>V.ref q.1) (λk σ H6=>∃(v6 v7:Option V)(rs:List (Addr × Row)),σ=[some (.ref l),some (.int t),some (.ref o),some (.ref F),some (.int (i:Int)),some (.ref b.1),v6,v7]/\Same H1 H6/\H6 c=some (.lst ((qs.take i).map λq=>V.ref q.1))/\IsRows H6 F rs/\rs.map (·.2)=rowsTo (qs.map (·.2)) t i++(List.range k).filterMap (rowAt (qs.map (·.2)) t i))
   ⟨_,_,rs,rfl,s15,h5,R5,by simp[e3]⟩ (λk σ H6 _ ⟨_,_,_,_,_,h6,_⟩=>SqL.of h6) ?_ ?_
  ·rintro k x σ H6 hk ⟨v6,v7,rs,rfl,s6,h6,R6,e6⟩
   have kl:k<i:=by
    have:=(List.getElem?_eq_some_iff.mp hk).1
    rw[tm,li]at this
    exact this
   have efr:qs[k]?=some (qs[k]'(by omega)):=tj (by omega)
   rw[getElem?_map,List.getElem?_take_of_lt kl,efr]at hk
   cases hk
   generalize qs[k]'(by omega)=fr at efr
   obtain⟨cf,of,bf⟩:=cq fr (tE efr)
   have eb':(qs.map (·.2))[i]?=some b.2:=by rw[getElem?_map,eb];rfl
   have ef':(qs.map (·.2))[k]?=some fr.2:=by rw[getElem?_map,efr];rfl
   have ah:=zoT hs eb' ef' kl
   have nn:=aJ Gq ef' eb' (by omega)
   refine⟨_,rfl,_,rfl,_,rfl,fr.1,b.1,fr.2,b.2,t,rfl,cf.same s6,cb.same s6,of,ob,nn,t1,bf,bb,λv H7 s7 PO=>?_⟩
   have PA:=PO.one ah
   have ra:∀w,rowAt (qs.map (·.2)) t i k=w↔(mt b.2 fr.2 t).map (λu=>(u,b.2.n,fr.2.n))=w:=λw=>by
    unfold rowAt
    rw[eb',ef']
   cases PA with
   | no hno=>
     refine⟨_,rfl,rfl,_,rfl,iteF ?_⟩
     refine⟨_,_,rs,rfl,s6.trans s7,s7 _ _ h6,R6.same s7,?_⟩
     rw[e6,zoS,(ra none).mpr (by rw[zsW (.no hno)];rfl)]
     simp
   | at_ u u1 u2 u3=>
     refine⟨_,rfl,rfl,_,rfl,iteT ?_⟩
     have R7:=R6.same s7
     obtain⟨bw,bs,y1,_,_⟩:=((cb.same s6).same s7).ex
     obtain⟨fw,fs,x1,_,_⟩:=((cf.same s6).same s7).ex
     refine⟨_,rfl,.inl ⟨rfl,_,SqL.of R7.at_⟩,_,rfl,_,rfl,b.1,_,_,_,rfl,rfl,SqT.of y1,rfl,_,rfl,fr.1,_,_,_,rfl,rfl,SqT.of x1,rfl,si3,λp8 H8 s8 n8 h8=>?_⟩
     have R8:=R7.same s8
     have rl:rs.length<=1000-1:=by
      have e:=tW List.length e6
      rw[tm,tR]at e
      have a1:=zfW (qs.map (·.2)) t i
      have a2:=zrL (rowAt (qs.map (·.2)) t i) k
      have a3:i*(i-1)<=11*10:=Nat.mul_le_mul (by omega) (by omega)
      omega
     refine⟨F,_,_,rfl,rfl,R8.at_,zax (by rw[tm];omega),λH9 k9 h9=>?_⟩
     have nF:∀r a,H8 a=some (.tup r)->a≠F:=λr a g z=>by rw[z,R8.at_]at g;cases g
     refine⟨_,_,rs++[(p8,(u,b.2.n,fr.2.n))],rfl,(s6.trans (s7.trans s8)).but n2 k9,k9 _ _ cF (s8 _ _ (s7 _ _ h6)),⟨?_,λr hr=>?_⟩,?_⟩
     ·rw[h9,t4]
      rfl
     ·rcases mem_append.mp hr with hr | hr
      ·exact k9 _ _ (nF _ _ (R8.rw r hr)) (R8.rw r hr)
      ·have er:r=(p8,(u,b.2.n,fr.2.n)):=by simpa using hr
       subst er
       exact k9 _ _ (nF _ _ h8) h8
     ·rw[t4,e6,zoS,(ra (some (u,b.2.n,fr.2.n))).mpr (by rw[zoQ (.at_ u u1 u2 u3)];rfl),pH]
      rfl
  ·rintro σ H6 ⟨v6,v7,rs,rfl,s6,h6,R6,e6⟩
   refine⟨_,_,_,_,rs,rfl,s6,R6,?_⟩
   rw[e6,tm,li,zeu]
 ·rintro σ H3 ⟨v4,v5,v6,v7,rs,rfl,s3,R3,e3⟩
  rw[tm]at e3
  have el:rs.length=(rowsTo (qs.map (·.2)) t qs.length).length:=by rw[<-e3,tm]
  have lr:rs.length<64:=by
   have a1:=zfW (qs.map (·.2)) t qs.length
   have a3:qs.length*(qs.length-1)<=11*10:=Nat.mul_le_mul (by omega) (by omega)
   omega
  have ml:(rs.map λr=>V.ref r.1).length=(rs.map (·.2)).length:=by rw[tm,tm]
  refine⟨_,rfl,F,_,rk (rs.map (·.2)),3,rfl,SqL.of R3.at_,by rw[tm];exact lr,zuA _,by decide,by rw[ml];exact zuB (by rw[e3];exact eA Gq t _),λi v hv=>?_,λD H4 p s4 nD hD hp2 hs2=>?_⟩
  ·obtain⟨r,e,hv⟩:=gmp hv
   cases hv
   refine⟨r.1,rfl,?_⟩
   unfold rk
   rw[getElem?_map,e]
   exact R3.rw r (tE e)
  ·have d:Addr × Row:=(0,(0,0,0))
   rw[tm]at hp2
   have lt:∀i∈p,i<rs.length:=λi hi=>mem_range.mp (hp2.mem_iff.mp hi)
   have pk:=dZ d rs hp2
   have s13:Same H H4:=s1.trans (s3.trans s4)
   refine q D H4 (p.map λi=>rs.getD i d) s13 (Same.free (s1.trans s3) nD) ⟨?_,λr hr=>s4 _ _ (R3.rw r (pk.mem_iff.mp hr))⟩ (by rw[pk.length_eq];exact lr) (zsX (hp.map _) hs (by rw[tm,<-e3];exact pk.map _) (zoU d hp2 hs2))
   rw[hD,t5]
   congr 2
   refine pE λi hi=>?_
   have:=lt i hi
   show(rs.map λr=>V.ref r.1).getD i .non=V.ref (rs.getD i d).1
   rw[tK,tK,getElem?_map,tj this]
   rfl
def aL(x:V)(xs:List V):atI (x::xs) 0=some x:=by
 unfold atI ixN
 rw[if_pos (by decide),if_pos (by rw[length_cons];omega)]
 rfl
def zsp{xs:List V}{v:V}(h:xs.getLast?=some v):atI xs (-1)=some v:=by
 have ne:xs≠[]:=by
  rintro rfl
  cases h
 have l0:0<xs.length:=List.length_pos_iff.mpr ne
 have e:ixN xs.length (-1)=some (xs.length-1):=by
  unfold ixN
  rw[if_neg (by omega)]
  simp
  omega
 unfold atI
 rw[e]
 rw[List.getLast?_eq_getElem?]at h
 exact h
def zgS:FnScope ["claims","turn","found"] pl10 (zac zez):=fsc
include T in
theorem zkJ(D:Dfn K mg "last_turn" zez pl10 f fd)(zaJ:Cal P w K mg bj "passings_behind" 7 pl10 (zef K tT)):Cal P w K mg bj "last_turn" 8 pl10 (zqb K tT):=by
 refine D.cal (D.F.ok zgS (by walk_at "z") (λc A o s H vs Q E hr h=>?_))
 obtain⟨l,ps,t,rfl,hC,G,pl,hT,t1,ca,q⟩:=h
 refine⟨_,(zab (zam (i:=2) zgS.nd rfl (Or.inl rfl) (zai zaJ hr.o rfl (zaa (pv 0) (zaa (pv 1) zae))))
  (zaf (zaj (zcK (zan zei (zau zaH rfl T.zdW zcm (zaa (pv 2) zae)) zad (zas _)) (zak zah (zak zbc (pv 2) (znS zjH zad) (λ_ _=>rfl)) zad (λ_ _=>rfl)) zdC)))),?_⟩
 refine⟨_,rfl,_,rfl,l,ps,t,rfl,hC,G,pl,hT,t1,ca,λF H2 rs s2 n2 R2 lr RO=>?_⟩
 have Z:=q H2 _ s2 RO
 refine⟨_,rfl,F,_,rfl,.inl (SqL.of R2.at_),_,_,rfl,rfl,_,rfl,?_⟩
 have ml:(rs.map λr=>V.ref r.1).length=rs.length:=tm _
 rw[ml]
 unfold zns at Z
 rw[pX]at Z
 cases e:rs.getLast? with
 | none=>
   have e0:rs=[]:=List.getLast?_eq_none_iff.mp e
   rw[e]at Z
   subst e0
   exact iteF Z
 | some r=>
   rw[e]at Z
   have hr:r∈rs:=ph e
   have l0:0<rs.length:=List.length_pos_of_mem hr
   refine iteD (by show(0:Int)<(rs.length:Int);omega) ?_
   exact⟨_,rfl,_,rfl,F,_,_,_,rfl,rfl,SqL.of R2.at_,zsp (by rw[pX,e];rfl),r.1,_,_,_,rfl,rfl,SqT.of (R2.rw r hr),rfl,Z⟩
def znu:FnScope pl31 pl31 (zac zhQ):=fsc
include T in
theorem znv(D:Dfn K mg "changes" zhQ pl31 f fd)(zao:Cal P w K mg bj "is_whole" 1 pl3 (zbn K))(aI:Cal P w K mg bj "check_turn" 2 pl10 (zjj K))(zaJ:Cal P w K mg bj "passings_behind" 7 pl10 (zef K tT)):Cal P w K mg bj "changes" 8 pl31 (zvg K tT):=by
 refine D.cal (D.F.ok znu (by walk_at "z") (λc A o s H vs Q E hr h=>?_))
 obtain⟨l,ps,t,u,rfl,hC,G,pl,hT,t0,t1,ca,u0,u1,q⟩:=h
 refine⟨_,(zab (zbw (zai aI hr.o rfl (zaa (pv 0) (zaa (pv 1) zae))))
  (zab (zaQ (zbi (zaR (zai zao hr.o rfl (zaa (pv 2) (zaa (pv 1) (zaa (zbv (v:=.int 1000000000000000) rfl T.Bt.choose_spec ⟨_,rfl⟩) zae)))))) (zaf aB) zat)
  (zaf (zaj (zaN (N:=["row","last"]) (js:=[2]) rfl cpo (zaB (zai zaJ hr.o rfl (zaa (pv 0) (zaa (pv 1) zae)))) (λ_ _ _ _ _=>(zcN (zan ziY (zak (r:=rIxT K) zah (pv 0) zad (λ_ _=>rfl)) (pv 1) (zas _)))) (λ_ _ _ _ _=>(pv 0))))))),?_⟩
 refine⟨_,rfl,_,rfl,l,ps,t,rfl,hC,by omega,t0,t1,ca,λH1 s1=>?_⟩
 refine⟨_,rfl,_,rfl,_,t,1000000000000000,_,rfl,.inl ⟨u,rfl,rfl⟩,?_⟩
 rw[decide_eq_true u0,decide_eq_true u1]
 refine⟨_,rfl,iteF ?_⟩
 refine⟨_,rfl,_,rfl,l,ps,t,rfl,hC.same s1,G,pl,s1 _ _ hT,by omega,ca,λF H2 rs s2 n2 R2 lr RO=>⟨F,rfl,⟨_,SqL.of R2.at_⟩,?_⟩⟩
 have ml:(rs.map λr=>V.ref r.1).length=rs.length:=tm _
 refine zaS (xs:=rs.map λr=>V.ref r.1) (tak rs λr=>decide (r.2.1<=u)) (itm rs λr=>V.ref r.1) (SqL.of R2.at_) (λi x Hh Q' hx sh q'=>?_) (λi x Hh Q' hx _ sh q'=>?_) (zax (by rw[ml];omega)) (λD H3 s3 nD hD=>?_)
 ·obtain⟨r,e,hx⟩:=gmp hx
  cases hx
  have z:=q' Hh (Same.refl _)
  unfold tak at z
  rw[e]at z
  exact⟨_,rfl,r.1,_,_,_,rfl,rfl,SqT.of (sh _ _ (R2.rw r (tE e))),rfl,_,rfl,_,_,rfl,rfl,_,rfl,z⟩
 ·obtain⟨r,e,hx⟩:=gmp hx
  cases hx
  have z:=q' Hh (Same.refl _)
  unfold itm at z
  rw[e]at z
  exact⟨_,rfl,z⟩
 rw[ml,zdM]at hD
 have s12:=s1.trans s2
 exact q D H3 rs (s12.trans s3) (Same.free s12 nD) ⟨hD,λr hr=>s3 _ _ (R2.rw r (mem_filter.mp hr).1)⟩ lr RO
def ck:FnScope ["claims","turn","found","least"] pl10 (zac zdh):=fsc
include T in
theorem zix(D:Dfn K mg "next_change" zdh pl10 f fd)(aI:Cal P w K mg bj "check_turn" 2 pl10 (zjj K))(zaJ:Cal P w K mg bj "passings_behind" 7 pl10 (zef K tT)):Cal P w K mg bj "next_change" 8 pl10 (zqc K tT):=by
 refine D.cal (D.F.ok ck (by walk_at "z") (λc A o s H vs Q E hr h=>?_))
 obtain⟨l,ps,t,rfl,hC,G,pl,hT,t0,t1,ca,q⟩:=h
 refine⟨_,(zab (zbw (zai aI hr.o rfl (zaa (pv 0) (zaa (pv 1) zae))))
  (zab (zam (i:=2) ck.nd rfl (Or.inl rfl) (zai zaJ hr.o rfl (zaa (pv 0) (zaa (pv 1) zae))))
  (zab (zaQ (zan zdd (zau zaH rfl T.zdW zcm (zaa (pv 2) zae)) zad (zas _)) (zaf (zaj zdC)) zat)
  (zab (zam (i:=3) ck.nd rfl (Or.inr rfl) (zak zah (zak zbc (pv 2) zad (λ_ _=>rfl)) zad (λ_ _=>rfl)))
  (zaf (zaj (zaK (zaa (pv 3) (zaa (zaN (N:=["row","least"]) (js:=[3]) rfl cpo (zaB (pv 2)) (λ_ _ _ _ _=>(zcN (zan zdd (zak (r:=rIxT K) zah (pv 0) zad (λ_ _=>rfl)) (pv 1) (zas _)))) (λ_ _ _ _ _=>(zaK (zaa (zak (r:=rIxT K) zah (pv 0) zad (λ_ _=>rfl)) (zaa (zak (r:=rIxT K) zah (pv 0) zad (λ_ _=>rfl)) zae))))) zae))))))))),?_⟩
 refine⟨_,rfl,_,rfl,l,ps,t,rfl,hC,by omega,t0,t1,ca,λH1 s1=>?_⟩
 refine⟨_,rfl,_,rfl,l,ps,t,rfl,hC.same s1,G,pl,s1 _ _ hT,by omega,ca,λF H2 rs s2 n2 R2 lr RO=>?_⟩
 have s12:=s1.trans s2
 refine⟨_,rfl,F,_,rfl,.inl (SqL.of R2.at_),rfl,_,rfl,?_⟩
 have ml:(rs.map λr=>V.ref r.1).length=rs.length:=tm _
 rw[ml]
 cases rs with
 | nil=>exact iteT (q .non H2 [] s12 RO lr (.inl ⟨rfl,rfl⟩))
 | cons r0 rest=>
   refine aA (λz=>by have:=V.int.inj z;simp at this;omega) ?_
   refine⟨_,rfl,F,_,_,_,rfl,rfl,SqL.of R2.at_,aL _ _,r0.1,_,_,_,rfl,rfl,SqT.of (R2.rw r0 tN),rfl,?_⟩
   refine⟨_,rfl,_,rfl,F,rfl,⟨_,SqL.of R2.at_⟩,?_⟩
   refine zfq (xs:=(r0::rest).map λr=>V.ref r.1) (tak (r0::rest) λr=>decide (r.2.1=r0.2.1)) (itl (r0::rest) λr=>[V.int r.2.2.1,V.int r.2.2.2]) (SqL.of R2.at_) (λi x Hh Q' hx sh q'=>?_) (λi x Hh Q' hx _ sh q'=>?_) (zax (by rw[ml];omega)) (λD H3 bs s3 nD hD eb hb=>?_)
   ·obtain⟨r,e,hx⟩:=gmp hx
    cases hx
    have z:=q' Hh (Same.refl _)
    unfold tak at z
    rw[e]at z
    refine⟨_,rfl,r.1,_,_,_,rfl,rfl,SqT.of (sh _ _ (R2.rw r (tE e))),rfl,_,rfl,rfl,_,rfl,?_⟩
    have ee:decide (V.int r.2.1=V.int r0.2.1)=decide (r.2.1=r0.2.1):=by
     rw[rg]
     exact⟨V.int.inj,tW V.int⟩
    rw[ee]
    exact z
   ·obtain⟨r,e,hx⟩:=gmp hx
    cases hx
    have hr:=SqT.of (K:=K) (sh _ _ (R2.rw r (tE e)))
    refine⟨_,rfl,r.1,_,_,_,rfl,rfl,hr,rfl,_,rfl,r.1,_,_,_,rfl,rfl,hr,rfl,si2,λb H4 s4 n4 h4=>q' b H4 s4 ?_⟩
    rw[h4]
    unfold itl
    rw[e]
   rw[ml,zfX]at eb
   refine⟨si2,λp H4 s4 n4 h4=>?_⟩
   refine q _ H4 _ (s12.trans (s3.trans s4)) RO (by rw[tm];exact lr) (.inr ⟨p,D,bs,r0.2,rest.map (·.2),rfl,rfl,h4,s4 _ _ hD,?_,λb hb'=>s4 _ _ (hb b hb')⟩)
   rw[eb,sM,t5]
   rfl
def zfd:FnScope ["claims","begin","last"] ["claims"] (zac zgf):=fsc
include T in
theorem zlI(D:Dfn K mg "for_ever" zgf ["claims"] f fd)(zaG:Cal P w K mg bj "numbers_in_order" 7 pl10 (zfA K tT))(zfe:Cal P w K mg bj "last_turn" 8 pl10 (zqb K tT)):Cal P w K mg bj "for_ever" 9 ["claims"] (zso K tT):=by
 refine D.cal (D.F.ok zfd (by walk_at "z") (λc A o s H vs Q E hr h=>?_))
 obtain⟨l,ps,rfl,hC,G,pl,hT,q⟩:=h
 refine⟨_,(zab (zam (i:=1) zfd.nd rfl (Or.inl rfl) (zta rfl rfl T.zvU (zaa (zaN (N:=["claim"]) (js:=[]) rfl cpo (zaB (pv 0)) (λ_ _ _ _ _=>zbx) (λ_ _ _ _ _=>(zak (r:=rIxT K) zah (pv 0) zad (λ_ _=>rfl)))) zae) zad))
  (zab (zam (i:=2) zfd.nd rfl (Or.inl rfl) (zai zfe hr.o rfl (zaa (pv 0) (zaa (pv 1) zae))))
  (zaf (zaj (zai zaG hr.o rfl (zaa (pv 0) (zaa (zcK (zan zjI (pv 2) zdC (zas _)) (pv 1) (pv 2)) zae))))))),?_⟩
 refine⟨_,rfl,l,rfl,⟨_,SqL.of hC.at_⟩,?_⟩
 have ml:(ps.map λq=>V.ref q.1).length=ps.length:=tm _
 refine zaS (xs:=ps.map λq=>V.ref q.1) (λ_=>true) (itm ps λq=>V.int q.2.came) (SqL.of hC.at_) (λi x Hh Q' hx sh q'=>q' Hh (Same.refl _)) ?_ (zax (by rw[ml];omega)) (λD H2 s2 nD hD=>?_)
 ·intro i x Hh Q' hx _ sh q'
  obtain⟨y,e,hx⟩:=gmp hx
  cases hx
  obtain⟨pw,pz,z1,_,_⟩:=((hC.cl y (tE e)).same sh).ex
  refine⟨_,rfl,y.1,_,_,_,rfl,rfl,SqT.of z1,rfl,?_⟩
  have z:=q' Hh (Same.refl _)
  unfold itm at z
  rw[e]at z
  exact z
 rw[zbW,ml,zes]at hD
 have hD:H2 D=some (.lst ((ps.map λq=>q.2.came).map V.int)):=by
  rw[hD,t5]
  rfl
 refine⟨D,_,rfl,SqL.of hD,0,rfl,SqL.of hD,λb hb=>?_⟩
 have hb:0<=b/\b<=1000000000000000/\∀q,q∈ps->q.2.came<=b:=by
  rcases hb with⟨e,rfl⟩ | ⟨hm,hle⟩
  ·refine⟨rA _,by decide,λq hq=>?_⟩
   rw[List.map_eq_nil_iff]at e
   rw[e]at hq
   cases hq
  ·obtain⟨q0,hq0,rfl⟩:=mem_map.mp hm
   have o:=G.ok q0.2 (mem_map.mpr ⟨q0,hq0,rfl⟩)
   exact⟨o.c0,o.c1,λq hq=>hle _ (mem_map.mpr ⟨q,hq,rfl⟩)⟩
 obtain⟨b0,b1,ca⟩:=hb
 refine⟨_,rfl,_,rfl,l,ps,b,rfl,hC.same s2,G,pl,s2 _ _ hT,by omega,ca,λH3 rows s3 RO=>?_⟩
 have s03:=s2.trans s3
 have ca':∀c,c∈ps.map (·.2)->c.came<=b:=λc hc=>by
  obtain⟨q,hq,rfl⟩:=mem_map.mp hc
  exact ca q hq
 refine⟨_,rfl,_,rfl,?_⟩
 cases e:rows.getLast? with
 | none=>
   have er:rows=[]:=List.getLast?_eq_none_iff.mp e
   rw[show zns rows=.non by unfold zns;rw[e]]
   refine⟨rfl,_,rfl,iteT ?_⟩
   refine⟨_,rfl,l,ps,b,rfl,hC.same s03,G,by omega,s03 _ _ hT,λm H4 s4 n4 h4=>?_⟩
   refine q m H4 b (s03.trans s4) (Same.free s03 n4) h4 (by omega) λv hv=>zka G hv λu p u1 _ wk=>?_
   have:=(RO.walk G (u,p)).mpr ⟨u1,wk⟩
   rw[er]at this
   cases this
 | some r=>
   rw[show zns rows=.int r.1 by unfold zns;rw[e]]
   refine⟨rfl,_,rfl,iteF ?_⟩
   have hr:=ph e
   refine⟨_,rfl,l,ps,r.1,rfl,hC.same s03,G,by omega,s03 _ _ hT,λm H4 s4 n4 h4=>?_⟩
   refine q m H4 r.1 (s03.trans s4) (Same.free s03 n4) h4 (RO.le G ca' b1 hr) λv hv=>zka G hv λu p u1 _ wk=>?_
   have br:=((RO.walk G r).mp hr).1
   have:=zmU RO.srt e (u,p) ((RO.walk G (u,p)).mpr ⟨by show b<u;omega,wk⟩)
   have:u<=r.1:=this
   omega
def nms:List Str:=["rush","plain","slow","odd","a","zz","late","abcdefgh"]
def zvi:∀z,z∈nms->znp z.cps.toList=true/\z.length<=100:=by decide +kernel
def zvj:nms.Nodup:=by decide +kernel
def zrs(xs:List V){k:Nat}(h:k<=xs.length):cutV xs (some (k:Int)) none=xs.drop k:=by
 unfold cutV
 rw[HT.sIx_none,HT.sIx_nat,Nat.min_eq_left h]
 refine sW ?_
 rw[qD]
 exact tF _
def zlJ:FnScope pl32 pl32 (zac zgl):=fsc
include T in
theorem zlK(D:Dfn K mg "_law_cell" zgl pl32 f fd):Cal P w K mg bj "_law_cell" 1 pl32 (zsm K):=by
 refine D.cal (D.F.ok zlJ (by walk_at "z") (λc A o s H vs Q E hr h=>?_))
 obtain⟨a,ns,k,rfl,hS,k0,q⟩:=h
 refine⟨_,(zab (zaQ (zan znW (pv 1) (zau zaH rfl T.zdW zcm (zaa (pv 0) zae)) (zas _)) (zaf (zaj (zak zbc (pv 0) (pv 1) (λ_ _=>rfl)))) zat)
  (zaf (zaj (zaz aw (zaz au zad (pv 1)) zad)))),?_⟩
 refine⟨_,rfl,_,rfl,a,_,rfl,.inl hS,_,_,rfl,rfl,_,rfl,?_⟩
 refine ite2 (λc=>?_) (λc=>?_)
 ·have c':k<(((ns.map V.int).length:Nat):Int):=tP c
  rw[tm]at c'
  have hk:k.toNat<ns.length:=by omega
  have z:atI (ns.map V.int) ((k.toNat:Nat):Int)=some (.int ns[k.toNat]):=zhs (by rw[getElem?_map,tj hk]<;>rfl)
  rw[show((k.toNat:Nat):Int)=k by omega]at z
  exact⟨_,rfl,_,rfl,a,_,_,_,rfl,rfl,hS,z,q _⟩
 ·exact⟨_,rfl,_,_,rfl,rfl,.inl ⟨by decide,by decide⟩,_,_,rfl,rfl,q _⟩
def zgH:FnScope ["_law_cell_here","_law_k","_law_number"] pl33 (zac zhR):=fsc
include T in
theorem znw(D:Dfn K mg "_law_mix" zhR pl33 f fd):Cal P w K mg bj "_law_mix" 1 pl33 zve:=by
 refine D.cal (D.F.ok zgH (by walk_at "z") (λc A o s H vs Q E hr h=>?_))
 obtain⟨x,k,rfl,q⟩:=h
 refine⟨_,(zab (zam (i:=2) zgH.nd rfl (Or.inl rfl) (zaz zhl (zaz au (zaz aw (zaz aw (zaz zhl (pv 0) zad) (zaz au zad (pv 1))) zad) zad) zad))
  (zab (zam (i:=2) zgH.nd rfl (Or.inl rfl) (zaz zhl (zaz aw (zaz au (pv 2) (pv 2)) (zaz au zad (pv 1))) zad))
  (zaf (zaj (zaz zhl (zaz au (pv 2) (zaz aw (pv 2) zad)) zad))))),?_⟩
 refine⟨_,rfl,_,_,rfl,rfl,(by show(0:Int)<_;decide),_,rfl,_,_,rfl,rfl,.inl ⟨by decide,by decide⟩,_,_,rfl,rfl,_,_,rfl,rfl,_,_,rfl,rfl,.inr ⟨by decide,by decide⟩,_,_,rfl,rfl,(by show(0:Int)<_;decide),?_⟩
 have m0:=rY ((x % 2147483629+7919*k+17)*48271) (show(2147483647:Int)≠0 by decide)
 have m1:=rR ((x % 2147483629+7919*k+17)*48271) (show(0:Int)<2147483647 by decide)
 dsimp only
 generalize (x % 2147483629+7919*k+17)*48271 % 2147483647=n1 at m0 m1 ⊢
 refine⟨_,rfl,_,rfl,_,_,rfl,rfl,.inl ⟨by omega,by omega⟩,_,rfl,_,_,rfl,rfl,.inl ⟨by decide,by decide⟩,_,_,rfl,rfl,_,_,rfl,rfl,(by show(0:Int)<_;decide),?_⟩
 have m2:=rY (n1*n1+3*k) (show(2147483629:Int)≠0 by decide)
 have m3:=rR (n1*n1+3*k) (show(0:Int)<2147483629 by decide)
 dsimp only
 generalize (n1*n1+3*k) % 2147483629=n2 at m2 m3 ⊢
 refine⟨_,rfl,_,rfl,_,_,rfl,rfl,_,_,rfl,rfl,.inl ⟨by omega,by omega⟩,_,_,rfl,rfl,(by show(0:Int)<_;decide),?_⟩
 exact q _ (rY _ (by decide))
def zkK:FnScope pl34 pl34 (zac zeF):=fsc
include T in
theorem zkL(D:Dfn K mg "_law_begun" zeF pl34 f fd):Cal P w K mg bj "_law_begun" 1 pl34 zlE:=by
 refine D.cal (D.F.ok zkK (by walk_at "z") (λc A o s H vs Q E hr h=>?_))
 obtain⟨x,rfl,q⟩:=h
 refine⟨_,(zab (zaQ (zan ztO (pv 0) (zaz bB zad zad) (zas _)) (zaf (zaj (az (zaa (pv 0) (zaa (pv 0) (zaa zad zae)))))) zat)
  (zaf (zaj (az (zaa zad (zaa (pv 0) (zaa zad zae))))))),?_⟩
 refine⟨_,rfl,_,_,rfl,rfl,⟨by decide,by decide,by decide⟩,_,_,rfl,rfl,_,rfl,?_⟩
 refine ite2 (λc=>?_) (λc=>?_)
 ·exact⟨_,rfl,_,rfl,si3,λl H1 s1 n1 h1=>q l H1 s1 n1 ⟨_,_,_,h1⟩⟩
 ·exact⟨_,rfl,si3,λl H1 s1 n1 h1=>q l H1 s1 n1 ⟨_,_,_,h1⟩⟩
def zib:FnScope ["_law_state","_law_many","_law_number"] pl35 (zac zgm):=fsc
include T in
theorem zlL(D:Dfn K mg "_law_pull" zgm pl35 f fd)(zic:Cal P w K mg bj "_law_mix" 1 pl33 zve):Cal P w K mg bj "_law_pull" 2 pl35 zkH:=by
 refine D.cal (D.F.ok zib (by walk_at "z") (λc A o s H vs Q E hr h=>?_))
 obtain⟨a,m,rfl,⟨p,x,k,e⟩,m0,m1,q⟩:=h
 refine⟨_,(zab (zaQ (zan zei (zak zbc (pv 0) zad (λ_ _=>rfl)) zad (zas _)) (zab (zam (i:=2) zib.nd rfl (Or.inl rfl) (zaz zhl (zak zbc (pv 0) zad (λ_ _=>rfl)) (pv 1)))
  (zab (znO (zaz zeb (zak zbc (pv 0) zad (λ_ _=>rfl)) (pv 1)) (zrx (pv 0) zad dU))
  (zaf (zaj (pv 2))))) zat)
  (zab (znO (zaz aw (zak zbc (pv 0) zad (λ_ _=>rfl)) zad) (zrx (pv 0) zad dU))
  (zaf (zaj (zaz zhl (zai zic hr.o rfl (zaa (zak zbc (pv 0) zad (λ_ _=>rfl)) (zaa (zak zbc (pv 0) zad (λ_ _=>rfl)) zae))) (pv 1)))))),?_⟩
 refine⟨_,rfl,a,_,_,_,rfl,rfl,SqL.of e,rfl,_,_,rfl,rfl,_,rfl,?_⟩
 refine ite2 (λc=>?_) (λc=>?_)
 ·refine⟨_,rfl,a,_,_,_,rfl,rfl,SqL.of e,rfl,_,rfl,_,_,rfl,rfl,m0,?_⟩
  refine⟨_,rfl,a,_,_,_,rfl,rfl,SqL.of e,rfl,_,rfl,_,_,rfl,rfl,⟨m0,m1⟩,_,rfl,a,_,_,_,rfl,rfl,e,rfl,λH1 k1 h1=>?_⟩
  exact⟨_,rfl,q _ H1 k1 ⟨_,_,_,h1⟩ (rY _ (by omega)) (rR _ m0)⟩
 ·refine⟨_,rfl,a,_,_,_,rfl,rfl,SqL.of e,rfl,_,_,rfl,rfl,_,rfl,a,_,_,_,rfl,rfl,e,rfl,λH1 k1 h1=>?_⟩
  refine⟨_,rfl,a,_,_,_,rfl,rfl,SqL.of h1,rfl,_,rfl,a,_,_,_,rfl,rfl,SqL.of h1,rfl,x,_,rfl,λr r0=>?_⟩
  exact⟨_,rfl,_,_,rfl,rfl,m0,q _ H1 k1 ⟨_,_,_,h1⟩ (rY _ (by omega)) (rR _ m0)⟩
def zca:FnScope ["_law_claim","_law_turn","_law_number","_law_weight","_law_speed","_law_came"] pl36 (zac zeG):=fsc
include T in
theorem zkM(D:Dfn K mg "_law_parts" zeG pl36 f fd):Cal P w K mg bj "_law_parts" 1 pl36 (zmR K):=by
 refine D.cal (D.F.ok zca (by walk_at "z") (λc A o s H vs Q E hr h=>?_))
 obtain⟨p,c,t,rfl,hc,ok,q⟩:=h
 refine⟨_,(zab (znO (pv 0) (zjE rfl (zbp (ay (i:=2) zca.nd rfl (Or.inl rfl)) (zbp (ay (i:=3) zca.nd rfl (Or.inl rfl)) (zbp (ay (i:=4) zca.nd rfl (Or.inl rfl)) (zbp (ay (i:=5) zca.nd rfl (Or.inl rfl)) zhk))))))
  (zaf (zaj (zaK (zaa (zaz aw (zaz au (zak zah (pv 3) zad (λ_ _=>rfl)) (zak zah (pv 4) zad (λ_ _=>rfl))) (zaz au (zaz au (zak zah (pv 4) zad (λ_ _=>rfl)) (zaz zel (pv 1) (pv 5))) (zak zah (pv 3) zad (λ_ _=>rfl)))) (zaa (zaz au (zak zah (pv 3) zad (λ_ _=>rfl)) (zak zah (pv 4) zad (λ_ _=>rfl))) zae)))))),?_⟩
 obtain⟨pw,ps,e1,e2,e3⟩:=id hc.ex
 have hw1:SqT K H pw [.int c.wt,.int c.wb]:=SqT.of e2
 have hs1:SqT K H ps [.int c.st,.int c.sb]:=SqT.of e3
 have z1:=ok.w2
 have z2:=ok.w3
 have z3:=ok.s2
 have z4:=ok.s3
 have z5:=ok.s0
 have z6:=ok.s1
 refine⟨_,rfl,p,_,rfl,SqT.of e1,rfl,_,_,rfl,_,_,rfl,_,_,rfl,_,_,rfl,rfl,?_⟩
 refine⟨_,rfl,pw,_,_,_,rfl,rfl,hw1,rfl,_,rfl,ps,_,_,_,rfl,rfl,hs1,rfl,_,_,rfl,rfl,.inr ⟨by omega,by omega⟩,?_⟩
 refine⟨_,rfl,ps,_,_,_,rfl,rfl,hs1,rfl,_,rfl,_,rfl,_,_,rfl,rfl,_,_,rfl,rfl,.inl ⟨by omega,by omega⟩,_,rfl,pw,_,_,_,rfl,rfl,hw1,rfl,_,_,rfl,rfl,.inr ⟨by omega,by omega⟩,_,_,rfl,rfl,?_⟩
 refine⟨_,rfl,pw,_,_,_,rfl,rfl,hw1,rfl,_,rfl,ps,_,_,_,rfl,rfl,hs1,rfl,_,_,rfl,rfl,.inr ⟨by omega,by omega⟩,si2,λr H1 s1 n1 h1=>?_⟩
 have et:c.wt*c.sb+c.st*(t-c.came)*c.wb=wtop c t:=by
  unfold wtop
  rw[pU c.st (t-c.came)]
 refine q r H1 s1 ?_
 rw[<-et]
 exact h1
def cr:FnScope ["_law_one","_law_other","_law_turn","_law_mine","_law_theirs"] pl37 (zac zeH):=fsc
include T in
theorem zkN(D:Dfn K mg "_law_ahead" zeH pl37 f fd)(zdz:Cal P w K mg bj "_law_parts" 1 pl36 (zmR K)):Cal P w K mg bj "_law_ahead" 2 pl37 (zmS K):=by
 refine D.cal (D.F.ok cr (by walk_at "z") (λc A o s H vs Q E hr h=>?_))
 obtain⟨p,p2,c,d,t,rfl,hc,hd,oc,od,q⟩:=h
 refine⟨_,(zab (zam (i:=3) cr.nd rfl (Or.inl rfl) (zai zdz hr.o rfl (zaa (pv 0) (zaa (pv 2) zae))))
  (zab (zam (i:=4) cr.nd rfl (Or.inl rfl) (zai zdz hr.o rfl (zaa (pv 1) (zaa (pv 2) zae))))
  (zab (zaQ (zan zdd (zaz au (zak zah (pv 3) zad (λ_ _=>rfl)) (zak zah (pv 4) zad (λ_ _=>rfl))) (zaz au (zak zah (pv 4) zad (λ_ _=>rfl)) (zak zah (pv 3) zad (λ_ _=>rfl))) (zas _)) (zaf (zaj (zbU (zrD hr.units0) (zaK (zaa (zak zah (pv 0) zad (λ_ _=>rfl)) (zaa (zak zah (pv 0) zad (λ_ _=>rfl)) zae))) (zaK (zaa (zak zah (pv 1) zad (λ_ _=>rfl)) (zaa (zak zah (pv 1) zad (λ_ _=>rfl)) zae))) (zas _)))) zat)
  (zaf (zaj (zbU zei (zaz au (zak zah (pv 3) zad (λ_ _=>rfl)) (zak zah (pv 4) zad (λ_ _=>rfl))) (zaz au (zak zah (pv 4) zad (λ_ _=>rfl)) (zak zah (pv 3) zad (λ_ _=>rfl))) (zas _))))))),?_⟩
 refine⟨_,rfl,_,rfl,p,c,t,rfl,hc,oc,λr1 H1 s1 e1=>?_⟩
 refine⟨_,rfl,_,rfl,p2,d,t,rfl,hd.same s1,od,λr2 H2 s2 e2=>?_⟩
 have a1:=zbV oc
 have a2:=zbV od
 have a7:=zhz oc
 have a8:=zhz od
 have h1:SqT K H2 r1 _:=SqT.of (s2 _ _ e1)
 have h2:SqT K H2 r2 _:=SqT.of e2
 refine⟨_,rfl,r1,_,_,_,rfl,rfl,h1,rfl,_,rfl,r2,_,_,_,rfl,rfl,h2,rfl,_,_,rfl,rfl,.inr ⟨by omega,by omega⟩,?_⟩
 refine⟨_,rfl,r2,_,_,_,rfl,rfl,h2,rfl,_,rfl,r1,_,_,_,rfl,rfl,h1,rfl,_,_,rfl,rfl,.inr ⟨by omega,by omega⟩,rfl,_,rfl,?_⟩
 have Z:=q
 unfold ahd gap at Z
 have s12:Same H H2:=s1.trans s2
 by_cases g:wtop c t*wbot d=wtop d t*wbot c
 ·rw[if_pos (by omega)]at Z
  refine iteD (tW V.int g) ?_
  obtain⟨pw,ps,x1,_,_⟩:=(hc.same s12).ex
  obtain⟨pw2,ps2,x2,_,_⟩:=(hd.same s12).ex
  refine⟨_,rfl,p,_,_,_,rfl,rfl,SqT.of x1,rfl,_,rfl,p,_,_,_,rfl,rfl,SqT.of x1,rfl,si2,λl1 H3 s3 n3 h3=>?_⟩
  refine⟨_,rfl,p2,_,_,_,rfl,rfl,SqT.of (s3 _ _ x2),rfl,_,rfl,p2,_,_,_,rfl,rfl,SqT.of (s3 _ _ x2),rfl,si2,λl2 H4 s4 n4 h4=>?_⟩
  refine⟨l1,l2,[c.came,c.n],[d.came,d.n],rfl,rfl,SqT.of (s4 _ _ h3),SqT.of h4,?_⟩
  rw[zoG]
  exact Z H4 (s12.trans (s3.trans s4))
 ·rw[if_neg (by omega)]at Z
  refine aA (λz=>g (V.int.inj z)) ?_
  refine⟨_,rfl,r1,_,_,_,rfl,rfl,h1,rfl,_,rfl,r2,_,_,_,rfl,rfl,h2,rfl,_,_,rfl,rfl,.inr ⟨by omega,by omega⟩,?_⟩
  refine⟨_,rfl,r2,_,_,_,rfl,rfl,h2,rfl,_,rfl,r1,_,_,_,rfl,rfl,h1,rfl,_,_,rfl,rfl,.inr ⟨by omega,by omega⟩,_,_,rfl,rfl,?_⟩
  have z:=Z H2 s12
  rw[show decide (0<wtop c t*wbot d-wtop d t*wbot c)=decide (wtop d t*wbot c<wtop c t*wbot d) by rw[rg];omega]at z
  exact z
def zcb:FnScope ["_law_claims","_law_turn","_law_order_here","_law_claim","_law_at"] pl38 (zac zeI):=fsc
include T in
theorem zkO(D:Dfn K mg "_law_order" zeI pl38 f fd)(zff:Cal P w K mg bj "_law_ahead" 2 pl37 (zmS K)):Cal P w K mg bj "_law_order" 3 pl38 (zmT K):=by
 refine D.cal (D.F.ok zcb (by walk_at "z") (λc A o s H vs Q E hr h=>?_))
 obtain⟨l,ps,t,rfl,hC,G,pl,q⟩:=h
 refine⟨_,(zab (zam (i:=2) zcb.nd rfl (Or.inl rfl) (az zae))
  (zab (zcL tY rfl (zaB (pv 0)) (ay (i:=3) zcb.nd rfl (Or.inl rfl)) (zab (zam (i:=4) zcb.nd rfl (Or.inl rfl) zad)
  (zab (ziW tY (PW.pt (zhh (zan znW (pv 4) (zau zaH rfl T.zdW zcm (zaa (pv 2) zae)) (zas _)) (zeq (zaR (zai zff hr.o rfl (zaa (zak zbc (pv 2) (pv 4) (λ_ _=>rfl)) (zaa (pv 3) (zaa (pv 1) zae)))))))) (zaf (zam (i:=4) zcb.nd rfl (Or.inl rfl) (zaz aw (pv 4) zad))))
  (zaf (zbw (zqC rL PySem.F.slot_list_insert PySem.F.type_list_insert zsQ (pv 2) (zaa (pv 4) (zaa (pv 3) zae))))))))
  (zaf (zaj (pv 2))))),?_⟩
 refine⟨si0,λlo H1 s1 n1 h1=>?_⟩
 have hC1:=hC.same s1
 have lol:l≠lo:=λz=>by rw[<-z,hC.at_]at n1;cases n1
 refine⟨_,rfl,l,rfl,⟨_,SqL.of hC1.at_⟩,?_⟩
 have ml:(ps.map λq=>V.ref q.1).length=ps.length:=tm _
 refine zcn (K:=K) (a:=l) (xs:=ps.map λq=>V.ref q.1) (λi σ H2=>∃v3 v4:Option V,σ=[some (.ref l),some (.int t),some (.ref lo),v3,v4]/\But lo H1 H2/\H2 lo=some (.lst ((ordP (ps.take i) t).map λq=>V.ref q.1)))
  ⟨_,_,rfl,But.refl _ _,h1⟩ (λi σ H2 _ ⟨_,_,_,k2,_⟩=>SqL.of (k2 _ _ lol hC1.at_)) ?_ ?_
 ·rintro i y σ H2 hi ⟨v3,v4,rfl,k2,h2⟩
  obtain⟨q0,e,hi⟩:=gmp hi
  cases hi
  have hq0:q0∈ps:=tE e
  have tk:ps.take (i+1)=ps.take i++[q0]:=by rw[List.take_succ,e];rfl
  have op:ordP (ps.take (i+1)) t=insP t q0 (ordP (ps.take i) t):=by
   unfold ordP
   rw[tk,List.foldl_append]
   rfl
  have mem:∀x,x∈ordP (ps.take i) t->x∈ps:=λx hx=>qz (zdf.mp hx)
  have ln:(ordP (ps.take i) t).length<=40:=by
   have:=tW List.length (bL (ps.take i) t)
   rw[tm,(zaU _ _).length_eq,tm,sj]at this
   omega
  rw[op]
  generalize ordP (ps.take i) t=O at h2 mem ln ⊢
  have hcl:∀x,x∈ps->IsCl K H2 x.1 x.2:=λx hx=>(hC1.cl x hx).but k2 h1
  have okk:∀x,x∈ps->x.2.Ok:=λx hx=>G.ok x.2 (mem_map.mpr ⟨x,hx,rfl⟩)
  have mo:(O.map λq=>V.ref q.1).length=O.length:=tm _
  refine ziX (λσ' H'=>∃k:Nat,σ'=[some (.ref l),some (.int t),some (.ref lo),some (.ref q0.1),some (.int (k:Int))]/\k<=O.length/\Same H2 H'/\∀j x,j<k->O[j]?=some x->ahd x.2 q0.2 t=true)
   (λσ' _=>match σ' with | [_,_,_,_,some (.int k)]=>O.length-k.toNat | _=>0) ⟨0,rfl,tV _,Same.refl _,λj x hj=>by omega⟩ ?_ ?_
  ·rintro σ' H3 ⟨k,rfl,hk,s3,ha⟩
   have fin:∀H4,Same H2 H4->(∀x,O[k]?=some x->ahd x.2 q0.2 t=false)->∀H5,But lo H4 H5->H5 lo=some (.lst ((O.map λq=>V.ref q.1).take (k:Int).toNat++V.ref q0.1::(O.map λq=>V.ref q.1).drop (k:Int).toNat))->But lo H1 H5/\H5 lo=some (.lst ((insP t q0 O).map λq=>V.ref q.1)):=λH4 s4 hx H5 k5 h5=>by
    refine⟨(k2.trans s4.toBut).trans k5,?_⟩
    rw[h5,zoF t q0 O k hk ha hx,t4,t3,pB,List.map_drop,qC]
   refine⟨_,rfl,_,rfl,lo,_,rfl,.inl (SqL.of (s3 _ _ h2)),_,_,rfl,rfl,_,rfl,?_⟩
   rw[mo]
   by_cases c:(k:Int)<(O.length:Int)
   ·refine iteD c ?_
    have hlt:k<O.length:=by omega
    have hx:O[k]?=some O[k]:=tj hlt
    have hm:=mem _ (sI hlt)
    refine⟨_,rfl,_,rfl,lo,_,_,.ref O[k].1,rfl,rfl,SqL.of (s3 _ _ h2),?_,_,rfl,_,rfl,O[k].1,q0.1,O[k].2,q0.2,t,rfl,(hcl _ hm).same s3,(hcl _ hq0).same s3,okk _ hm,okk _ hq0,λH4 s4=>⟨_,rfl,?_⟩⟩
    ·unfold atI
     rw[mo,zur (by omega) c]
     show(O.map λq=>V.ref q.1)[(k:Int).toNat]?=_
     rw[qC,getElem?_map,hx]
     rfl
    cases z:ahd O[k].2 q0.2 t with
    | true=>
      refine iteT ?_
      refine⟨_,rfl,_,_,rfl,rfl,⟨k+1,rfl,by omega,s3.trans s4,λj x hj hjx=>?_⟩,?_⟩
      ·by_cases jk:j=k
       ·subst jk
        rw[hx]at hjx
        cases hjx
        exact z
       ·exact ha j x (by omega) hjx
      ·show O.length-((k:Int)+1).toNat<O.length-(k:Int).toNat
       omega
    | false=>
      refine iteF ?_
      have h4:=s4 _ _ (s3 _ _ h2)
      refine⟨_,rfl,.inl ⟨rfl,_,SqL.of h4⟩,_,rfl,_,rfl,lo,_,(k:Int),_,rfl,rfl,h4,by omega,by rw[mo];omega,zax (by rw[mo];omega),λH5 k5 h5=>?_⟩
      exact⟨_,_,rfl,fin H4 (s3.trans s4) (λx hx'=>by rw[hx]at hx';cases hx';exact z) H5 k5 h5⟩
   ·refine aA c (iteF ?_)
    have h4:=s3 _ _ h2
    refine⟨_,rfl,.inl ⟨rfl,_,SqL.of h4⟩,_,rfl,_,rfl,lo,_,(k:Int),_,rfl,rfl,h4,by omega,by rw[mo];omega,zax (by rw[mo];omega),λH5 k5 h5=>?_⟩
    exact⟨_,_,rfl,fin H3 s3 (λx hx'=>by rw[rf (by omega)]at hx';cases hx') H5 k5 h5⟩
  ·intro σ' H' Q1 Q2 hq h
   obtain⟨v1,e1,v2,e2,l',ys,e3,hs,x1,x2,e4,e5,b,eb,h⟩:=h
   refine⟨v1,e1,v2,e2,l',ys,e3,hs,x1,x2,e4,e5,b,eb,?_⟩
   by_cases c:b=true
   ·rw[if_pos c]at h ⊢
    obtain⟨w1,f1,w2,f2,o,zs,j,y,f3,f4,f5,f6,w3,f7,w4,f8,p1,p2,c1,c2,u,f9,g1,g2,g3,g4,g5⟩:=h
    refine⟨w1,f1,w2,f2,o,zs,j,y,f3,f4,f5,f6,w3,f7,w4,f8,p1,p2,c1,c2,u,f9,g1,g2,g3,g4,λH4 s4=>?_⟩
    obtain⟨b2,f10,g6⟩:=g5 H4 s4
    exact⟨b2,f10,hq _ _ g6⟩
   ·rw[if_neg c]at h ⊢
    exact hq _ _ h
 ·rintro σ H2 ⟨v3,v4,rfl,k2,h2⟩
  rw[ml,ql]at h2
  exact⟨_,rfl,q lo H2 (s1.but n1 k2) n1 h2⟩
def PlL:Nat->Hp->V->Prop
 | 0,_,_=>False
 | n+1,H,x=>(∃i:Int,x=.int i)\/∃(a:Addr)(xs:List V),x=.ref a/\H a=some (.lst xs)/\xs.length<=1000-1/\∀y,y∈xs->PlL n H y
theorem PlL.same{H H':Hp}(s:Same H H'):∀n x,PlL n H x->PlL n H' x
 | 0,_,h=>h
 | n+1,x,h=>h.imp id λ⟨a,xs,e,k,l,z⟩=>⟨a,xs,e,s _ _ k,l,λy hy=>PlL.same s n y (z y hy)⟩
inductive zhf(n:Nat)(vs:List V)(H:Hp)(Q:VK)(_:XK):Prop
 | mk (x:_) (_:vs=[x]) (_:PlL n H x) (_:∀H',Same H H'->Q (.bl true) H')
def zkP:FnScope ["_law_thing"] ["_law_thing"] (zac zeJ):=fsc
include T in
theorem zgT{dn:Nat}(D:Dfn K mg "_law_plain" zeJ ["_law_thing"] f fd)(zbe:Cal P w K mg bj "_law_plain" (0+dn) ["_law_thing"] ((zhf) dn)):Cal P w K mg bj "_law_plain" (0+dn+1) ["_law_thing"] ((zhf) (dn+1)):=by
 refine D.cal (D.F.ok zkP (by walk_at "z") (λc A o s H vs Q E hr h=>?_))
 obtain⟨x,rfl,hP,q⟩:=h
 refine⟨_,(zab (zaQ (zaR (zau (zou) rfl T.zaI zaD (zaa (pv 0) (zaa (zaK (zaa (zcc (v:=.ty "list") rfl T.zhS zer rfl) (zaa (zcc (v:=.ty "tuple") rfl T.zll bF rfl) zae))) zae)))) (zaf (zaj (zbU (zhv hr.units0) (zaN (N:=["_law_one"]) (js:=[]) rfl cpo (zaB (pv 0)) (λ_ _ _ _ _=>(zcN (zbi (zaR (zai zbe hr rfl (zaa (pv 0) zae)))))) (λ_ _ _ _ _=>(pv 0))) (az zae) (zas _)))) zat)
  (zaf (zaj (zgN (zau (zby (n := "int")) rfl T.zaI zaD (zaa (pv 0) (zaa (zcc (v:=.ty "int") rfl T.zuS zrF rfl) zae))) (zhj (ztJ (zau (zby (n := "bool")) rfl T.zaI zaD (zaa (pv 0) (zaa (zcc (v:=.ty "bool") rfl T.zrU zoh rfl) zae))))))))),?_⟩
 refine⟨_,rfl,si2,λp2 H1 s1 n1 h1=>?_⟩
 rcases hP with⟨i,rfl⟩ | ⟨a,xs,rfl,hs,xl,hx⟩
 ·refine⟨_,_,_,p2,_,rfl,h1,rfl,.old (.int _),(show W.kitAny K (.type "int") [.type "list",.type "tuple"]=some false by simp only[W.kitAny,T.zno,T.zlm]),_,rfl,iteF ?_⟩
  refine⟨_,rfl,_,_,_,rfl,.old (.int _),T.zki,_,rfl,iteT ?_⟩
  exact⟨_,rfl,_,_,_,rfl,.old (.int _),T.ziU,_,rfl,q H1 s1⟩
 ·have hs1:=s1 _ _ hs
  refine⟨_,_,_,p2,_,rfl,h1,rfl,.old (.lst hs1),(show W.kitAny K (.type "list") [.type "list",.type "tuple"]=some true by simp only[W.kitAny,T.zdp]),_,rfl,iteT ?_⟩
  refine⟨_,rfl,a,rfl,⟨_,SqL.of hs1⟩,?_⟩
  refine zaS (λ_=>false) (λ_=>.non) (SqL.of hs1) (λi x Hh Q' hxi sh q'=>⟨_,rfl,x,rfl,PlL.same (s1.trans sh) _ x (hx x (tE hxi)),λH' s'=>⟨_,rfl,q' H' s'⟩⟩) (λi x Hh Q' _ z=>by cases z) (zax (by omega)) (λD H2 s2 nD hD=>⟨si0,λl H3 s3 n3 h3=>?_⟩)
  rw[bZ]at hD
  exact⟨D,l,_,_,rfl,rfl,SqL.of (s3 _ _ hD),SqL.of h3,rfl,rfl,q H3 (s1.trans (s2.trans s3))⟩
def zlM:FnScope pl39 pl39 (zac zgn):=fsc
include T in
theorem zlN(D:Dfn K mg "_law_same" zgn pl39 f fd)(zbe:Cal P w K mg bj "_law_plain" 2 ["_law_thing"] ((zhf) 2)):Cal P w K mg bj "_law_same" 4 pl39 (zlF K):=by
 refine D.cal (D.F.ok zlM (by walk_at "z") (λc A o s H vs Q E hr h=>?_))
 obtain⟨a,b,ns,rfl,ha,hb,nl,q⟩:=h
 refine⟨_,(zaf (zaj (zgN (zbU zdd (zau (zby (n := "list")) rfl T.zaI zaD (zaa (pv 0) (zaa (zcc (v:=.ty "list") rfl T.zhS zer rfl) zae))) (zau (zby (n := "list")) rfl T.zaI zaD (zaa (pv 1) (zaa (zcc (v:=.ty "list") rfl T.zhS zer rfl) zae))) (zas _)) (zgN (zai zbe hr.o rfl (zaa (pv 0) zae)) (zhj (zbU (zhv hr.units0) (pv 0) (pv 1) (zas _))))))),?_⟩
 refine⟨_,rfl,_,_,_,rfl,.old (.lst ha),T.zdp,_,rfl,_,_,_,rfl,.old (.lst hb),T.zdp,rfl,_,rfl,iteT ?_⟩
 refine⟨_,rfl,.ref a,rfl,.inr ⟨a,_,rfl,ha,by rw[tm];exact nl,λy hy=>?_⟩,λH1 s1=>⟨_,rfl,iteT ?_⟩⟩
 ·obtain⟨i,_,rfl⟩:=mem_map.mp hy
  exact .inl ⟨i,rfl⟩
 refine⟨_,rfl,_,rfl,a,b,_,_,rfl,rfl,SqL.of (s1 _ _ ha),SqL.of (s1 _ _ hb),?_,?_,?_⟩
 ·exact all_eq_true.mpr λy hy=>by obtain⟨i,_,rfl⟩:=mem_map.mp hy;rfl
 ·exact all_eq_true.mpr λy hy=>by obtain⟨i,_,rfl⟩:=mem_map.mp hy;rfl
 rw[zem]
 exact q H1 s1
inductive zqd(vs:List V)(H:Hp)(Q:VK)(_:XK):Prop
 | mk (a:Addr) (m:Nat) (_:vs=[.ref a,.int m]) (_:St3 H a) (_:1<=m) (_:m<=4) (_:∀(l:Addr)(zs:List Str) H',But a H H'->St3 H' a->H l=none->H' l=some (.lst (zs.map V.str))->zs.Nodup->zs.length=m->(∀z,z∈zs->znp z.cps.toList=true/\z.length<=100)->Q (.ref l) H')
def cu:FnScope ["_law_state","_law_many","_law_names_here","_law_at"] pl35 (zac zeK):=fsc
include T in
theorem zkQ(D:Dfn K mg "_law_names" zeK pl35 f fd)(zay:Cal P w K mg bj "_law_pull" 2 pl35 zkH):Cal P w K mg bj "_law_names" 3 pl35 zqd:=by
 refine D.cal (D.F.ok cu (by walk_at "z") (λc A o s H vs Q E hr h=>?_))
 obtain⟨a,m,rfl,S,m1,m4,q⟩:=h
 refine⟨_,(zab (zam (i:=2) cu.nd rfl (Or.inl rfl) (az (pai (zag zbD (zag zbD (zag zbD (zag zbD (zag zbD (zag zbD (zag zbD (zag zbD zbd)))))))))))
  (zab (zam (i:=3) cu.nd rfl (Or.inl rfl) (zai zay hr.o rfl (zaa (pv 0) (zaa zad zae))))
  (zaf (zaj (zco zcO (zaz zsH (zco zcO (pv 2) (zcU (pv 3)) zdJ) (zco zcO (pv 2) zdJ (zcU (pv 3)))) zdJ (zcU (pv 1))))))),?_⟩
 refine⟨si8,λln H1 s1 n1 h1=>?_⟩
 have h1:H1 ln=some (.lst (nms.map V.str)):=h1
 have S1:=S.same s1
 refine⟨_,rfl,a,8,rfl,S1,by decide,by decide,λat_ H2 k2 S2 a0 a8=>?_⟩
 have lna:ln≠a:=S.ne n1
 have h3n:=k2 _ _ lna h1
 refine⟨_,rfl,_,rfl,_,rfl,ln,_,rfl,SqL.of h3n,λl4 H4 s4 n4 h4=>?_⟩
 refine⟨_,rfl,_,rfl,_,rfl,ln,_,rfl,SqL.of (s4 _ _ h3n),λl5 H5 s5 n5 h5=>?_⟩
 obtain⟨k,rfl⟩:∃k:Nat,at_=(k:Int):=⟨at_.toNat,by omega⟩
 rw[zrs _ (show k<=(nms.map V.str).length by show k<=8;omega)]at h4
 rw[zmF]at h5
 refine⟨l4,l5,_,_,rfl,rfl,s5 _ _ h4,h5,?_,λl6 H6 s6 n6 h6=>?_⟩
 ·rw[qD,sj]
  exact sz _ (by show 8-k+min k 8<=1000;omega)
 refine⟨_,rfl,_,rfl,l6,_,rfl,SqL.of h6,λl8 H8 s8 n8 h8=>?_⟩
 obtain⟨zs,ezs⟩:∃zs,zs=(nms.drop k++nms.take k).take m:=⟨_,rfl⟩
 have pm:(nms.drop k++nms.take k).Perm nms:=(List.perm_append_comm).trans (by rw[List.take_append_drop])
 have znd:zs.Nodup:=by
  rw[ezs]
  exact((List.Perm.nodup_iff pm).mpr zvj).sublist (List.take_sublist _ _)
 have zok:∀z,z∈zs->znp z.cps.toList=true/\z.length<=100:=λz hz=>zvi z (pm.mem_iff.mp (qz (by rw[ezs]at hz;exact hz)))
 have zl:zs.length=m:=by
  rw[ezs,sj,pm.length_eq]
  show min m 8=m
  omega
 have h8:H8 l8=some (.lst (zs.map V.str)):=by
  rw[h8,zmF,ezs,pB,t4,List.map_drop,pB]
 have k08:But a H H8:=s1.toBut.trans (k2.trans (s4.toBut.trans (s5.toBut.trans (s6.toBut.trans s8.toBut))))
 have S8:=(((S2.same s4).same s5).same s6).same s8
 obtain⟨_,_,_,eS2⟩:=S2.ex
 exact q l8 zs H8 k08 S8 (But.free (s1.toBut.trans k2) eS2 (Same.free (s4.trans (s5.trans s6)) n8)) h8 znd zl zok
inductive zqe(vs:List V)(H:Hp)(Q:VK)(_:XK):Prop
 | mk (a:Addr) (_:vs=[.ref a]) (_:St3 H a) (_:∀l xs H',But a H H'->St3 H' a->H l=none->IsSRs H' l xs->RsOk (xs.map (·.2))->xs.length<=4->Q (.ref l) H')
def zbF:FnScope ["_law_state","_law_heavy","_law_rows","_law_name","_law_weight","_law_speed"] ["_law_state"] (zac zeL):=fsc
include T in
theorem zkR(D:Dfn K mg "_law_sorts" zeL ["_law_state"] f fd)(zay:Cal P w K mg bj "_law_pull" 2 pl35 zkH)(zfg:Cal P w K mg bj "_law_names" 3 pl35 zqd):Cal P w K mg bj "_law_sorts" 4 ["_law_state"] zqe:=by
 refine D.cal (D.F.ok zbF (by walk_at "z") (λc A o s H vs Q E hr h=>?_))
 obtain⟨a,rfl,S,q⟩:=h
 refine⟨_,(zab (zam (i:=1) zbF.nd rfl (Or.inl rfl) (zak zbc (az (zaa zad (zaa zad zae))) (zai zay hr.o rfl (zaa (pv 0) (zaa zad zae))) (λ_ _=>rfl)))
  (zab (zam (i:=2) zbF.nd rfl (Or.inl rfl) (az zae))
  (zab (zcL tY rfl (zaB (zai zfg hr.o rfl (zaa (pv 0) (zaa (zaz aw zad (zai zay hr.o rfl (zaa (pv 0) (zaa zad zae)))) zae)))) (ay (i:=3) zbF.nd rfl (Or.inl rfl)) (zab (zam (i:=4) zbF.nd rfl (Or.inl rfl) (zaK (zaa (zai zay hr.o rfl (zaa (pv 0) (zaa (zaz aw (pv 1) zad) zae))) (zaa (zaz aw zad (zai zay hr.o rfl (zaa (pv 0) (zaa zad zae)))) zae))))
  (zab (zam (i:=5) zbF.nd rfl (Or.inl rfl) (zaK (zaa (zai zay hr.o rfl (zaa (pv 0) (zaa zad zae))) (zaa (zaz aw zad (zai zay hr.o rfl (zaa (pv 0) (zaa zad zae)))) zae))))
  (zaf (zbw (zqC rL qr qt zfU (pv 2) (zaa (zaK (pai (zag (pv 3) (zag (pv 4) (zag (pv 5) (zag (zaz aw zad (zai zay hr.o rfl (zaa (pv 0) (zaa zad zae)))) (zag (zaz aw zad (zai zay hr.o rfl (zaa (pv 0) (zaa zad zae)))) zbd))))))) zae)))))))
  (zaf (zaj (pv 2)))))),?_⟩
 refine⟨si2,λl0 H1 s1 n1 h1=>⟨_,rfl,a,2,rfl,S.same s1,by decide,by decide,λr0 H2 k2 S2 a0 a2=>?_⟩⟩
 have l0a:l0≠a:=S.ne n1
 obtain⟨hv,ehv,hv0,hv1⟩:∃hv:Int,atI [V.int 3,V.int 12] r0=some (.int hv)/\0<hv/\hv<=12:=by
  have:r0=0\/r0=1:=by omega
  rcases this with rfl | rfl
  ·exact⟨3,rfl,by decide,by decide⟩
  ·exact⟨12,rfl,by decide,by decide⟩
 refine⟨l0,_,_,_,rfl,rfl,SqL.of (k2 _ _ l0a h1),ehv,?_⟩
 refine⟨si0,λlr H3 s3 n3 h3=>?_⟩
 have S3:=S2.same s3
 have lra:lr≠a:=S2.ne n3
 refine⟨_,rfl,_,rfl,a,4,rfl,S3,by decide,by decide,λr1 H4 k4 S4 b0 b4=>⟨_,_,rfl,rfl,?_⟩⟩
 obtain⟨j,rfl⟩:∃j:Nat,r1=(j:Int):=⟨r1.toNat,by omega⟩
 refine⟨a,1+j,by show[V.ref a,V.int (1+(j:Int))]=_;rw[show(1:Int)+(j:Int)=((1+j:Nat):Int) by omega],S4,by omega,by omega,λl8 zs H8 k8 S8 n8 h8 znd zl zok=>?_⟩
 have k08:But a H H8:=s1.toBut.trans (k2.trans (s3.toBut.trans (k4.trans k8)))
 obtain⟨_,_,_,eS⟩:=S.ex
 obtain⟨_,_,_,eS2⟩:=S2.ex
 obtain⟨_,_,_,eS4⟩:=S4.ex
 have h38:H8 lr=some (.lst []):=k8 _ _ lra (k4 _ _ lra h3)
 have nlr:H lr=none:=But.free (s1.toBut.trans k2) eS2 n3
 have l8a:l8≠a:=S4.ne n8
 have lr8:lr≠l8:=λz=>by
  have:=k4 _ _ lra h3
  rw[z,n8]at this
  cases this
 refine⟨l8,rfl,⟨_,SqL.of h8⟩,?_⟩
 refine zcn (K:=K) (a:=l8) (xs:=zs.map V.str) (λi σ H'=>∃v3 v4 v5:Option V,σ=[some (.ref a),some (.int hv),some (.ref lr),v3,v4,v5]/\
   ∃xs,But a H H'/\St3 H' a/\H' l8=some (.lst (zs.map V.str))/\IsSRs H' lr xs/\(∀r,r∈xs.map (·.2)->r.Ok)/\xs.map (·.2.nm)=zs.take i)
  ⟨_,_,_,rfl,[],k08,S8,h8,⟨h38,λq hq=>(not_mem_nil hq).elim⟩,λr hr=>(not_mem_nil hr).elim,rfl⟩ (λi σ H' _ ⟨_,_,_,_,_,_,_,g,_⟩=>SqL.of g) ?_ ?_
 ·rintro i x σ HA hi ⟨v3,v4,v5,rfl,xs,kA,SA,gA,hx,okx,ex⟩
  obtain⟨z,hz,rfl⟩:=mem_map.mp (tE hi)
  have hzi:zs[i]?=some z:=by
   rw[getElem?_map]at hi
   cases e:zs[i]? with
   | none=>rw[e]at hi;cases hi
   | some w=>
     rw[e]at hi
     cases hi
     rfl
  have xl:xs.length<=4:=by
   have:=tW List.length ex
   rw[tm,sj]at this
   omega
  have mv:∀{G G':Hp},But a G G'->St3 G a->IsSRs G lr xs->IsSRs G' lr xs:=λk S h=>by
   obtain⟨_,_,_,e⟩:=S.ex
   exact h.but k e (λ_ w=>by cases w) lra
  refine⟨_,rfl,_,rfl,_,_,rfl,rfl,a,hv+1,rfl,SA,by omega,by omega,λw0 HB kB SB w00 w01=>⟨_,rfl,a,3,rfl,SB,by decide,by decide,λw1 HC kC SC w10 w11=>⟨_,_,rfl,rfl,si2,λpw HD sD nD hD=>?_⟩⟩⟩
  have SD:=SC.same sD
  refine⟨_,rfl,a,5,rfl,SD,by decide,by decide,λz0 HE kE SE z00 z01=>⟨_,rfl,a,3,rfl,SE,by decide,by decide,λz1 HF kF SF z10 z11=>⟨_,_,rfl,rfl,si2,λpz HG sG nG hG=>?_⟩⟩⟩
  have SG:=SF.same sG
  have hxG:=(mv kF SE (mv kE SD ((mv kC SB (mv kB SA hx)).same sD))).same sG
  have pwa:pw≠a:=SC.ne nD
  have pza:pz≠a:=SF.ne nG
  refine⟨_,rfl,.inl ⟨rfl,_,SqL.of hxG.at_⟩,_,rfl,_,rfl,_,rfl,_,rfl,a,4,rfl,SG,by decide,by decide,λr4 HI kI SI c0 c4=>⟨_,_,rfl,rfl,_,rfl,a,3,rfl,SI,by decide,by decide,λr5 HJ' kJ SJ d0 d3=>⟨_,_,rfl,rfl,si5,λtp HK sK nK hK=>?_⟩⟩⟩
  have hxJ:=mv kJ SI (mv kI SG hxG)
  have hxK:=hxJ.same sK
  have hwK:=sK _ _ (kJ _ _ pwa (kI _ _ pwa (sG _ _ (kF _ _ pwa (kE _ _ pwa hD)))))
  have hzK:=sK _ _ (kJ _ _ pza (kI _ _ pza hG))
  refine⟨lr,_,_,rfl,rfl,hxK.at_,zax (by rw[tm];omega),λHL kL hL=>?_⟩
  have tpl:tp≠lr:=λw=>by rw[w,hxJ.at_]at nK;cases nK
  have pwl:pw≠lr:=λw=>by rw[w,hxK.at_]at hwK;cases hwK
  have pzl:pz≠lr:=λw=>by rw[w,hxK.at_]at hzK;cases hzK
  have kAJ:But a HA HK:=kB.trans (kC.trans (sD.toBut.trans (kE.trans (kF.trans (sG.toBut.trans (kI.trans (kJ.trans sK.toBut)))))))
  have KL:But a H HL:=(kA.trans kAJ).skip kL nlr
  refine⟨_,_,_,rfl,xs++[(tp,⟨z,w0,1+w1,z0,1+z1,1+r4,1+r5⟩)],KL,(SJ.same sK).but kL (Ne.symm lra),kL _ _ (Ne.symm lr8) (kAJ _ _ l8a gA),⟨?_,?_⟩,?_,?_⟩
  ·rw[hL,t4]
   rfl
  ·intro y hy
   rcases mem_append.mp hy with hy | hy
   ·exact(hxK.sr y hy).but kL hxK.at_ (λ_ w=>by cases w)
   ·rw[mem_singleton.mp hy]
    exact⟨pw,pz,kL _ _ tpl hK,kL _ _ pwl hwK,kL _ _ pzl hzK⟩
  ·intro y hy
   rw[t4,mem_append]at hy
   rcases hy with hy | hy
   ·exact okx y hy
   ·rw[mem_singleton.mp hy]
    have zz:=zok z hz
    exact⟨zz.1,zz.2,w00,by show w0<=1000000;omega,by show 1<=1+w1;omega,by show 1+w1<=12;omega,z00,by show z0<=1000000;omega,by show 1<=1+z1;omega,by show 1+z1<=12;omega,by show 1<=1+r4;omega,by show 1+r4<=4;omega,by show 1<=1+r5;omega,by show 1+r5<=3;omega⟩
  ·rw[t4,ex,pW,hzi]
   rfl
 ·rintro σ HA ⟨v3,v4,v5,rfl,xs,kA,SA,gA,hx,okx,ex⟩
  rw[tm,ql]at ex
  have xl:xs.length=1+j:=by rw[<-zl,<-ex,tm]
  refine⟨_,rfl,q lr xs HA kA SA nlr hx ⟨by rw[tm];omega,by rw[tm];omega,okx,λi1 i2 r1 r2 e1 e2 e=>?_⟩ (by omega)⟩
  have f:∀{i:Nat}{r:SR},(xs.map (·.2))[i]?=some r->zs[i]?=some r.nm:=λ{i r} h=>by
   rw[<-ex,getElem?_map]
   rw[getElem?_map]at h
   cases e:xs[i]? with
   | none=>rw[e]at h;cases h
   | some y=>
     rw[e]at h
     cases h
     rfl
  exact(List.getElem?_inj (List.getElem?_eq_some_iff.mp (f e1)).1 znd).mp (by rw[f e1,f e2,e])
def PsOk.add{rs:List SR}{ps:List (Addr × Wd × Pv)}(h:PsOk rs ps){b:Addr × Wd × Pv}(n:b.2.2.n=ps.length)(l:ps.length<200)(op:(ps.filter λq=>q.2.1.opn).length<40)(ok:b.2.2.Ok/\0<=b.2.2.left b.2.1/\b.2.2.left b.2.1<=12/\0<=b.2.2.came/\b.2.2.came<=1000)(fd:zpE rs b.2.2.nm (zfC rs b.2.2.nm)):PsOk rs (ps++[b]):=by
 refine⟨h.rl,h.ro,λi q hq=>?_,λq hq=>?_,λq hq=>?_,?_,?_⟩
 ·by_cases c:i<ps.length
  ·rw[sR c]at hq
   exact h.nm i q hq
  ·rw[sN (by omega)]at hq
   cases e:i-ps.length with
   | zero=>
     rw[e]at hq
     cases hq
     omega
   | succ j=>rw[e]at hq;cases hq
 ·rcases mem_append.mp hq with hq | hq
  ·exact h.ok q hq
  ·rw[mem_singleton.mp hq]
   exact ok
 ·rcases mem_append.mp hq with hq | hq
  ·exact h.fd q hq
  ·rw[mem_singleton.mp hq]
   exact fd
 ·rw[tR]
  show ps.length+1<=200
  omega
 ·rw[qu,tR]
  have:([b].filter λq=>q.2.1.opn).length<=1:=sf _ _
  omega
theorem znx{rs:List SR}{r:SR}(hr:r∈rs)(un:∀s,s∈rs->s.nm=r.nm->s=r):zfC rs r.nm=r:=by
 unfold zfC
 cases e:rs.find? λs=>decide (s.nm=r.nm) with
 | none=>
   have:=List.find?_eq_none.mp e r hr
   simp at this
 | some s=>
   have h1:=List.find?_some e
   have h1:s.nm=r.nm:=by simpa using h1
   rw[un s (List.mem_of_find?_eq_some e) h1]
   rfl
def Kls(H H':Hp):Prop:=∀c u,(∀C dx fs,u≠.ins C dx fs)->(∀kvs,u≠.dK kvs)->H c=some u->H' c=some u
def zeg{H H':Hp}(s:Same H H'):Kls H H':=λc u _ _ h=>s _ _ h
def Kls.trans{H H' H2:Hp}(a:Kls H H')(b:Kls H' H2):Kls H H2:=λc u x y h=>b c u x y (a c u x y h)
def Kls.l{H H':Hp}(k:Kls H H'){c:Addr}{xs:List V}(h:H c=some (.lst xs)):H' c=some (.lst xs):=k _ _ (λ_ _ _ z=>by cases z) (λ_ z=>by cases z) h
def Kls.t{H H':Hp}(k:Kls H H'){c:Addr}{xs:List V}(h:H c=some (.tup xs)):H' c=some (.tup xs):=k _ _ (λ_ _ _ z=>by cases z) (λ_ z=>by cases z) h
def Kls.sq{H H':Hp}(k:Kls H H'){c:Addr}{xs:List V}(h:SqL K H c xs):SqL K H' c xs:=by
 rcases h with(h | ⟨o,h⟩) | h
 ·exact .inl (.inl (k.l h))
 ·exact .inl (.inr ⟨o,k _ _ (λ_ _ _ z=>by cases z) (λ_ z=>by cases z) h⟩)
 ·exact .inr h
def Kls.srs{H H':Hp}{l:Addr}{xs:List (Addr × SR)}(k:Kls H H')(h:IsSRs H l xs):IsSRs H' l xs:=⟨k.l h.at_,λq hq=>by
 obtain⟨pw,ps,a,b,c⟩:=h.sr q hq
 exact⟨pw,ps,k.t a,k.t b,k.t c⟩⟩
def zfQ{cs:CsA}{cS cH o:Addr}{H H':Hp}{v:Hv}(h:IsHs cs cS cH H o v)(k:But2 o v.aN H H'):Kls H H':=λc u n1 n2 hc=>by
 obtain⟨dx,e⟩:=h.at_
 have n:=h.p.nb
 exact k _ _ (λz=>by rw[z,e]at hc;exact n1 _ _ _ (tL hc).symm) (λz=>by rw[z,n]at hc;exact n2 _ (tL hc).symm) hc
def HJ.come{cs:CsA}{cS cH cG cL tT D:Addr}{H:Hp}{o:Addr}{v:Hv}{tl:Int->Int}{km:Nat}{rs:List SR}{hd:Int}(hw:HJ cs cS cH tT (wo D H) o v tl km rs hd){acc:List V}(hD:H D=some (.lst acc)){r:SR}(hr:r∈v.rs)(un:∀s,s∈v.rs->s.nm=r.nm->s=r)(l:v.ps.length<40)(t1:v.t<=1000)(hk:km<=1000){Q:VK}{E:XK}{nm:Str}(en:r.nm=nm)
    (q:∀a g v' tl' H',HJ cs cS cH tT (wo D H') o v' tl' (km+1) rs hd->v'.ps=v.ps++[(a,.waiting,pvOf r v.ps.length v.t)]->v'.t=v.t->v'.aN=v.aN->v'.aR=v.aR->(∀n,n≠(v.ps.length:Int)->tl' n=tl n)->zrp v.h.toNat v.t (chV v.rs v'.ps) (tlL tl v.ps)->But2 o v.aN H H'->IsGr cG H' g (.int v.ps.length)->Q (.ref g) H')
    (qL:∀g H',Same H H'->IsLt cL H' g->Q (.ref g) H'):zpS K cs cS cH cG cL tT [.ref o,.str nm] H Q E:=by
 subst en
 have h:=hw.same aK
 have ro:=h.p.ro r hr
 have pcn:PcI (Wd.waiting,pvOf r v.ps.length v.t):=⟨ro.s0,ro.s1,by have:=ro.t0;show 0<=r.tr;omega,ro.t1,λ_=>⟨ro.t0,rA _,by have:=ro.s0;show 0<r.sp;omega⟩,h.t0,t1⟩
 have lp:=pcn.left
 have ol:(v.ps.filter λq=>q.2.1.opn).length<40:=pq (sf _ _) l
 have okn:∀a,PsOk v.rs (v.ps++[(a,.waiting,pvOf r v.ps.length v.t)]):=λa=>h.p.add rfl (by omega) ol ⟨⟨pcn.s0,pcn.s1,pcn.t1,pcn.t0⟩,lp.1,lp.2.1,pcn.c0,pcn.c1⟩ (by show zpE v.rs r.nm (zfC v.rs r.nm);rw[znx hr un];exact⟨hr,rfl,un⟩)
 have nl:=h.nl
 refine⟨o,v,tl,r,km,rfl,h.hh,h.ok t1,h.ht,h.hT,h.nb,hk,by omega,hr,un,ol,okn,lp.2.2 rfl,λa l' l us u d Hd L g H' kp k hL hu hl lk nl nl' hh' hg=>?_,qL⟩
 obtain⟨dx,e0⟩:=hw.hh.at_
 have kw:But2 o v.aN (wo D H) (wo D H'):=λc u c1 c2 h=>zda (k c u c1 c2 (aK c u h)) (ziv h)
 have Kw:=zfQ hw.hh kw
 have hD':H' D=some (.lst acc):=k _ _ (Ne.symm (ziv e0)) (Ne.symm (ziv hw.hh.p.nb)) hD
 have lD:l≠D:=λz=>by rw[z,hD]at nl;cases nl
 have lD':l'≠D:=λz=>by rw[z,hD]at nl';cases nl'
 have ls:∀{c:Addr}{xs:List V},(wo D H) c=some (.lst xs)->(wo D H') c=some (.lst xs):=λhc=>Kw.l hc
 have hh2:IsHs cs cS cH (wo D H') o { v with ps:=v.ps++[(a,.waiting,pvOf r v.ps.length v.t)],aP:=l',nb:=putK v.nb (.inl (v.ps.length:Int)) (.ref l) }:=by
  obtain⟨dx',e'⟩:=hh'.at_
  obtain⟨sdx,l0,bN,s1,s2,s3⟩:=hw.hh.p.st
  obtain⟨rw,r1,r2⟩:=hw.hh.p.rw
  refine⟨⟨dx',zda e' (ziv e0)⟩,⟨sdx,l0,bN,kw _ _ (λz=>?_) (λz=>?_) s1,Kw.srs s2,s3⟩,⟨zda hh'.p.ps.at_ lD',λz hz=>?_⟩,zda hh'.p.nb (ziv hw.hh.p.nb),rw,ls r1,r2⟩
  ·rw[z,e0]at s1
   cases s1
  ·rw[z,hw.hh.p.nb]at s1
   cases s1
  ·obtain⟨pdx,ep⟩:=hh'.p.ps.pc z hz
   exact⟨pdx,zda ep λw=>by rw[w,hD']at ep;cases ep⟩
 have old:∀z,z∈v.ps++[(a,Wd.waiting,pvOf r v.ps.length v.t)]->z.2.2.n≠(v.ps.length:Int)->z∈v.ps:=λz hz ne=>by
  rcases mem_append.mp hz with hz | hz
  ·exact hz
  ·exact(ne (by rw[mem_singleton.mp hz];rfl)).elim
 have mem:∀z,z∈v.ps++[(a,Wd.waiting,pvOf r v.ps.length v.t)]->z∈v.ps\/z=(a,Wd.waiting,pvOf r v.ps.length v.t):=λz hz=>(mem_append.mp hz).imp id λy=>mem_singleton.mp y
 refine q a g _ (λn=>if n=(v.ps.length:Int)then u else tl n) H' ⟨hh2,kw _ _ (λz=>by have:=hw.hT;rw[z,e0]at this;cases this) (λz=>by have:=hw.hT;rw[z,hw.hh.p.nb]at this;cases this) hw.hT,h.ers,h.ehd,h.h0,h.h6,okn a,λz hz=>?_,λz hz=>?_,h.t0,λz hz zw=>?_,λn x ex=>?_,?_⟩ rfl rfl rfl rfl (λn hn=>by show(if n=_ then u else tl n)=_;rw[if_neg hn]) kp k hg
 ·rcases mem z hz with hz | rfl
  ·exact h.pc z hz
  ·exact pcn
 ·rcases mem z hz with hz | rfl
  ·exact h.ca z hz
  ·exact rA _
 ·by_cases c:z.2.2.n=(v.ps.length:Int)
  ·refine⟨l,us,?_,?_⟩
   ·show valV (putK v.nb _ _) _=_
    rw[zde,if_pos (by rw[c])]
   ·show(wo D H') l=some (.lst ((us++[if z.2.2.n=(v.ps.length:Int)then u else tl z.2.2.n]).map V.int))
    rw[if_pos c]
    exact zda hl lD
  ·obtain⟨m,ws,a',b⟩:=hw.ht z (old z hz c) zw
   refine⟨m,ws,?_,?_⟩
   ·show valV (putK v.nb _ _) _=_
    rw[zde,if_neg (λy=>c (sQ y))]
    exact a'
   ·show(wo D H') m=some (.lst ((ws++[if z.2.2.n=(v.ps.length:Int)then u else tl z.2.2.n]).map V.int))
    rw[if_neg c]
    exact ls b
 ·have ex:valV (putK v.nb (.inl (v.ps.length:Int)) (.ref l)) (.inl n)=some x:=ex
  rw[zde]at ex
  by_cases c:n=(v.ps.length:Int)
  ·rw[if_pos (by rw[c])]at ex
   cases ex
   refine⟨l,us++[u],rfl,zda hl lD,?_⟩
   rw[tR]
   show us.length+1<=km+1
   omega
  ·rw[if_neg (λy=>c (sQ y))]at ex
   obtain⟨m,ws,a',b,c'⟩:=hw.nb n x ex
   exact⟨m,ws,a',ls b,by omega⟩
 ·have:=zjb v.nb (.inl (v.ps.length:Int)) (.ref l)
  have:=h.nl
  show(putK v.nb (.inl (v.ps.length:Int)) (.ref l)).length<=km+1
  omega
inductive zqf(cs:CsA)(cS cH tT:Addr)(vs:List V)(H:Hp)(Q:VK)(_:XK):Prop
 | mk (o l:Addr) (x:Int) (v:Hv) (tl:Int->Int) (km:Nat) (hd:Int) (xs:List (Addr × SR)) (_:vs=[.ref o,.ref l,.int x]) (_:HJ cs cS cH tT H o v tl km (xs.map (·.2.low)) hd) (_:IsSRs H l xs) (_:RsOk (xs.map (·.2))) (_:xs.length<=4) (_:v.ps.length<40) (_:v.t<=900) (_:km<=900) (_:∀H' v' tl' km',Kls H H'->HJ cs cS cH tT H' o v' tl' km' (xs.map (·.2.low)) hd->km'<=km+1->v'.t<=v.t+3->v'.ps.length<=v.ps.length+1->(RwV H v->RwV H' v')->Q .non H')
def zcH:FnScope ["_law_house","_law_rows","_law_cell_here","_law_state","_law_way","_law_order_here","_law_ends"] pl40 (zac zgo):=fsc
include T in
theorem zlO(D:Dfn K mg "_law_deed" zgo pl40 f fd)(zbC:Cal P w K mg bj "_law_begun" 1 pl34 zlE)(zay:Cal P w K mg bj "_law_pull" 2 pl35 zkH)(DU:MOk CX0 P w K mg bj 16 Ac "come" (zpS K (CsA.mk Aa Ad Ab) Ae Ac Ag Af tT))(Am:MOk2 CX0 P w K mg bj 11 Ac "pass_turn" .non (.int 0) (zkD K (CsA.mk Aa Ad Ab) Ae Ac tT))(BO:MOk CX0 P w K mg bj 12 Ac "pass_turns" (zmQ (CsA.mk Aa Ad Ab) Ae Ac tT))(An:MOk CX0 P w K mg bj 10 Ac "waiting" (bg K (CsA.mk Aa Ad Ab) Ae Ac tT)):Cal P w K mg bj "_law_deed" 17 pl40 (zqf (CsA.mk Aa Ad Ab) Ae Ac tT):=by
 refine D.cal (D.F.ok zcH (by walk_at "z") (λc A o s H vs Q E hr h=>?_))
 obtain⟨o,l,x,v,tl,km,hd,xs,rfl,hj,hx,ro,x4,l40,t9,k9,q⟩:=h
 obtain⟨dx,e⟩:=hj.hh.at_
 have S:=zcC T
 refine⟨_,(zab (zam (i:=3) zcH.nd rfl (Or.inl rfl) (zai zbC hr.o rfl (zaa (pv 2) zae)))
  (zab (zam (i:=4) zcH.nd rfl (Or.inl rfl) (zai zay hr.o rfl (zaa (pv 3) (zaa zad zae))))
  (zaf (zaQ (zan znW (pv 4) zad (zas _)) (zaf (zbw (zdD (k:=16) (pv 0) hr.o zaT (zaa (zak zah (zak zbc (pv 1) (zai zay hr.o rfl (zaa (pv 3) (zaa (zau zaH rfl T.zdW zcm (zaa (pv 1) zae)) zae))) (λ_ _=>rfl)) zad (λ_ _=>rfl)) zae)))) (zaf (zaQ (zan zdd (pv 4) zad (zas _)) (zaf (zbw (zdD (k:=12) (pv 0) hr.o zaT (zaa (zaz aw zad (zai zay hr.o rfl (zaa (pv 3) (zaa zad zae)))) zae)))) (zab (zam (i:=5) zcH.nd rfl (Or.inl rfl) (zaO (k:=10) (pv 0) hr.o zaT))
  (zab (zam (i:=6) zcH.nd rfl (Or.inl rfl) zfr)
  (bI (zaQ (PW.pt (zhh (zan (zoX hr.units0) (pv 5) (az zae) (zas _)) (zeq (zan zdd (zai zay hr.o rfl (zaa (pv 3) (zaa zad zae))) zad (zas _))))) (zaf (zfS hr.units1 (pv 6) (zak zbc (pv 5) zad (λ_ _=>rfl)) (zak zbc (az (zaa zbD (zaa zbD zae))) (zai zay hr.o rfl (zaa (pv 3) (zaa zad zae))) (λ_ _=>rfl)) rfl)) zat)
  (zaf (zbw (ztl (k:=11) (pv 0) hr.o zaT (zaa (pv 6) zae))))))))))))),?_⟩
 refine⟨_,rfl,x,rfl,λa H1 s1 n1 S1=>?_⟩
 have hj1:=hj.same s1
 have oa:a≠o:=λz=>by rw[z,e]at n1;cases n1
 have aNa:a≠v.aN:=λz=>by
  have:=hj.hh.p.nb
  rw[<-z,n1]at this
  cases this
 have pull:∀{G G':Hp},But a G G'->HJ (CsA.mk Aa Ad Ab) Ae Ac tT G o v tl km (xs.map (·.2.low)) hd->Same H G->True:=λ_ _ _=>trivial
 have back:∀{G:Hp},But a H1 G->Same H G:=λk c u hc=>k _ _ (λz=>by rw[z,n1]at hc;cases hc) (s1 _ _ hc)
 refine⟨_,rfl,a,5,rfl,S1,by decide,by decide,λw H2 k2 S2 w0 w5=>?_⟩
 have s2:=back k2
 have hj2:=hj.same s2
 have hx2:=hx.same s2
 have ml:(xs.map λz=>V.ref z.1).length=xs.length:=tm _
 have x1:=ro.l0
 rw[tm]at x1
 refine⟨_,rfl,_,_,rfl,rfl,_,rfl,?_⟩
 by_cases c1:w<3
 ·refine iteD c1 ?_
  refine⟨_,rfl,o,_,dx,_,_,rfl,s2 _ _ e,rfl,DU,?_⟩
  refine⟨_,rfl,_,rfl,_,rfl,l,_,rfl,.inl (SqL.of hx2.at_),a,_,rfl,S2,by rw[ml];omega,by rw[ml];omega,λk H3 k3 S3 k0 k1=>?_⟩
  rw[ml]at k1
  have s3:=back (k2.trans k3)
  have hx3:=hx.same s3
  obtain⟨j,rfl⟩:∃j:Nat,k=(j:Int):=⟨k.toNat,by omega⟩
  obtain⟨z,hz⟩:∃z,xs[j]?=some z:=⟨_,tj (by omega)⟩
  have hzm:=tE hz
  obtain⟨pw,ps,a1,a2,a3⟩:=hx3.sr z hzm
  refine⟨l,_,_,_,rfl,rfl,SqL.of hx3.at_,zhs (by rw[getElem?_map,hz];rfl),z.1,_,_,_,rfl,rfl,SqT.of a1,rfl,?_⟩
  dsimp only[aZ,tC,tNil]
  have hj3:=hj.same s3
  have hjw:HJ (CsA.mk Aa Ad Ab) Ae Ac tT (wo a H3) o v tl km (xs.map (·.2.low)) hd:=hj.same λc u hc=>zda (s3 _ _ hc) λz=>by rw[z,n1]at hc;cases hc
  obtain⟨_,_,_,eS3⟩:=S3.ex
  have un:∀s,s∈v.rs->s.nm=z.2.low.nm->s=z.2.low:=λs hs en=>by
   rw[hj.ers]at hs
   obtain⟨y,hy,rfl⟩:=mem_map.mp hs
   obtain⟨i,hi⟩:=List.getElem?_of_mem hy
   have:=ro.nd i j y.2 z.2 (by rw[getElem?_map,hi];rfl) (by rw[getElem?_map,hz];rfl) en
   subst this
   rw[hi]at hz
   cases hz
   rfl
  refine hjw.come eS3 (r:=z.2.low) (by rw[hj.ers];exact mem_map.mpr ⟨z,hzm,rfl⟩) un l40 (by omega) (by omega) rfl (λa' g v' tl' H4 hj4 ev et en er _ _ kb _=>?_) (λg H4 s4 _=>?_)
  ·exact q H4 v' tl' (km+1) ((zeg s3).trans (zfQ hj3.hh kb)) (hj4.same aK) (tF _) (by rw[et];omega) (by rw[ev,tR];exact tF _) (RwV.kls er (λh=>((zeg s3).trans (zfQ hj3.hh kb)).l h) (λh=>((zeg s3).trans (zfQ hj3.hh kb)).t h))
  ·exact q H4 v tl km (zeg (s3.trans s4)) (hj3.same s4) (by omega) (by omega) (by omega) (RwV.same (s3.trans s4))
 ·refine aA c1 ?_
  refine⟨_,rfl,rfl,_,rfl,?_⟩
  by_cases c2:w=3
  ·refine iteD (tW V.int c2) ?_
   refine⟨_,rfl,o,_,dx,_,_,rfl,s2 _ _ e,rfl,BO,_,rfl,a,3,rfl,S2,by decide,by decide,λk H3 k3 S3 k0 k1=>⟨_,_,rfl,rfl,?_⟩⟩
   dsimp only[aZ,tC,tNil]
   have s3:=back (k2.trans k3)
   have hj3:=hj.same s3
   obtain⟨j,rfl⟩:∃j:Nat,k=(j:Int):=⟨k.toNat,by omega⟩
   refine⟨o,v,tl,km,_,hd,1+j,by rw[show(1:Int)+(j:Int)=((1+j:Nat):Int) by omega],hj3,by omega,by omega,λD H4 v' kb hj4 et el _ rv=>q H4 v' tl km ((zeg s3).trans (zfQ hj3.hh λc u c1 _ hc=>kb c u c1 hc)) hj4 (by omega) (by omega) (by omega) λR=>rv (R.same s3)⟩
  ·refine aA (λz=>c2 (V.int.inj z)) ?_
   refine⟨_,rfl,o,_,dx,_,_,rfl,s2 _ _ e,rfl,An,o,v,rfl,hj2.hh,hj.p,hj.t0,by omega,λq hq _=>hj.ca q hq,hj2.hT,λlo H3 s3 n3 h3=>?_⟩
   have s03:=s2.trans s3
   have S3:=S2.same s3
   refine λd H4 s4 nd hd4=>?_
   have s04:=s03.trans s4
   have S4:=S3.same s4
   have loa:lo≠a:=S2.ne n3
   have da:d≠a:=S3.ne nd
   have ndH:H d=none:=Same.free s03 nd
   have h4:=s4 _ _ h3
   have loH:∀{G:Hp},But a H4 G->Same H G:=λk c u hc=>k _ _ (λz=>by rw[z,n1]at hc;cases hc) (s04 _ _ hc)
   refine⟨λσ' H'=>∃(kvs:List (Key × V))(en:Int->Option Bool),σ'=[some (.ref o),some (.ref l),some (.int x),some (.ref a),some (.int w),some (.ref lo),some (.ref d)]/\Same H H'/\H' d=some (.dK kvs)/\kvs.length<sizeLine/\(∀n,valV kvs (.inl n)=(en n).map λb=>V.str (if b then "done" else "failed"))/\(∀p,p∈kvs->∃n,p.1=.inl n/\(en n).isSome=true)/\∀n,(en n).isSome=true->n∈wsV v,?_,?_⟩
   ·refine⟨_,rfl,si0,λle H5 s5 n5 h5=>⟨lo,le,_,rfl,rfl,SqL.of (s5 _ _ h4),SqL.of h5,_,rfl,?_⟩⟩
    have s05:=s04.trans s5
    have none_:∀{G:Hp},Same H G->G d=some (.dK [])->∃(kvs:List (Key × V))(en:Int->Option Bool),[some (V.ref o),some (V.ref l),some (V.int x),some (V.ref a),some (V.int w),some (V.ref lo),some (V.ref d)]=[some (.ref o),some (.ref l),some (.int x),some (.ref a),some (.int w),some (.ref lo),some (.ref d)]/\Same H G/\G d=some (.dK kvs)/\kvs.length<sizeLine/\(∀n,valV kvs (.inl n)=(en n).map λb=>V.str (if b then "done" else "failed"))/\(∀p,p∈kvs->∃n,p.1=.inl n/\(en n).isSome=true)/\∀n,(en n).isSome=true->n∈wsV v:=λsG hG=>⟨[],λ_=>none,rfl,sG,hG,by decide,λ_=>rfl,λp hp=>by simp at hp,λn z=>by cases z⟩
    cases ens:((ord (clV v.rs v.ps) v.t).map (·.n)) with
    | nil=>exact iteF (iteF (none_ s05 (s5 _ _ hd4)))
    | cons n0 rest=>
      rw[ens]at h4
      refine iteT ?_
      refine⟨_,rfl,a,2,rfl,S4.same s5,by decide,by decide,λr H6 k6 S6 r0 r2=>⟨rfl,_,rfl,?_⟩⟩
      have k46:But a H4 H6:=s5.toBut.trans k6
      by_cases c3:r=0
      ·refine iteD (tW V.int c3) ?_
       refine⟨si2,λlv H7 s7 n7 h7=>⟨_,rfl,a,2,rfl,S6.same s7,by decide,by decide,λr2 H8 k8 S8 r20 r22=>?_⟩⟩
       obtain⟨b,eb⟩:∃b:Bool,atI [V.str (Str.ofString "done"),V.str (Str.ofString "failed")] r2=some (.str (if b then "done" else "failed")):=by
        have:r2=0\/r2=1:=by omega
        rcases this with rfl | rfl
        ·exact⟨true,rfl⟩
        ·exact⟨false,rfl⟩
       have lva:lv≠a:=S6.ne n7
       have k48:But a H4 H8:=k46.trans (s7.toBut.trans k8)
       have s08:=loH k48
       have hd8:=k48 _ _ da hd4
       have hl8:=k48 _ _ loa h4
       refine⟨lv,_,_,_,rfl,rfl,SqL.of (k8 _ _ lva h7),eb,?_⟩
       refine⟨_,rfl,_,rfl,lo,_,_,_,rfl,rfl,SqL.of hl8,zhs (j:=0) rfl,d,_,rfl,DPut.k (k:=.inl n0) hd8 (by decide),?_⟩
       refine⟨[(.inl n0,V.str (if b then "done" else "failed"))],λn=>if n=n0 then some b else none,rfl,λc u hc=>?_,zar,by show(1:Nat)<sizeLine;decide,λn=>?_,λp hp=>?_,λn hn=>?_⟩
       ·rw[zaw λz=>by rw[z,ndH]at hc;cases hc]
        exact s08 _ _ hc
       ·show _=Option.map _ (if n=n0 then some b else none)
        by_cases c5:n=n0
        ·rw[if_pos c5,zbr (by rw[c5])]
         rfl
        ·rw[if_neg c5,zbj (λz=>c5 (sQ z).symm)]
         rfl
       ·rw[mem_singleton.mp hp]
        exact⟨n0,rfl,by show(if n0=n0 then some b else none).isSome=true;rw[if_pos rfl];rfl⟩
       ·by_cases c5:n=n0
        ·rw[c5]
         unfold wsV
         rw[ens]
         have:=hj.h0
         obtain⟨hh,eh⟩:∃hh:Nat,v.h.toNat=hh+1:=⟨v.h.toNat-1,by rw[hj.ehd];omega⟩
         rw[eh,List.take_succ_cons]
         exact tN
        ·have hn:(if n=n0 then some b else none).isSome=true:=hn
         rw[if_neg c5]at hn
         cases hn
      ·exact aA (λz=>c3 (V.int.inj z)) (none_ (loH k46) (k6 _ _ da (s5 _ _ hd4)))
   ·rintro σ' H5 ⟨kvs,en,rfl,s5,hd5,kl,kv,kn,ew⟩
    have hj5:=hj.same s5
    have dN:d≠v.aN:=λz=>by
     have:=hj.hh.p.nb
     rw[<-z,ndH]at this
     cases this
    have hE:ztw (.ref d) en v.aN H5:=.inr ⟨d,kvs,rfl,dN,hd5,kl,kv,kn⟩
    refine⟨_,rfl,o,_,dx,_,_,_,_,rfl,s5 _ _ e,rfl,Am,_,rfl,o,v,.ref d,en,rfl,hj5.hh,hj5.ok (by omega),by omega,by rw[hj.ehd];have:=hj.h6;omega,λq hq _=>hj.ca q hq,hj5.hT,hE,ew,λps' l' lr p m H6 rt em kb nl nr hh' hp hm=>?_⟩
    refine q H6 _ tl km (λc w n1 n2 hc=>kb _ _ (λz=>by rw[z,e]at hc;exact n1 _ _ _ (tL hc).symm) (λd' z z2=>by cases z;rw[z2,ndH]at hc;cases hc) (s5 _ _ hc)) (hj5.pass hE em kb hh') (by omega) (by show v.t+1<=v.t+3;omega) (by
     have:=tW List.length em
     rw[tm,tm]at this
     show ps'.length<=_
     omega) λR=>?_
    obtain⟨rs',R'⟩:=R.same s5
    obtain⟨p2,m2,R2⟩:=rt.run R' (λhz=>kb _ _ (λy=>by rw[y,s5 _ _ e]at hz;cases hz) (λd' z y=>by cases z;rw[y,hd5]at hz;cases hz) hz) (λhz=>kb _ _ (λy=>by rw[y,s5 _ _ e]at hz;cases hz) (λd' z y=>by cases z;rw[y,hd5]at hz;cases hz) hz)
    exact⟨_,R2⟩
def zdb{qs:List (Addr × Cl)}{m:Addr}{H1:Hp}{js:List Nat}{tc:TT}{te:TE}{σ:St}{Q:VK}(h1:H1 m=some (.lst (qs.map λq=>V.ref q.1)))(cl:∀q,q∈qs->IsCl K H1 q.1 q.2)(ln:qs.length<=40)
    (ht:∀x Hh (Q':Bool->Hp->Prop),Q' true Hh->tc (some x::caps σ js) Hh Q')
    (he:∀(a:Addr)(n:Int)(xs:List V) Hh (Q':VK),SqT K Hh a (.int n::xs)->Q' (.int n) Hh->te (some (.ref a)::caps σ js) Hh Q')
    (q:∀D H2,Same H1 H2->H1 D=none->H2 D=some (.lst ((qs.map (·.2.n)).map V.int))->Q (.ref D) H2):zdK (Itl K m) js tc te σ H1 Q:=by
 have mo:(qs.map λq=>V.ref q.1).length=qs.length:=tm _
 refine zaS (xs:=qs.map λq=>V.ref q.1) (λ_=>true) (itm qs λq=>V.int q.2.n) (SqL.of h1) (λi x Hh Q' hx sh q'=>ht x Hh Q' (q' Hh (Same.refl _))) ?_ (zax (by rw[mo];omega)) (λD H2 s2 nD hD=>?_)
 ·intro i x Hh Q' hx _ sh q'
  obtain⟨y,e,hx⟩:=gmp hx
  cases hx
  obtain⟨pw,pz,z1,_,_⟩:=((cl y (tE e)).same sh).ex
  have z:=q' Hh (Same.refl _)
  unfold itm at z
  rw[e]at z
  exact he y.1 _ _ Hh Q' (SqT.of z1) z
 rw[zbW,mo,zes]at hD
 exact q D H2 s2 nD (by rw[hD,t5];rfl)
def zdc(ps:List (Addr × Cl))(t:Int):(ordP ps t).map (·.2.n)=(ord (ps.map (·.2)) t).map (·.n):=by
 rw[<-bL,t5]
 rfl
def zjv(ps:List (Addr × Cl))(t:Int):(ordP ps t).length=ps.length:=by
 rw[<-tm (f:=(·.2)),bL,(zaU _ t).length_eq,tm]
def zid{H:Hp}{a b:Addr}{ns:List Int}{n:Nat}(ha:H a=some (.lst (ns.map V.int)))(hb:H b=some (.lst (ns.map V.int))):zqM K n (.ref a) (.ref b) H:=⟨a,b,_,_,rfl,rfl,.inr ⟨SqL.of ha,SqL.of hb⟩,rfl,λj u v hu hv=>by
 rw[hu]at hv
 cases hv
 obtain⟨i,_,rfl⟩:=mem_map.mp (tE hu)
 exact Deq.int n i⟩
inductive zvk(K:am)(tT:Addr)(vs:List V)(H:Hp)(Q:VK)(_:XK):Prop
 | mk (l:Addr) (ps:List (Addr × Cl)) (t u:Int) (_:vs=[.ref l,.int t,.int u]) (_:IsCs K H l ps) (_:Good (ps.map (·.2))) (_:ps.length<=11) (_:H tT=some (.tbl zba lamQ)) (_:0<=t) (_:(∀q,q∈ps->q.2.came<=t)) (_:t<=u) (_:u<=1000000000000000) (_:∀H',Same H H'->Q (.bl true) H')
def zaE:FnScope ["_law_claims","_law_now","_law_far","_law_order_here","_law_ranks","_law_at","_law_number","_law_rows","_law_turn","_law_passes","_law_passed","_law_due","_law_told"] pl41 (zac zcx):=fsc
include T in
theorem fY(D:Dfn K mg "_law_far_right" zcx pl41 f fd)(zcr:Cal P w K mg bj "order_at" 8 pl10 (zlw K tT))(zie:Cal P w K mg bj "changes" 8 pl31 (zvg K tT))(zdA:Cal P w K mg bj "next_change" 8 pl10 (zqc K tT))(zgI:Cal P w K mg bj "for_ever" 9 ["claims"] (zso K tT))(aE:Cal P w K mg bj "_law_order" 3 pl38 (zmT K)):Cal P w K mg bj "_law_far_right" 10 pl41 (zvk K tT):=by
 refine D.cal (D.F.ok zaE (by walk_at "z") (λc A o s H vs Q E hr h=>?_))
 obtain⟨l,ps,t,u,rfl,hC,G,pl,hT,t0,ca,tu,u1,q⟩:=h
 have t1:t<=1000000000000000:=pC tu u1
 have ol:∀v,(ordP ps v).length<=40:=λv=>by rw[zjv];omega
 refine⟨_,(zab (zet (i:=3) (N:=["_law_claim"]) (js:=[]) zaE.nd rfl rfl rfl cpo (zaB (zai aE hr.o rfl (zaa (pv 0) (zaa (pv 1) zae)))) (λ_ _ _ _ _=>zbx) (λ_ _ _ _ _=>(zak (r:=rIxT K) zah (pv 0) zad (λ_ _=>rfl))))
  (zab (zam (i:=4) zaE.nd rfl (Or.inr rfl) zfr)
  (zab (zcL tY rfl (zla rfl T.zeQ (zaa (pv 3) zae)) (zjE rfl (zbp (ay (i:=5) zaE.nd rfl (Or.inl rfl)) (zbp (ay (i:=6) zaE.nd rfl (Or.inl rfl)) zhk))) (zaf (zfS hr.units1 (pv 4) (pv 6) (pv 5) rfl)))
  (zab (zam (i:=7) zaE.nd rfl (Or.inl rfl) (zai zie hr.o rfl (zaa (pv 0) (zaa (pv 1) (zaa (pv 2) zae)))))
  (zab (zcL tY rfl (zaB (pv 7)) (zjE rfl (zbp (ay (i:=8) zaE.nd rfl (Or.inl rfl)) (zbp (ay (i:=9) zaE.nd rfl (Or.inl rfl)) (zbp (ay (i:=10) zaE.nd rfl (Or.inl rfl)) zhk)))) (zab (zfS hr.units1 (pv 4) (pv 9) (zaz zel (zcT hr.units1 (pv 4) (pv 9) (λ_ _=>rfl)) zad) rfl)
  (zaf (zfS hr.units1 (pv 4) (pv 10) (zaz aw (zcT hr.units1 (pv 4) (pv 10) (λ_ _=>rfl)) zad) rfl))))
  (zab (zet (i:=11) (N:=["_law_claim"]) (js:=[]) zaE.nd rfl rfl rfl cpo (zaB (zai aE hr.o rfl (zaa (pv 0) (zaa (pv 2) zae)))) (λ_ _ _ _ _=>zbx) (λ_ _ _ _ _=>(zak (r:=rIxT K) zah (pv 0) zad (λ_ _=>rfl))))
  (zab (zaQ (PW.pt (zhi (zan (zoX hr.units0) (zqV (nk:=2) (g:=(gTup K 2 (zsu (zjD 0) (zsu (zjD 1) gNil)))) (N:=["_law_at","_law_number","_law_ranks"]) (js:=[4]) rfl (CompScopeN.of rfl rfl rfl rfl rfl (by decide +kernel) rfl rfl rfl) (λ_ _ _ _ _ hn=>(zjE rfl (zbp (hn 0 _ _ rfl (by decide)) (zbp (hn 1 _ _ rfl (by decide)) zhk)))) (zla rfl T.zeQ (zaa (pv 11) zae)) (λ_ _ _ _ _=>(zcN (zan zqp (zcT hr.units1 (pv 2) (pv 1) (λ_ _=>rfl)) (pv 0) (zas _)))) (λ_ _ _ _ _=>(pv 1))) (az zae) (zas _)) (zfl (zan (zmh 9 hr.units9) (zai zcr hr.o rfl (zaa (pv 0) (zaa (pv 2) zae))) (pv 11) (zas _))))) (zaf (zaj zdG)) zat)
  (zab (zaQ (zan (zmh 9 hr.units9) (zai zgI hr.o rfl (zaa (pv 0) zae)) (zaN (N:=["_law_claim"]) (js:=[]) rfl cpo (zaB (zai aE hr.o rfl (zaa (pv 0) (zaa (zaz bB zad zad) zae)))) (λ_ _ _ _ _=>zbx) (λ_ _ _ _ _=>(zak (r:=rIxT K) zah (pv 0) zad (λ_ _=>rfl)))) (zas _)) (zaf (zaj zdG)) zat)
  (zab (zam (i:=12) zaE.nd rfl (Or.inr rfl) (zai zdA hr.o rfl (zaa (pv 0) (zaa (pv 1) zae))))
  (zab (zaQ (PW.pt (zhi (zan zjI (pv 12) zdC (zas _)) (zfl (zan zei (zak zah (pv 12) zad (λ_ _=>rfl)) (pv 2) (zas _))))) (zaf (zaj (zbU (zuD hr.units0) (pv 7) (az zae) (zas _)))) zat)
  (zaf (zaj (zgN (zbU (zuq 9 hr.units9) (zaN (N:=["_law_row","_law_told"]) (js:=[12]) rfl cpo (zaB (pv 7)) (λ_ _ _ _ _=>(zcN (zan zdd (zak (r:=rIxT K) zah (pv 0) zad (λ_ _=>rfl)) (zak (r:=rIxT K) zah (pv 1) zad (λ_ _=>rfl)) (zas _)))) (λ_ _ _ _ _=>(zco (zti (K:=K) rfl) (pv 0) (zcU zad) zdJ))) (zak zah (pv 12) zad (λ_ _=>rfl)) (zas _)) (zhj (zbU zdd (zak zah (zak zbc (pv 7) zad (λ_ _=>rfl)) zad (λ_ _=>rfl)) (zak zah (pv 12) zad (λ_ _=>rfl)) (zas _)))))))))))))))),?_⟩
 refine⟨_,rfl,_,rfl,l,ps,t,rfl,hC,G,by omega,λm H1 s1 n1 h1=>⟨m,rfl,⟨_,SqL.of h1⟩,zdb h1 (λz hz=>(hC.cl z (zdf.mp hz)).same s1) (ol t) (λ_ _ _ q=>q) (λa n xs Hh Q' hs q=>⟨_,rfl,a,_,_,_,rfl,rfl,hs,aL _ _,q⟩) (λO H2 s2 nO hO=>?_)⟩⟩
 rw[zdc]at hO
 have od_len:(ord (ps.map (·.2)) t).length=ps.length:=by rw[(zaU _ t).length_eq,tm]
 have Go:Good (ord (ps.map (·.2)) t):=⟨λc hc=>G.ok c ((zaU _ t).mem_iff.mp hc),(((zaU (ps.map (·.2)) t).map (·.n)).nodup_iff).mpr G.nd⟩
 have at_o:∀c,c∈ps.map (·.2)->∃j:Nat,(ord (ps.map (·.2)) t)[j]?=some c:=λc hc=>List.getElem?_of_mem ((zaU _ t).mem_iff.mpr hc)
 generalize eod:ord (ps.map (·.2)) t=od at hO od_len Go at_o
 refine λRk H3 s3 nR hR=>?_
 refine⟨_,rfl,O,rfl,⟨_,SqL.of (s3 _ _ hO)⟩,?_⟩
 refine zmg (K:=K) (a:=O) (xs:=(od.map (·.n)).map V.int) (λi σ HA=>∃(v5 v6:Option V)(kvs:List (Key × V)),σ=[some (.ref l),some (.int t),some (.int u),some (.ref O),some (.ref Rk),v5,v6,none,none,none,none,none,none]/\Same H2 HA/\HA Rk=some (.dK kvs)/\kvs.length<=i/\∀(j:Nat) c,j<i->od[j]?=some c->valV kvs (.inl c.n)=some (.int j))
  ⟨_,_,[],rfl,s3,hR,tF _,λj c z=>by omega⟩ (λi σ HA _ ⟨_,_,_,_,sa,_⟩=>SqL.of (sa _ _ hO)) ?_ ?_
 ·rintro i y σ HA p HB hi ⟨v5,v6,kvs,rfl,sa,hK,kl,kv⟩ sb nb hb
  rw[getElem?_map,getElem?_map]at hi
  cases e:od[i]? with
  | none=>rw[e]at hi;cases hi
  | some c=>
    rw[e]at hi
    cases hi
    have il:i<od.length:=(List.getElem?_eq_some_iff.mp e).1
    refine⟨p,_,rfl,SqT.of hb,rfl,_,_,rfl,_,_,rfl,rfl,?_⟩
    refine⟨_,rfl,_,rfl,_,rfl,Rk,_,rfl,DPut.k (k:=.inl c.n) (sb _ _ hK) (zax (by omega)),?_⟩
    refine⟨_,_,_,rfl,(sa.trans sb).but nR (But.upd _ _ _),zar,tU (zjb _ _ _) (by omega),λj d hj hd=>?_⟩
    rw[zde]
    by_cases z:d.n=c.n
    ·have:j=i:=rB λne=>aJ Go hd e ne z
     subst this
     rw[if_pos (by rw[z])]
    ·rw[if_neg λy=>z (sQ y)]
     refine kv j d (rB λge=>z ?_) hd
     have:j=i:=by omega
     subst this
     rw[e]at hd
     cases hd
     rfl
 rintro σ H5 ⟨v5,v6,kvs,rfl,s5,hK,kl,kv⟩
 rw[tm,tm]at kv kl
 have kv:∀(j:Nat) c,od[j]?=some c->valV kvs (.inl c.n)=some (.int j):=λj c h=>kv j c (List.getElem?_eq_some_iff.mp h).1 h
 have s05:=s1.trans (s2.trans s5)
 have nR0:H Rk=none:=Same.free (s1.trans s2) nR
 refine⟨_,rfl,_,rfl,_,rfl,l,ps,t,u,rfl,hC.same s05,G,pl,s05 _ _ hT,t0,t1,ca,tu,u1,λD H6 rs0 s6 nD R6 lr RO=>?_⟩
 have B:Betw (ps.map (·.2)) t u ((rs0.filter λr=>decide (r.2.1<=u)).map (·.2)):=by
  have:=RO.betw G u
  rw[sM]at this
  exact this
 obtain⟨rs,ers⟩:∃rs,rs=rs0.filter λr=>decide (r.2.1<=u):=⟨_,rfl⟩
 rw[<-ers]at R6 B
 have lrs:rs.length<64:=by
  rw[ers]
  exact pq (sf _ _) lr
 have mr:(rs.map λr=>V.ref r.1).length=rs.length:=tm _
 have hK6:=s6 _ _ hK
 have nl:∀{c:Addr}{xs:List V},H6 c=some (.lst xs)->c≠Rk:=λhc z=>by rw[z,hK6]at hc;cases hc
 have nt:∀{c:Addr}{xs:List V},H6 c=some (.tup xs)->c≠Rk:=λhc z=>by rw[z,hK6]at hc;cases hc
 refine⟨_,rfl,D,rfl,⟨_,SqL.of R6.at_⟩,?_⟩
 refine zcn (K:=K) (a:=D) (xs:=rs.map λr=>V.ref r.1) (λi σ HA=>∃(v8 v9 v10:Option V)(kvs:List (Key × V)),σ=[some (.ref l),some (.int t),some (.int u),some (.ref O),some (.ref Rk),v5,v6,some (.ref D),v8,v9,v10,none,none]/\But Rk H6 HA/\HA Rk=some (.dK kvs)/\kvs.length<=40+2*i/\∀(j:Nat) c,od[j]?=some c->valV kvs (.inl c.n)=some (.int (j-pcn ((rs.map (·.2)).take i) c.n+qcn ((rs.map (·.2)).take i) c.n)))
  ⟨_,_,_,kvs,rfl,λ_ _ _ h=>h,hK6,by omega,λj c h=>by rw[kv j c h];simp[pcn,qcn]⟩ (λi σ HA _ ⟨_,_,_,_,_,ka,_⟩=>SqL.of (ka _ _ (nl R6.at_) R6.at_)) ?_ ?_
 ·rintro i y σ HA hi ⟨v8,v9,v10,kva,rfl,ka,hK,kl,kv⟩
  obtain⟨r,e,hi⟩:=gmp hi
  cases hi
  have il:i<rs.length:=(List.getElem?_eq_some_iff.mp e).1
  have er:(rs.map (·.2))[i]?=some r.2:=by rw[getElem?_map,e];rfl
  obtain⟨_,b,f,hb,hf,hn,a1,a2,a3,a4⟩:=(B.mem r.2).mp (tE er)
  obtain⟨jb,ejb⟩:=at_o b hb
  obtain⟨jf,ejf⟩:=at_o f hf
  have sz2:kva.length+1<sizeLine:=by
   have z:(2000:Nat)<=sizeLine:=by decide
   omega
  have hr:=R6.rw r (tE e)
  refine⟨r.1,_,rfl,SqT.of (ka _ _ (nt hr) hr),rfl,_,_,rfl,_,_,rfl,_,_,rfl,rfl,?_⟩
  have g1:DGet HA Rk (.int r.2.2.1) (some (.int (jb-pcn ((rs.map (·.2)).take i) b.n+qcn ((rs.map (·.2)).take i) b.n))):=by
   rw[a3,<-kv jb b ejb]
   exact DGet.k (k:=.inl b.n) hK
  generalize ez1:((jb:Int)-pcn ((rs.map (·.2)).take i) b.n+qcn ((rs.map (·.2)).take i) b.n)=zb at g1
  obtain⟨kvb,HB,p1,u1,b1,l1,v1⟩:∃kvb HB,DPut HA Rk (.int r.2.2.1) (.int (zb-1)) HB/\HB Rk=some (.dK kvb)/\But Rk HA HB/\kvb.length<=kva.length+1/\∀j,valV kvb j=if j=.inl r.2.2.1 then some (V.int (zb-1))else valV kva j:=
   ⟨_,_,DPut.k (k:=.inl r.2.2.1) (v:=.int (zb-1)) hK (by omega),zar,But.upd _ _ _,zjb _ _ _,λj=>zde _ _ _ _⟩
  refine⟨_,rfl,_,rfl,Rk,_,rfl,g1,_,_,rfl,rfl,_,rfl,_,rfl,Rk,HB,rfl,p1,?_⟩
  have g2:DGet HB Rk (.int r.2.2.2) (some (.int (jf-pcn ((rs.map (·.2)).take i) f.n+qcn ((rs.map (·.2)).take i) f.n))):=by
   have:=v1 (.inl r.2.2.2)
   rw[if_neg (λz=>hn (by rw[<-a3,<-a4,sQ z]))]at this
   rw[<-kv jf f ejf,<-a4,<-this]
   exact DGet.k (k:=.inl r.2.2.2) u1
  refine⟨_,rfl,_,rfl,Rk,_,rfl,g2,_,_,rfl,rfl,_,rfl,_,rfl,Rk,_,rfl,DPut.k (k:=.inl r.2.2.2) u1 (by omega),?_⟩
  refine⟨_,_,_,_,rfl,ka.trans (b1.trans (But.upd _ _ _)),zar,tU (zjb _ _ _) (by omega),λj c hj=>?_⟩
  rw[zrg er,zrh er,zde,v1]
  by_cases y1:c.n=r.2.2.2
  ·have:j=jf:=rB λne=>aJ Go hj ejf ne (y1.trans a4)
   subst this
   rw[hj]at ejf
   cases ejf
   rw[if_pos (by rw[y1]),if_neg (λz=>hn (a3.symm.trans z)),if_pos a4]
   refine tW (λz=>some (V.int z)) ?_
   omega
  ·rw[if_neg λz=>y1 (sQ z)]
   by_cases y2:c.n=r.2.2.1
   ·have:j=jb:=rB λne=>aJ Go hj ejb ne (y2.trans a3)
    subst this
    rw[hj]at ejb
    cases ejb
    rw[if_pos (by rw[y2]),if_pos a3,if_neg (λz=>y1 z.symm)]
    refine tW (λz=>some (V.int z)) ?_
    omega
   ·rw[if_neg λz=>y2 (sQ z),kv j c hj,if_neg (λz=>y2 z.symm),if_neg (λz=>y1 z.symm)]
    congr 2
 rintro σ H7 ⟨v8,v9,v10,kva,rfl,k7,hK7,_,kv7⟩
 have tl:(rs.map (·.2)).take (rs.map λr=>V.ref r.1).length=rs.map (·.2):=by
  rw[mr,<-tm (f:=(·.2)) (as:=rs),ql]
 rw[tl]at kv7
 have s06:=s05.trans s6
 have s07:Same H H7:=λc w hc=>k7 _ _ (λz=>by rw[z,nR0]at hc;cases hc) (s06 _ _ hc)
 have R7:IsRows H7 D rs:=⟨k7 _ _ (nl R6.at_) R6.at_,λr hr=>k7 _ _ (nt (R6.rw r hr)) (R6.rw r hr)⟩
 have hC7:=hC.same s07
 refine⟨_,rfl,_,rfl,l,ps,u,rfl,hC7,G,by omega,λm8 H8 s8 n8 h8=>⟨m8,rfl,⟨_,SqL.of h8⟩,zdb h8 (λz hz=>(hC7.cl z (zdf.mp hz)).same s8) (ol u) (λ_ _ _ q=>q) (λa n xs Hh Q' hs q=>⟨_,rfl,a,_,_,_,rfl,rfl,hs,aL _ _,q⟩) (λE1 H9 s9 nE hE=>?_)⟩⟩
 rw[zdc]at hE
 have s79:=s8.trans s9
 have s09:=s07.trans s79
 refine⟨_,rfl,E1,rfl,⟨_,SqL.of hE⟩,znm (SqL.of hE) (λi p x Hh os R hp o2 r=>?_) (λi x Hh Q' hx sh q'=>?_) (λDE H10 s10 nDE hDE=>?_)⟩
 ·obtain⟨o1,o2,rfl⟩:=len2 o2
  exact⟨p,_,rfl,SqT.of hp,rfl,_,_,rfl,_,_,rfl,rfl,r⟩
 ·rw[getElem?_map,getElem?_map]at hx
  cases e:(ord (ps.map (·.2)) u)[i]? with
  | none=>rw[e]at hx;cases hx
  | some c=>
    rw[e]at hx
    cases hx
    have hc:=(zaU _ u).mem_iff.mp (tE e)
    obtain⟨j0,ej0⟩:=at_o c hc
    have mv:=zpp G tu B (by rw[eod];exact ej0) e
    have gc:DGet Hh Rk (.int c.n) (some (.int i)):=by
     rw[mv,<-kv7 j0 c ej0]
     exact DGet.k (k:=.inl c.n) (sh _ _ (s79 _ _ hK7))
    refine⟨_,rfl,_,rfl,Rk,_,rfl,gc,_,rfl,rfl,_,rfl,?_⟩
    rw[decide_eq_true rfl]
    exact q' Hh (Same.refl _)
 refine⟨si0,λle H11 s11 n11 h11=>⟨DE,le,_,rfl,rfl,SqL.of (s11 _ _ hDE),SqL.of h11,_,rfl,iteF ?_⟩⟩
 have s9b:=s10.trans s11
 have s011:=s09.trans s9b
 refine⟨_,rfl,_,rfl,l,ps,u,rfl,hC.same s011,G,by omega,s011 _ _ hT,by omega,u1,λq hq=>pC (ca q hq) tu,λm12 H12 s12 n12 h12=>?_⟩
 refine⟨_,rfl,zid h12 (s12 _ _ (s9b _ _ hE)),_,rfl,iteF ?_⟩
 have s012:=s011.trans s12
 refine⟨_,rfl,l,ps,rfl,hC.same s012,G,pl,s012 _ _ hT,λm13 H13 t13 s13 n13 h13 t13b st=>?_⟩
 have s013:=s012.trans s13
 have hC13:=hC.same s013
 refine⟨_,rfl,_,_,rfl,rfl,⟨by decide,by decide,by decide⟩,l,ps,_,rfl,hC13,G,by omega,λm14 H14 s14 n14 h14=>⟨m14,rfl,⟨_,SqL.of h14⟩,zdb h14 (λz hz=>(hC13.cl z (zdf.mp hz)).same s14) (ol _) (λ_ _ _ q=>q) (λa n xs Hh Q' hs q=>⟨_,rfl,a,_,_,_,rfl,rfl,hs,aL _ _,q⟩) (λF1 H15 s15 nF hF=>?_)⟩⟩
 rw[zdc]at hF
 rw[st _ (show t13<=(10:Int) ^ (40:Int).toNat by rw[zvh];omega)]at h13
 have s135:=s14.trans s15
 refine⟨zid (s135 _ _ h13) hF,_,rfl,iteF ?_⟩
 have s015:=s013.trans s135
 refine⟨_,rfl,_,rfl,l,ps,t,rfl,hC.same s015,G,pl,s015 _ _ hT,t0,t1,ca,λv H16 rows s16 RO' lr' NX=>?_⟩
 have R16:=R7.same (s79.trans (s9b.trans (s12.trans (s13.trans (s135.trans s16)))))
 have s016:=s015.trans s16
 have er:rows=rs0.map (·.2):=eB RO'.srt RO.srt λr=>(RO'.mem r).trans (RO.mem r).symm
 have erm:rs.map (·.2)=rows.filter λr=>decide (r.1<=u):=by
  rw[er,ers,sM]
  rfl
 have none_:rs=[]->∀{le2:Addr}{H17:Hp},Same H16 H17->H17 le2=some (.lst [])->rEqE K (.ref D) (.ref le2) H17 Q:=λer0 le2 H17 s17 h17=>by
  have z:=R16.at_
  rw[er0]at z
  exact⟨D,le2,[],rfl,rfl,SqL.of (s17 _ _ z),SqL.of h17,q H17 (s016.trans s17)⟩
 rcases NX with⟨e0,rfl⟩ | ⟨p,m17,bs,r0,rest,e0,rfl,hp,hm,eb,hb⟩
 ·have er0:rs=[]:=by
   rw[e0]at erm
   exact List.map_eq_nil_iff.mp erm
  exact⟨_,rfl,rfl,_,rfl,iteT (iteT ⟨_,rfl,si0,λle2 H17 s17 n17 h17=>none_ er0 s17 h17⟩)⟩
 refine⟨_,rfl,rfl,_,rfl,iteF ?_⟩
 refine⟨_,rfl,p,_,_,_,rfl,rfl,SqT.of hp,rfl,_,rfl,_,_,rfl,rfl,_,rfl,?_⟩
 rcases zqU RO'.srt (u:=u) e0 with⟨ef,lt⟩ | ⟨rest',ef,eg⟩
 ·have er0:rs=[]:=by
   rw[ef]at erm
   exact List.map_eq_nil_iff.mp erm
  exact iteD lt ⟨_,rfl,si0,λle2 H17 s17 n17 h17=>none_ er0 s17 h17⟩
 have le:r0.1<=u:=by
  have:r0∈rows.filter λr=>decide (r.1<=u):=by rw[ef];exact tN
  exact tP (mem_filter.mp this).2
 refine aA (λz=>by have:u<r0.1:=z;omega) ?_
 refine⟨_,rfl,D,rfl,⟨_,SqL.of R16.at_⟩,?_⟩
 refine zfq (xs:=rs.map λr=>V.ref r.1) (tak rs λr=>decide (r.2.1=r0.1)) (itl rs λr=>[V.int r.2.2.1,V.int r.2.2.2]) (SqL.of R16.at_) (λi x Hh Q' hx sh q'=>?_) (λi x Hh Q' hx _ sh q'=>?_) (zax (by rw[mr];omega)) (λDF H17 bs2 s17 nDF hDF eb2 hb2=>?_)
 ·obtain⟨r,e,hx⟩:=gmp hx
  cases hx
  have z:=q' Hh (Same.refl _)
  unfold tak at z
  rw[e]at z
  refine⟨_,rfl,r.1,_,_,_,rfl,rfl,SqT.of (sh _ _ (R16.rw r (tE e))),rfl,_,rfl,p,_,_,_,rfl,rfl,SqT.of (sh _ _ hp),rfl,rfl,_,rfl,?_⟩
  have ee:decide (V.int r.2.1=V.int r0.1)=decide (r.2.1=r0.1):=by
   rw[rg]
   exact⟨V.int.inj,tW V.int⟩
  rw[ee]
  exact z
 ·obtain⟨r,e,hx⟩:=gmp hx
  cases hx
  refine⟨_,rfl,_,rfl,r.1,_,rfl,SqT.of (sh _ _ (R16.rw r (tE e))),(by show ¬(HT.sIx 3 0 (some 1)=0/\HT.sIx 3 3 none=3);decide),λb H4 s4 n4 h4=>q' b H4 s4 ?_⟩
  rw[h4]
  unfold itl
  rw[e]
  rfl
 rw[mr,zfX]at eb2
 have ebb:bs2.map (·.2)=bs.map (·.2):=by
  rw[eb2,eb,<-eg,<-ef,<-erm,sM,t5]
  rfl
 have fl:∀b,b∈bs2->b.2.all zcd=true:=λb hb'=>by
  have:b.2∈bs2.map (·.2):=mem_map.mpr ⟨b,hb',rfl⟩
  rw[eb2]at this
  obtain⟨r,_,e⟩:=mem_map.mp this
  rw[<-e]
  rfl
 refine⟨_,rfl,p,_,_,_,rfl,rfl,SqT.of (s17 _ _ hp),rfl,⟨DF,m17,_,_,rfl,rfl,.inr ⟨SqL.of hDF,SqL.of (s17 _ _ hm)⟩,by rw[tm,tm,<-tm (f:=(·.2)) (as:=bs2),ebb,tm],zqW ebb (λb hb'=>⟨hb2 b hb',fl b hb'⟩) (λc hc=>s17 _ _ (hb c hc))⟩,_,rfl,iteT ?_⟩
 have R17:=R16.same s17
 cases rs with
 | nil=>
   rw[ef]at erm
   cases erm
 | cons z rs'=>
   rw[ef]at erm
   have ez:z.2=r0:=(List.cons.inj erm).1
   refine⟨_,rfl,D,_,_,_,rfl,rfl,SqL.of R17.at_,aL _ _,z.1,_,_,_,rfl,rfl,SqT.of (R17.rw z tN),rfl,_,rfl,p,_,_,_,rfl,rfl,SqT.of (s17 _ _ hp),rfl,rfl,?_⟩
   rw[ez,decide_eq_true rfl]
   exact q H17 (s016.trans s17)
def wtg(v:Hv)(n:Int):Bool:=match v.ps[n.toNat]? with
 | some q=>decide (q.2.1=.waiting)
 | none=>false
def ztB(d:Wd):decide (V.str d.str=V.str "waiting")=decide (d=.waiting):=by
 cases d<;>decide
inductive zqg(K:am)(cs:CsA)(cS cH:Addr)(vs:List V)(H:Hp)(Q:VK)(_:XK):Prop
 | mk (o l:Addr) (v:Hv) (km:Nat) (bs:List (Addr × Cl)) (_:vs=[.ref o,.ref l]) (_:IsHs cs cS cH H o v) (_:IsCs K H l bs) (_:bs.length<=40) (_:(∀b,b∈bs->0<=b.2.n/\b.2.n<v.ps.length)) (_:(∀n,NbP H v n km)) (_:km<=1000) (_:∀D H',Same H H'->H D=none->IsCs K H' D (bs.filter λb=>wtg v b.2.n)->Q (.ref D) H')
def zkS:FnScope pl42 pl42 (zac zeM):=fsc
include T in
theorem zkT(D:Dfn K mg "_law_still" zeM pl42 f fd)(DJ:MOk CX0 P w K mg bj 6 Ac "state" (zpX (CsA.mk Aa Ad Ab) Ae Ac)):Cal P w K mg bj "_law_still" 7 pl42 (zqg K (CsA.mk Aa Ad Ab) Ae Ac):=by
 refine D.cal (D.F.ok zkS (by walk_at "z") (λc A o s H vs Q E hr h=>?_))
 obtain⟨o,l,v,km,bs,rfl,hh,hC,bl,bn,nb,k1,q⟩:=h
 obtain⟨dx,e⟩:=hh.at_
 refine⟨_,(zaf (zaj (zaN (N:=["_law_claim","_law_house"]) (js:=[0]) rfl cpo (zaB (pv 1)) (λ_ _ _ _ _=>(zcN (zan zdd (zak (r:=rIxT K) zah (ztk (P:=P) (w:=w) (K:=K) (mg:=mg) (bj:=bj) (k:=6) rfl rfl rfl rfl rfl (pv 1) hr.o zaT (zaa (zak (r:=rIxT K) zah (pv 0) zad (λ_ _=>rfl)) zae)) zad (λ_ _=>rfl)) zbD (zas _)))) (λ_ _ _ _ _=>(pv 0))))),?_⟩
 have ml:(bs.map λb=>V.ref b.1).length=bs.length:=tm _
 refine⟨_,rfl,l,rfl,⟨_,SqL.of hC.at_⟩,?_⟩
 refine zaS (xs:=bs.map λb=>V.ref b.1) (tak bs λb=>wtg v b.2.n) (itm bs λb=>V.ref b.1) (SqL.of hC.at_) (λi x Hh Q' hx sh q'=>?_) (λi x Hh Q' hx _ sh q'=>?_) (zax (by rw[ml];omega)) (λD H2 s2 nD hD=>?_)
 ·obtain⟨b,eb,hx⟩:=gmp hx
  cases hx
  have hb:=tE eb
  obtain⟨pw,pz,z1,_,_⟩:=((hC.cl b hb).same sh).ex
  obtain⟨b0,b1⟩:=bn b hb
  obtain⟨j,ej⟩:∃j:Nat,b.2.n=j:=⟨b.2.n.toNat,by omega⟩
  obtain⟨q0,eq0⟩:∃q0,v.ps[j]?=some q0:=⟨_,tj (by omega)⟩
  refine⟨_,rfl,o,_,dx,_,_,rfl,sh _ _ e,rfl,DJ,_,rfl,b.1,_,_,_,rfl,rfl,SqT.of z1,rfl,?_⟩
  refine⟨o,v,j,km,q0,(by rw[<-ej]),hh.same sh,eq0,λx ex=>let ⟨l,us,a,b,c⟩:=nb _ x ex;⟨l,us,a,sh _ _ b,c⟩,k1,λp m H3 s3 h3=>⟨p,_,_,_,rfl,rfl,SqT.of h3,rfl,rfl,_,rfl,?_⟩⟩
  have z:=q' H3 s3
  unfold tak wtg at z
  rw[eb]at z
  have z:Q' (match v.ps[b.2.n.toNat]? with | some q=>decide (q.2.1=.waiting) | none=>false) H3:=z
  rw[ej,show((j:Int)).toNat=j by omega,eq0]at z
  rw[ztB]
  exact z
 ·obtain⟨b,eb,hx⟩:=gmp hx
  cases hx
  have z:=q' Hh (Same.refl _)
  unfold itm at z
  rw[eb]at z
  exact⟨_,rfl,z⟩
 rw[ml,zdM]at hD
 exact q D H2 s2 nD ⟨hD,λb hb=>(hC.cl b (mem_filter.mp hb).1).same s2⟩
def ztC{H H':Hp}{l:Addr}{ps:List (Addr × Cl)}(h:IsCs K H l ps)(kl:∀ {z xs},H z=some (.lst xs)->H' z=some (.lst xs))(kt:∀ {z xs},H z=some (.tup xs)->H' z=some (.tup xs)):IsCs K H' l ps:=⟨kl h.at_,λq hq=>let ⟨pw,pz,a,b,d⟩:=(h.cl q hq).ex;⟨pw,pz,kt a,kt b,kt d⟩⟩
theorem zqh{rs:List SR}{g:Wd × Pv->Wd × Pv}{P:Int->Bool}(hs:∀x,(g x).2.n=x.2.n/\(g x).2.nm=x.2.nm/\(g x).2.came=x.2.came):∀{ps ps':List (Addr × Wd × Pv)},ps'.map (·.2)=ps.map (λq=>g q.2)->(∀q,q∈ps->(g q.2).1=.waiting->q.2.1=.waiting)->(∀q,q∈ps'->P q.2.2.n=decide (q.2.1=.waiting))->clV rs ps'=(clV rs ps).filter λc=>P c.n
 | [],[],_,_,_=>rfl
 | q::ps,q'::ps',em,hw,hP=>by
   have e1:q'.2=g q.2:=(List.cons.inj em).1
   have ih:=zqh (rs:=rs) (P:=P) hs (ps:=ps) (ps':=ps') (List.cons.inj em).2 (λz hz=>hw z (tO _ hz)) (λz hz=>hP z (tO _ hz))
   obtain⟨s1,s2,s3⟩:=hs q.2
   have ec:clOf q'.2.2 (zfC rs q'.2.2.nm).low=clOf q.2.2 (zfC rs q.2.2.nm).low:=by
    rw[e1]
    unfold clOf
    rw[s1,s2,s3]
   have hq:=hP q' tN
   unfold clV ofW at ih ⊢
   by_cases c:q'.2.1=.waiting
   ·have c0:q.2.1=.waiting:=hw q tN (by rw[<-e1];exact c)
    rw[se,if_pos (decide_eq_true c),se,if_pos (decide_eq_true c0),t3,t3,se,ih,ec]
    rw[if_pos]
    show P q.2.2.n=true
    rw[<-s1,<-e1,hq]
    exact decide_eq_true c
   ·rw[se,if_neg (by simpa using c),ih,se]
    by_cases c0:q.2.1=.waiting
    ·rw[if_pos (decide_eq_true c0),t3,se,if_neg]
     show ¬P q.2.2.n=true
     rw[<-s1,<-e1,hq]
     simpa using c
    ·rw[if_neg (by simpa using c0)]
def zsq{rs:List SR}{v:Hv}(p:PsOk rs v.ps){q:Addr × Wd × Pv}(hq:q∈v.ps):wtg v q.2.2.n=decide (q.2.1=.waiting):=by
 obtain⟨i,hi,e⟩:=t6 hq
 have ei:v.ps[i]?=some q:=by rw[tj hi,e]
 unfold wtg
 rw[p.nm i q ei,show((i:Int)).toNat=i by omega,ei]
structure Cls_(v:Hv)(cs:List Cl):Prop where
 eq:clV v.rs v.ps=cs.filter λc=>wtg v c.n
 lt:∀c,c∈cs->0<=c.n/\c.n<v.ps.length
def Cls_.now{v:Hv}(p:PsOk v.rs v.ps):Cls_ v (clV v.rs v.ps):=by
 have mem:∀c,c∈clV v.rs v.ps->∃q,q∈v.ps/\q.2.1=.waiting/\q.2.2.n=c.n:=λc hc=>by
  obtain⟨q,hq,rfl⟩:=mem_map.mp hc
  exact⟨q,(zcG.mp hq).1,(zcG.mp hq).2,rfl⟩
 refine⟨(filter_eq_self.mpr λc hc=>?_).symm,λc hc=>?_⟩
 ·obtain⟨q,hq,w,e⟩:=mem c hc
  rw[<-e,zsq p hq]
  exact decide_eq_true w
 ·obtain⟨q,hq,w,e⟩:=mem c hc
  obtain⟨i,hi,eq⟩:=t6 hq
  have:=p.nm i q (by rw[tj hi,eq])
  omega
theorem Cls_.pass{v v':Hv}{cs:List Cl}(h:Cls_ v cs)(p:PsOk v.rs v.ps)(p':PsOk v'.rs v'.ps)(er:v'.rs=v.rs)(em:v'.ps.map (·.2)=v.ps.map (λq=>bhP (wsV v) (λ_=>none) q.2)):Cls_ v' cs:=by
 have hw:∀q,q∈v.ps->q.2.2.n∈wsV v->q.2.1=.waiting:=λq hq hn=>by
  obtain⟨y,hy,yw,yn⟩:=zlD hn
  rw[<-p.one hy hq yn]
  exact yw
 have len:v'.ps.length=v.ps.length:=by
  have:=tW List.length em
  rw[tm,tm]at this
  exact this
 have st:=zqh (rs:=v.rs) (P:=wtg v') (λx=>⟨(zdy (wsV v) (λ_=>none) x).1,(zdy (wsV v) (λ_=>none) x).2.1,(zdy (wsV v) (λ_=>none) x).2.2.1⟩) em (λq hq z=>zmO (hw q hq) z) (λq hq=>zsq p' hq)
 refine⟨?_,λc hc=>by rw[len];exact h.lt c hc⟩
 rw[er,st,h.eq,List.filter_filter]
 refine List.filter_congr λc hc=>?_
 obtain⟨c0,c1⟩:=h.lt c hc
 by_cases w:wtg v' c.n=true
 ·rw[w,rH]
  obtain⟨k,ek⟩:∃k:Nat,c.n=k:=⟨c.n.toNat,by omega⟩
  unfold wtg at w ⊢
  rw[ek,show((k:Int)).toNat=k by omega]at w ⊢
  have e2:=tW (λl=>l[k]?) em
  have e2:(v'.ps.map (·.2))[k]?=(v.ps.map λq=>bhP (wsV v) (λ_=>none) q.2)[k]?:=e2
  rw[getElem?_map,getElem?_map]at e2
  cases e3:v'.ps[k]? with
  | none=>rw[e3]at w;cases w
  | some q'=>
    rw[e3]at w e2
    have w:decide (q'.2.1=Wd.waiting)=true:=w
    cases e4:v.ps[k]? with
    | none=>rw[e4]at e2;cases e2
    | some q=>
      rw[e4]at e2
      have e2:q'.2=bhP (wsV v) (λ_=>none) q.2:=tL e2
      have w':=tP w
      rw[e2]at w'
      exact decide_eq_true (zmO (hw q (tE e4)) w')
 ·rw[Bool.eq_false_iff.mpr w]
  rfl
inductive Dqs(K:am)(H:Hp)(n:Nat):List V->List V->Prop where
 | nil:Dqs K H n [] []
 | cons {x y:V} {xs ys:List V}:Deq K H n x y->Dqs K H n xs ys->Dqs K H n (x::xs) (y::ys)
theorem zjw{H:Hp}{n:Nat}:∀{xs ys:List V},Dqs K H n xs ys->∀(j:Nat) u v,xs[j]?=some u->ys[j]?=some v->Deq K H n u v
 | _,_,.nil,j,u,v,h,_=>by simp at h
 | _,_,.cons d r,0,u,v,h,h'=>by
   cases h
   cases h'
   exact d
 | _,_,.cons d r,j+1,u,v,h,h'=>zjw r j u v h h'
def zmW{H:Hp}{p p' m m':Addr}{t:Int}{ns:List Int}(h:H p=some (.tup [.int t,.ref m]))(h':H p'=some (.tup [.int t,.ref m']))(g:H m=some (.lst (ns.map V.int)))(g':H m'=some (.lst (ns.map V.int))):zqM K 9 (.ref p) (.ref p') H:=by
 obtain⟨a,b,xs,ys,ea,eb,hs,hl,hd⟩:=zid (K:=K) (n:=8) g g'
 cases ea
 cases eb
 rcases hs with⟨hs,_⟩ | ⟨hs,hs'⟩
 ·exact⟨p,p',_,_,rfl,rfl,.inl ⟨SqT.of h,SqT.of h'⟩,rfl,zjw (.cons (Deq.int _ _) (.cons (.inr ⟨m,m',xs,ys,rfl,rfl,.inl ⟨hs,by assumption⟩,hl,hd⟩) .nil))⟩
 ·exact⟨p,p',_,_,rfl,rfl,.inl ⟨SqT.of h,SqT.of h'⟩,rfl,zjw (.cons (Deq.int _ _) (.cons (.inr ⟨m,m',xs,ys,rfl,rfl,.inr ⟨hs,hs'⟩,hl,hd⟩) .nil))⟩
inductive zsr(K:am)(cs:CsA)(cS cH tT:Addr)(vs:List V)(H:Hp)(Q:VK)(_:XK):Prop
 | mk (o l:Addr) (v:Hv) (tl:Int->Int) (km k:Nat) (rs:List SR) (hd:Int) (bs:List (Addr × Cl)) (_:vs=[.ref o,.ref l,.int hd,.int k]) (_:HJ cs cS cH tT H o v tl km rs hd) (_:RwV H v) (_:IsCs K H l bs) (_:bs.map (·.2)=clV v.rs v.ps) (_:k<=8) (_:v.t<=900) (_:km<=900) (_:∀H',Q (.bl true) H')
def zbz:FnScope ["_law_house","_law_claims","_law_hands","_law_turns","_law_lap","_law_now","_law_here","_law_due"] pl43 (zac zdl):=fsc
include T in
theorem ziy(D:Dfn K mg "_law_gone_on" zdl pl43 f fd)(aE:Cal P w K mg bj "_law_order" 3 pl38 (zmT K))(zct:Cal P w K mg bj "_law_same" 4 pl39 (zlF K))(zfh:Cal P w K mg bj "_law_still" 7 pl42 (zqg K (CsA.mk Aa Ad Ab) Ae Ac))(DK:MOk CX0 P w K mg bj 1 Ac "now" (zpV (CsA.mk Aa Ad Ab) Ae Ac))(Am:MOk2 CX0 P w K mg bj 11 Ac "pass_turn" .non (.int 0) (zkD K (CsA.mk Aa Ad Ab) Ae Ac tT))(Cb:MOk CX0 P w K mg bj 2 Ac "rows_done" (zpW (CsA.mk Aa Ad Ab) Ae Ac))(An:MOk CX0 P w K mg bj 10 Ac "waiting" (bg K (CsA.mk Aa Ad Ab) Ae Ac tT)):Cal P w K mg bj "_law_gone_on" 12 pl43 (zsr K (CsA.mk Aa Ad Ab) Ae Ac tT):=by
 refine D.cal (D.F.ok zbz (by walk_at "z") (λc A o s H vs Q E hr h=>?_))
 obtain⟨o,l,v,tl,km,k,rs,hd,bs,rfl,hj,R,hC,eb,k8,t9,k9,q⟩:=h
 refine⟨_,(zab (zcL tY rfl (zjF rfl T.zpr (zaa (pv 3) zae)) (ay (i:=4) zbz.nd rfl (Or.inl rfl)) (zab (zam (i:=5) zbz.nd rfl (Or.inl rfl) (zaO (k:=1) (pv 0) hr.o zaT))
  (zab (zam (i:=6) zbz.nd rfl (Or.inl rfl) (zai aE hr.o rfl (zaa (zai zfh hr.o rfl (zaa (pv 0) (zaa (pv 1) zae))) (zaa (pv 5) zae))))
  (zab (zaQ (zbi (zaR (zai zct hr.o rfl (zaa (zaO (k:=10) (pv 0) hr.o zaT) (zaa (zaN (N:=["_law_claim"]) (js:=[]) rfl cpo (zaB (pv 6)) (λ_ _ _ _ _=>zbx) (λ_ _ _ _ _=>(zak (r:=rIxT K) zah (pv 0) zad (λ_ _=>rfl)))) zae))))) (zaf (zaj zdG)) zat)
  (zab (zam (i:=7) zbz.nd rfl (Or.inl rfl) (zaK (zaa (pv 5) (zaa (zaN (N:=["_law_claim"]) (js:=[]) rfl cpo (zaB (zco zcO (pv 6) zdJ (zcU (pv 2)))) (λ_ _ _ _ _=>zbx) (λ_ _ _ _ _=>(zak (r:=rIxT K) zah (pv 0) zad (λ_ _=>rfl)))) zae))))
  (zaf (zaQ (PW.pt (zhi (zan (zmh 9 hr.units9) (zpq (k:=11) (pv 0) hr.o zaT) (pv 7) (zas _)) (zhi (zan (zmh 9 hr.units9) (zak zbc (zaO (k:=2) (pv 0) hr.o zaT) (znS zjH zad) (λ_ _=>rfl)) (pv 7) (zas _)) (zfl (zan zqp (zaO (k:=1) (pv 0) hr.o zaT) (zaz aw (pv 5) zad) (zas _)))))) (zaf (zaj zdG)) zat)))))))
  (zaf (zaj zdG))),?_⟩
 have e62:(100:Int)<2 ^ 62:=by decide
 refine⟨_,rfl,k,rfl,by omega,by omega,?_⟩
 rw[show((k:Int)).toNat=k by omega]
 refine znR (λi σ H'=>∃(v4 v5 v6 v7:Option V)(v':Hv),σ=[some (.ref o),some (.ref l),some (.int hd),some (.int k),v4,v5,v6,v7]/\HJ (CsA.mk Aa Ad Ab) Ae Ac tT H' o v' tl km rs hd/\RwV H' v'/\IsCs K H' l bs/\Cls_ v' (bs.map (·.2))/\v'.t=v.t+(i:Int)) ⟨_,_,_,_,v,rfl,hj,R,hC,by rw[eb];exact Cls_.now hj.p,by omega⟩ ?_ ?_
 ·rintro i σ H1 il ⟨v4,v5,v6,v7,v',rfl,hj1,R1,hC1,hc1,et⟩
  obtain⟨dx,e⟩:=hj1.hh.at_
  obtain⟨fs,efs⟩:∃fs,fs=bs.filter λb=>wtg v' b.2.n:=⟨_,rfl⟩
  have ef:fs.map (·.2)=clV v'.rs v'.ps:=by
   rw[hc1.eq,efs,sM]
   rfl
  have wl:∀{u:Hv},PsOk u.rs u.ps->(clV u.rs u.ps).length<=40:=λ{u} p=>by
   unfold clV
   rw[tm]
   exact p.len_w .waiting rfl
  have bl:bs.length<=40:=by
   have:=tW List.length eb
   rw[tm]at this
   rw[this]
   exact wl hj.p
  have fl:fs.length<=40:=by
   rw[efs]
   exact tU (sf _ _) bl
  have G:Good (fs.map (·.2)):=by rw[ef];exact hj1.p.good
  refine⟨_,rfl,o,_,dx,_,_,rfl,e,rfl,DK,o,v',rfl,hj1.hh,?_⟩
  refine⟨_,rfl,_,rfl,o,l,v',km,bs,rfl,hj1.hh,hC1,bl,λb hb=>hc1.lt b.2 (mem_map.mpr ⟨b,hb,rfl⟩),hj1.nb,by omega,λD2 H2 s2 n2 hD2=>?_⟩
  rw[<-efs]at hD2
  refine⟨_,rfl,D2,fs,v'.t,rfl,hD2,G,fl,λm3 H3 s3 n3 h3=>?_⟩
  have s13:=s2.trans s3
  have hj3:=hj1.same s13
  have c3:=hD2.same s3
  have ol:(ordP fs v'.t).length<=40:=by rw[zjv];exact fl
  refine⟨_,rfl,o,_,dx,_,_,rfl,s13 _ _ e,rfl,An,o,v',rfl,hj3.hh,hj3.p,hj3.t0,by omega,λq hq _=>hj3.ca q hq,hj3.hT,λw4 H4 s4 n4 h4=>?_⟩
  refine⟨_,rfl,m3,rfl,⟨_,SqL.of (s4 _ _ h3)⟩,zdb (s4 _ _ h3) (λz hz=>(c3.cl z (zdf.mp hz)).same s4) ol (λ_ _ _ q=>q) (λa n xs Hh Q' hs q=>⟨_,rfl,a,_,_,_,rfl,rfl,hs,aL _ _,q⟩) (λD5 H5 s5 n5 h5=>?_)⟩
  rw[zdc,ef]at h5
  have nl5:((ord (clV v'.rs v'.ps) v'.t).map (·.n)).length<=1000-1:=by
   rw[tm,(zaU _ _).length_eq]
   exact tU (wl hj1.p) (by decide)
  refine⟨w4,D5,_,rfl,s5 _ _ h4,h5,nl5,λH6 s6=>⟨_,rfl,iteF ?_⟩⟩
  have s36:=s4.trans (s5.trans s6)
  have h6:=s36 _ _ h3
  have hd0:=hj1.h0
  refine⟨_,rfl,_,rfl,_,rfl,_,rfl,m3,_,rfl,SqL.of h6,λc7 H7 s7 n7 h7=>?_⟩
  have h7:H7 c7=some (.lst (((ordP fs v'.t).take hd.toNat).map λq=>V.ref q.1)):=by
   rw[h7,show hd=((hd.toNat:Nat):Int) by omega,zmF,pB]
   rfl
  refine⟨c7,rfl,⟨_,SqL.of h7⟩,zdb h7 (λz hz=>(c3.cl z (zdf.mp (qz hz))).same (s36.trans s7)) (by rw[sj];omega) (λ_ _ _ q=>q) (λa n xs Hh Q' hs q=>⟨_,rfl,a,_,_,_,rfl,rfl,hs,aL _ _,q⟩) (λD8 H8 s8 n8 h8=>⟨si2,λp9 H9 s9 n9 h9=>?_⟩)⟩
  have h8:H8 D8=some (.lst ((wsV v').map V.int)):=by
   rw[h8,pB,zdc,ef]
   unfold wsV
   rw[hj1.ehd]
  have s39:=s36.trans (s7.trans (s8.trans s9))
  have s19:=s13.trans s39
  have hj9:=hj1.same s19
  have e9:=s19 _ _ e
  have hD9:=s9 _ _ h8
  have h9':v'.h<=40:=by rw[hj1.ehd];have:=hj1.h6;omega
  refine⟨_,rfl,o,_,dx,_,_,_,_,rfl,e9,rfl,Am,o,v',.non,λ_=>none,rfl,hj9.hh,hj9.ok (by omega),by omega,h9',λq hq _=>hj9.ca q hq,hj9.hT,.inl ⟨rfl,λ_=>rfl⟩,λn z=>(by cases z),λps' l' lr p m H10 rt em kb nl nr hh' hp hm=>?_⟩
  have kl:∀{z:Addr}{xs:List V},H9 z=some (.lst xs)->H10 z=some (.lst xs):=λhz=>kb _ _ (λy=>by rw[y,e9]at hz;cases hz) (λ_ w=>by cases w) hz
  have kt:∀{z:Addr}{xs:List V},H9 z=some (.tup xs)->H10 z=some (.tup xs):=λhz=>kb _ _ (λy=>by rw[y,e9]at hz;cases hz) (λ_ w=>by cases w) hz
  refine⟨_,rfl,zmW hp (kt h9) hm (kl hD9),_,rfl,iteF ?_⟩
  have hj10:=hj9.pass (.inl ⟨rfl,λ_=>rfl⟩) em kb hh'
  obtain⟨rs9,R9⟩:=R1.same s19
  obtain⟨p2,m2,R10⟩:=rt.run R9 kl kt
  have len10:(rs9++[(p2,m2,v'.t,wsV v')]).length<=2000:=by
   obtain⟨rw,r1,r2⟩:=hj9.hh.p.rw
   have z:=R9.at_
   rw[r1]at z
   cases z
   rw[tm]at r2
   rw[tR,r2]
   show v'.t.toNat+1<=2000
   omega
  obtain⟨dx',e10⟩:=hj10.hh.at_
  refine⟨_,rfl,o,_,dx',_,_,rfl,e10,rfl,Cb,o,_,_,rfl,hj10.hh,R10,len10,λD11 H11 rs11 s11 R11 e11=>?_⟩
  obtain⟨z,ez,fz⟩:∃z,rs11.getLast?=some z/\z.2.2=(v'.t,wsV v'):=by
   have:=tW List.getLast? e11
   rw[pX,t4,t3,map_nil,List.getLast?_concat]at this
   cases ez:rs11.getLast? with
   | none=>rw[ez]at this;cases this
   | some z=>
     rw[ez]at this
     exact⟨z,rfl,tL this⟩
  have zm:=ph ez
  have z1:=R11.row z zm
  have z2:=R11.num z zm
  rw[fz]at z1 z2
  refine⟨_,rfl,D11,_,_,_,rfl,rfl,SqL.of R11.at_,zsp (by rw[pX,ez];rfl),_,rfl,zmW z1 (s11 _ _ (kt h9)) z2 (s11 _ _ (kl hD9)),_,rfl,iteF ?_⟩
  have hj11:=hj10.same s11
  refine⟨_,rfl,o,_,dx',_,_,rfl,s11 _ _ e10,rfl,DK,o,_,rfl,hj11.hh,_,rfl,_,_,rfl,rfl,rfl,_,rfl,?_⟩
  rw[decide_eq_true rfl]
  refine iteF ⟨_,_,_,_,{ v' with ps:=ps',aP:=l',aR:=lr,t:=v'.t+1 },rfl,hj11,⟨_,R10.same s11⟩,(ztC (hC1.same s19) kl kt).same s11,hc1.pass hj1.p hj10.p rfl em,?_⟩
  show v'.t+1=v.t+((i+1:Nat):Int)
  omega
 ·rintro σ H9 ⟨v4,v5,v6,v7,v',rfl,_⟩
  exact q H9
def zvl{cs:CsA}{cS cH tT:Addr}{H:Hp}{o:Addr}{v:Hv}{rs:List SR}{hd:Int}(hh:IsHs cs cS cH H o v)(hT:H tT=some (.tbl zba lamQ))(nw:New v rs hd)(h0:0<hd)(h6:hd<=6)(l8:rs.length<=8)(ok:∀r,r∈rs->r.Ok):HJ cs cS cH tT H o v (λ_=>0) 0 rs hd:=by
 have ep:=nw.ps
 have en:=nw.nb
 have no:∀{P:Addr × Wd × Pv->Prop} q,q∈v.ps->P q:=λq hq=>by rw[ep]at hq;simp at hq
 refine⟨hh,hT,nw.rs,nw.h,h0,h6,⟨by rw[nw.rs];exact l8,by rw[nw.rs];exact ok,λi q hq=>by rw[ep]at hq;simp at hq,no,no,by rw[ep];exact tV _,by rw[ep];exact tV _⟩,no,no,by rw[nw.t];exact rA _,no,λn x h=>(by rw[en]at h;cases h),by rw[en];exact tF _⟩
def zrt(xs:List V)(a b:Nat):(cutV xs (some (a:Int)) (some (b:Int))).length<=b-a:=by
 unfold cutV
 rw[HT.sIx_nat,HT.sIx_nat,sj,qD]
 omega
def aF:FnScope ["_law_script","_law_state","_law_rows","_law_hands","_law_house","_law_cell_here","_law_claims","_law_now","_law_order_here","_law_more","_law_far"] ["_law_script"] (zac znn):=fsc
include T in
theorem zvm(D:Dfn K mg "law" znn ["_law_script"] f fd)(zeh:Cal P w K mg bj "_law_cell" 1 pl32 (zsm K))(zbC:Cal P w K mg bj "_law_begun" 1 pl34 zlE)(zay:Cal P w K mg bj "_law_pull" 2 pl35 zkH)(aE:Cal P w K mg bj "_law_order" 3 pl38 (zmT K))(zct:Cal P w K mg bj "_law_same" 4 pl39 (zlF K))(zfi:Cal P w K mg bj "_law_sorts" 4 ["_law_state"] zqe)(zgJ:Cal P w K mg bj "_law_deed" 17 pl40 (zqf (CsA.mk Aa Ad Ab) Ae Ac tT))(zcI:Cal P w K mg bj "_law_far_right" 10 pl41 (zvk K tT))(zdB:Cal P w K mg bj "_law_gone_on" 12 pl43 (zsr K (CsA.mk Aa Ad Ab) Ae Ac tT))(DL:MakG CX0 P w K mg bj "House" Ac 9 (zpO (CsA.mk Aa Ad Ab) Ae Ac))(Aw:MOk CX0 P w K mg bj 9 Ac "claims_now" (zlC K (CsA.mk Aa Ad Ab) Ae Ac))(DK:MOk CX0 P w K mg bj 1 Ac "now" (zpV (CsA.mk Aa Ad Ab) Ae Ac))(An:MOk CX0 P w K mg bj 10 Ac "waiting" (bg K (CsA.mk Aa Ad Ab) Ae Ac tT)):FnOk P w K mg bj CX0 18 f fd ["_law_script"] (zol K tT):=by
 refine D.F.ok aF (by walk_at "z") (λc A o s H vs Q E hr h=>?_)
 obtain⟨a,ns,rfl,hS,h63,hT,q⟩:=h
 refine⟨_,(zab (zam (i:=1) aF.nd rfl (Or.inl rfl) (zai zbC hr.o rfl (zaa (zai zeh hr.o rfl (zaa (pv 0) (zaa zad zae))) zae)))
  (zab (zam (i:=2) aF.nd rfl (Or.inl rfl) (zai zfi hr.o rfl (zaa (pv 1) zae)))
  (zab (zam (i:=3) aF.nd rfl (Or.inl rfl) (zaz aw zad (zai zay hr.o rfl (zaa (pv 1) (zaa zad zae)))))
  (zab (zam (i:=4) aF.nd rfl (Or.inl rfl) (zhM DL hr.o rfl zaT (zaa (zfm zhy rfl T.zhS zer (zaa (pv 2) zae)) (zaa (pv 3) zae))))
  (zab (zcL tY rfl (zaB (zco zcO (pv 0) (zcU zad) (zcU zad))) (ay (i:=5) aF.nd rfl (Or.inl rfl)) (zaf (zbw (zai zgJ hr.o rfl (zaa (pv 4) (zaa (pv 2) (zaa (pv 5) zae)))))))
  (zab (zam (i:=6) aF.nd rfl (Or.inl rfl) (zaO (k:=9) (pv 4) hr.o zaT))
  (zab (zam (i:=7) aF.nd rfl (Or.inr rfl) (zaO (k:=1) (pv 4) hr.o zaT))
  (zab (zet (i:=8) (N:=["_law_claim"]) (js:=[]) aF.nd rfl rfl rfl cpo (zaB (zai aE hr.o rfl (zaa (pv 6) (zaa (pv 7) zae)))) (λ_ _ _ _ _=>zbx) (λ_ _ _ _ _=>(zak (r:=rIxT K) zah (pv 0) zad (λ_ _=>rfl))))
  (zab (zaQ (PW.pt (zhi (zbi (zaR (zai zct hr.o rfl (zaa (zaO (k:=10) (pv 4) hr.o zaT) (zaa (pv 8) zae))))) (zfl (zan (zoX hr.units0) (zaN (N:=["_law_claim","_law_now"]) (js:=[7]) rfl cpo (zaB (pv 6)) (λ_ _ _ _ _=>(zcN (zan zei (zak (r:=rIxT K) zah (pv 0) zad (λ_ _=>rfl)) (pv 1) (zas _)))) (λ_ _ _ _ _=>(pv 0))) (az zae) (zas _))))) (zaf (zaj zdG)) zat)
  (zab (zam (i:=9) aF.nd rfl (Or.inl rfl) (zai zbC hr.o rfl (zaa (zai zeh hr.o rfl (zaa (pv 0) (zaa zad zae))) zae)))
  (zab (zam (i:=10) aF.nd rfl (Or.inl rfl) (zaz aw (pv 7) (zai zay hr.o rfl (zaa (pv 9) (zaa (zak zbc (az (zaa zad (zaa (zaz bB zad zad) (zaa (zaz zel (zaz bB zad zad) zad) zae)))) (zai zay hr.o rfl (zaa (pv 9) (zaa zad zae))) (λ_ _=>rfl)) zae)))))
  (zab (zaQ (zbi (zaR (zai zcI hr.o rfl (zaa (pv 6) (zaa (pv 7) (zaa (pv 10) zae)))))) (zaf (zaj zdG)) zat)
  (zaf (zaj (zai zdB hr.o rfl (pai (zag (pv 4) (zag (pv 6) (zag (pv 3) (zag (zaz aw zad (zai zay hr.o rfl (zaa (pv 9) (zaa zad zae)))) zbd)))))))))))))))))))),?_⟩
 refine⟨_,rfl,a,ns,0,rfl,hS,by decide,λx=>⟨x,rfl,λst H1 s1 n1 S1=>?_⟩⟩
 have nt:∀{c:Addr}{u:HO},H c=some u->c≠st:=λhc z=>by rw[z,n1]at hc;cases hc
 refine⟨_,rfl,st,rfl,S1,λl xs H2 k2 S2 nl hx ro x4=>?_⟩
 refine⟨_,rfl,st,3,rfl,S2,by decide,by decide,λr H3 k3 S3 r0 r3=>⟨_,_,rfl,rfl,?_⟩⟩
 have mv:IsSRs H3 l xs:=by
  obtain⟨_,_,_,e⟩:=S2.ex
  exact hx.but k3 e (λ_ w=>by cases w) (S1.ne nl)
 refine⟨_,rfl,l,_,rfl,.inl (SqL.of mv.at_),λl2 H4 s4 n4 h4=>?_⟩
 have mv4:=mv.same s4
 refine⟨_,rfl,l2,xs,1+r,rfl,⟨h4,mv4.sr⟩,ro,by omega,by omega,λo H5 v s5 n5 hh nw=>?_⟩
 have k05:∀{c:Addr}{u:HO},H c=some u->H5 c=some u:=λhc=>s5 _ _ (s4 _ _ (k3 _ _ (nt hc) (k2 _ _ (nt hc) (s1 _ _ hc))))
 have hS5:SqL K H5 a (ns.map V.int):=Same.seq (λc u hc=>k05 hc) hS
 have hj5:=zvl hh (k05 hT) nw (by omega) (by omega) (by rw[tm];omega) (λr hr=>by obtain⟨z,hz,rfl⟩:=mem_map.mp hr;exact(ro.ok z.2 (mem_map.mpr ⟨z,hz,rfl⟩)).low)
 have hx5:=mv4.same s5
 have R5:RwV H5 v:=by
  obtain⟨rw,r1,r2⟩:=hh.p.rw
  rw[nw.t]at r2
  have:rw=[]:=rN r2
  rw[this]at r1
  exact⟨[],r1,λr hr=>(by simp at hr),λr hr=>(by simp at hr)⟩
 refine⟨_,rfl,_,rfl,_,rfl,a,_,rfl,hS5,λl6 H6 s6 n6 h6=>⟨l6,rfl,⟨_,SqL.of h6⟩,?_⟩⟩
 obtain⟨ms,ems⟩:=zqY ns (some 2) (some 12)
 have ml:ms.length<=10:=by
  have:=zrt (ns.map V.int) 2 12
  rw[show cutV (ns.map V.int) (some ((2:Nat):Int)) (some ((12:Nat):Int))=ms.map V.int from ems,tm]at this
  exact this
 rw[ems]at h6
 refine zcn (K:=K) (a:=l6) (xs:=ms.map V.int) (λi σ H'=>∃(v5:Option V)(v:Hv)(tl:Int->Int)(km:Nat),σ=[some (.ref a),some (.ref st),some (.ref l),some (.int (1+r)),some (.ref o),v5,none,none,none,none,none]/\HJ (CsA.mk Aa Ad Ab) Ae Ac tT H' o v tl km (xs.map (·.2.low)) (1+r)/\Kls H6 H'/\v.t<=3*i/\v.ps.length<=i/\km<=i/\RwV H' v) ⟨_,v,_,0,rfl,hj5.same s6,zeg (Same.refl _),by rw[nw.t];decide,by rw[nw.ps];exact tF _,tF _,R5.same s6⟩ (λi σ H' _ ⟨_,_,_,_,_,_,k,_⟩=>SqL.of (k.l h6)) ?_ ?_
 ·rintro i y σ H7 hy ⟨v4,v,tl,km,rfl,hj,kk,b1,b2,b3,rv⟩
  obtain⟨w,hw,rfl⟩:=mem_map.mp (tE hy)
  have il:i<ms.length:=by
   have:=(List.getElem?_eq_some_iff.mp hy).1
   rw[tm]at this
   exact this
  exact⟨_,rfl,_,rfl,_,rfl,o,l,w,v,tl,km,1+r,xs,rfl,hj,kk.srs (hx5.same s6),ro,x4,by omega,by omega,by omega,λH8 v' tl' km' k8 hj8 c1 c2 c3 rv'=>⟨_,v',tl',km',rfl,hj8,kk.trans k8,by omega,by omega,by omega,rv' rv⟩⟩
 clear hj5 hh nw R5 v
 rintro σ H7 ⟨v5,v,tl,km,rfl,hj,kk,b1,b2,b3,R7⟩
 rw[tm]at b1 b2 b3
 have hS7:=kk.sq (s6.seq hS5)
 obtain⟨dx,e⟩:=hj.hh.at_
 refine⟨_,rfl,o,_,dx,_,_,rfl,e,rfl,Aw,o,v,rfl,hj.hh,hj.p,λlc H8 bs s8 n8 hC8 eb=>?_⟩
 have hj8:=hj.same s8
 have bl:bs.length<=10:=by
  have:=tW List.length eb
  unfold clV ofW at this
  rw[tm,tm]at this
  rw[this]
  exact tU (sf _ _) (by omega)
 have G:Good (bs.map (·.2)):=by rw[eb];exact hj.p.good
 have ca:∀b,b∈bs->b.2.came<=v.t:=λb hb=>by
  have:b.2∈bs.map (·.2):=mem_map.mpr ⟨b,hb,rfl⟩
  rw[eb]at this
  obtain⟨z,hz,ez⟩:=mem_map.mp this
  rw[<-ez]
  exact hj.ca z (zcG.mp hz).1
 refine⟨_,rfl,o,_,dx,_,_,rfl,s8 _ _ e,rfl,DK,o,v,rfl,hj8.hh,?_⟩
 refine⟨_,rfl,_,rfl,lc,bs,v.t,rfl,hC8,G,by omega,λm9 H9 s9 n9 h9=>⟨m9,rfl,⟨_,SqL.of h9⟩,zdb h9 (λz hz=>(hC8.cl z (zdf.mp hz)).same s9) (by rw[zjv];omega) (λ_ _ _ q=>q) (λa n xs Hh Q' hs q=>⟨_,rfl,a,_,_,_,rfl,rfl,hs,aL _ _,q⟩) (λD10 H10 s10 n10 h10=>?_)⟩⟩
 rw[zdc,eb]at h10
 have s810:=s9.trans s10
 have hj10:=hj8.same s810
 refine⟨_,rfl,o,_,dx,_,_,rfl,s810 _ _ (s8 _ _ e),rfl,An,o,v,rfl,hj10.hh,hj.p,hj.t0,by omega,λq hq _=>hj.ca q hq,hj10.hT,λw11 H11 s11 n11 h11=>?_⟩
 have nl11:((ord (clV v.rs v.ps) v.t).map (·.n)).length<=1000-1:=by
  rw[<-eb,tm,(zaU _ _).length_eq,tm]
  omega
 refine⟨_,rfl,w11,D10,_,rfl,h11,s11 _ _ h10,nl11,λH12 s12=>⟨_,rfl,iteF ?_⟩⟩
 have s812:=s810.trans (s11.trans s12)
 have hC12:=hC8.same s812
 have mb:(bs.map λb=>V.ref b.1).length=bs.length:=tm _
 refine⟨_,rfl,lc,rfl,⟨_,SqL.of hC12.at_⟩,?_⟩
 refine zaS (xs:=bs.map λb=>V.ref b.1) (λ_=>false) (λ_=>.non) (SqL.of hC12.at_) (λi x Hh Q' hx sh q'=>?_) (λi x Hh Q' _ z=>by cases z) (zax (by rw[mb];omega)) (λD13 H13 s13 n13 h13=>?_)
 ·obtain⟨b,ei,hx⟩:=gmp hx
  cases hx
  have hb:=tE ei
  obtain⟨pw,pz,z1,_,_⟩:=((hC12.cl b hb).same sh).ex
  refine⟨_,rfl,b.1,_,_,_,rfl,rfl,SqT.of z1,rfl,_,rfl,_,_,rfl,rfl,_,rfl,?_⟩
  have z:=q' Hh (Same.refl _)
  rw[tS (show ¬v.t<b.2.came by have:=ca b hb;omega)]
  exact z
 rw[bZ]at h13
 refine⟨si0,λle H14 s14 n14 h14=>⟨D13,le,_,rfl,rfl,SqL.of (s14 _ _ h13),SqL.of h14,_,rfl,iteF ?_⟩⟩
 have s814:=s812.trans (s13.trans s14)
 have s714:=s8.trans s814
 have hj14:=hj.same s714
 have hC14:=hC8.same s814
 refine⟨_,rfl,a,ns,1,rfl,s714.seq hS7,by decide,λx1=>⟨x1,rfl,λst2 H15 s15 n15 S15=>?_⟩⟩
 refine⟨_,rfl,_,rfl,_,_,rfl,rfl,⟨by decide,by decide,by decide⟩,_,_,rfl,rfl,⟨by decide,by decide,by decide⟩,_,_,rfl,rfl,si3,λl16 H16 s16 n16 h16=>⟨_,rfl,st2,3,rfl,S15.same s16,by decide,by decide,λr17 H17 k17 S17 r170 r171=>?_⟩⟩
 obtain⟨w17,e17,z17⟩:=at_3 (.int 20) (.int ((10:Int) ^ (6:Int).toNat)) (.int ((10:Int) ^ (15:Int).toNat-1000)) r170 r171
 have z17:∃m:Int,w17=.int m/\1<=m/\m<=999999999999000:=by
  rw[zwb,pow6]at z17
  rcases z17 with rfl | rfl | rfl
  all_goals exact⟨_,rfl,by decide,by decide⟩
 obtain⟨m,rfl,m0,m1⟩:=z17
 refine⟨l16,_,_,_,rfl,rfl,SqL.of (k17 _ _ (S15.ne n16) h16),e17,st2,m,rfl,S17,by omega,by omega,λr18 H18 k18 S18 r180 r181=>⟨_,_,rfl,rfl,?_⟩⟩
 have sB:Same H14 H18:=((s15.trans s16).but n15 k17).but n15 k18
 have hj18:=hj14.same sB
 refine⟨_,rfl,_,rfl,_,rfl,lc,bs,v.t,v.t+r18,rfl,hC14.same sB,G,by omega,hj18.hT,hj.t0,ca,by omega,by omega,λH19 s19=>⟨_,rfl,iteF ?_⟩⟩
 refine⟨_,rfl,_,rfl,_,rfl,_,rfl,st2,8,rfl,S18.same s19,by decide,by decide,λr20 H20 k20 S20 r200 r208=>⟨_,_,rfl,rfl,?_⟩⟩
 have sC:Same H14 H20:=(sB.trans s19).but n15 k20
 obtain⟨j,rfl⟩:∃j:Nat,r20=j:=⟨r20.toNat,by omega⟩
 exact⟨o,lc,v,tl,km,1+j,_,1+r,bs,by show[V.ref o,V.ref lc,V.int (1+r),V.int (1+(j:Int))]=_;rw[show(1:Int)+(j:Int)=((1+j:Nat):Int) by omega],hj14.same sC,(R7.same s714).same sC,hC14.same sC,eb,by omega,by omega,by omega,λH'=>q H'⟩
end
theorem all_mk{l:W.OpenLaw}{w:World}{K:am}{h:Heap}{mg:af}{fa Bg Au Aa Ad Ab AJ Aj Ae Av Ag Af Ac:Addr}(X:K.In h)(G:h.Ns mainGlobals mg)(hfa:mg "law" = some (.ref fa))
 (d0:DAt K "is_whole" zgc Jb Jc Jd Je Jf bN Jg Jh Ji Jj)
 (d1:DAt K "all_between" zdg Jk Jl Jm Jn Jo Jp Jq Jr Js Jt)
 (d2:DAt K "is_name" zhO Ju Jv Jw Jx Jy Jz JA JB JC JD)
 (d3:DAt K "common_divisor" zce JE JF JG JH JI JJ JK JL JM JN)
 (d4:DAt K "lowest" zjc JO JP JQ JR JS JT JU JV JW JX)
 (d5:DAt K "compared" zgd JY JZ J0 J1 J2 J3 J4 J5 J6 J7)
 (d6:DAt K "is_weight" zew J8 J9 Ka Kb Kc Kd Ke Kf Kg Kh)
 (d7:DAt K "weight_after" zcV Ki Kj Kk Kl Km Kn Ko Kp Kq Kr)
 (d8:DAt K "weight_at" zex Ks Kt Ku Kv Kx Ky Kz KA KB KC)
 (d9:DAt K "ahead_of_equals" zbX KD KF KG KH KI KJ KM KN KO KP)
 (d10:DAt K "ahead" zlk fZ gb gf gg gh gi gj gk gp gq)
 (d11:DAt K "difference" zdP gr gt gv gw gz gB gC gD gE gF)
 (d12:DAt K "turns_to_pass" zcu gG gH gJ gK gL gM gN gO gP gQ)
 (d13:DAt K "passing" zhP gR gS gT gU gW gX gY gZ g7 g8)
 (d14:DAt K "check_turn" zdQ g9 hU hV hW hX hZ ia ib ic ie)
 (d15:DAt K "common_bottom" zcv ig ii io ip iq ir iu iw iz iA)
 (d16:DAt K "place_key" zey iB iC iD iE iF iG iH iI iJ iK)
 (d17:DAt K "claims_in_order" zaF cw cx cy bh bi bo bq bu bv cA)
 (d18:DAt K "numbers_in_order" zbJ iL iM iN iO iP iQ iR iS iT iU)
 (d19:DAt K "order_at" zge iV iW iX iY iZ i4 i5 i6 i7 i8)
 (d20:DAt K "passings_behind" zbY i9 jc jd je jg jh jj jm jn jo)
 (d21:DAt K "changes" zhQ jp jq jr jt ju jv jw jx jy jz)
 (d22:DAt K "next_change" zdh jA jB jC jD jE jF jG jH jI jJ)
 (d23:DAt K "last_turn" zez jK jL jM jN jO jP jQ jR jS jT)
 (d24:DAt K "for_ever" zgf jU jV jW jX jY jZ j3 j4 j5 j6)
 (d25:DAt K "numbers_worked" zcf j7 j8 j9 kd ke kg kh ki ko kq)
 (d26:DAt K "chores_behind" zcw kr ku kx ky kz kD kG kH kK kN)
 (d27:DAt K "turn_done" zeA kO kP kQ kR kT kU kW kX kY kZ)
 (d28:DAt K "chores_taken" zcW la lg lh lj lm ly lA lB lC lE)
 (a29:W.nsIn K mainGlobals "run_of" = some (some (.ref bx))) (l29:K.lookup bx=some ⟨lF,lG,.func (W.fnOf "run_of" "run_of" (zav zdi) (zap zdi) (zac zdi) (.ref cB) lH lI lJ lK cC lL),lM⟩) (c29:W.codeIn K cC "run_of" = true) (k29:W.keepIn K (.ref bx)=true) (t29:K.lookup cB=some cD) (u29:Obj.data cD=.seq #[.none] lN)
 (d30:DAt K "is_piece_of" zdj lO lP lQ lR lT lU lV lW lY lZ)
 (d31:DAt K "check_piece" zdk ma me mf mh mj mn mq my mz mB)
 (d32:DAt K "last_turns" zdR mC mE mF mG mH mI mJ mK mL mM)
 (d33:DAt K "latest_all" zdS mO mP mQ mR mS mT mU mV mW mY)
 (d34:DAt K "latest_of" zeB mZ na nh nq nu nv nA nH nI nJ)
 (d35:DAt K "kept_all" zgg nL nM nN nP nQ nS nU nV nX nY)
 (d36:DAt K "claim_of" zgh nZ oj om oo oq ou oy oA oB oC)
 (d37:DAt K "chore_of" zgi oE oG oH oI oJ oK oM oN oO oP)
 (d38:DAt K "is_row" zjd oQ oR oS oU oV oW oX oY oZ ua)
 (d39:DAt K "are_rows" zgj ub uc ud ue uf ug uh ui uj uk)
 (d40:DAt K "in_lowest" zeC ul um uo uq ur ut uw ux uy uz)
 (d41:DAt K "sort_from" zeD uA uB uC uD uE uF uG uH uI uJ)
 (d42:DAt K "own_rows" zgk uK uL uM uN uO uP uQ uR uS uT)
 (d43:DAt K "chores_of" zeE uU uV uW uX uY uZ u6 u7 u8 u9)
 (d44:DAt K "check_ends" zdT va vb vc vd ve vf vg vh vi vj)
 (d45:DAt K "piece_behind" zcX vk vm vo vp vq vt vw vx vy vz)
 (d46:DAt K "_law_cell" zgl vA vB vC vD vE vF vG vH vI vJ)
 (d47:DAt K "_law_mix" zhR vK vL vM vN vO vP vQ vR vS vT)
 (d48:DAt K "_law_begun" zeF vU vV vW vX vY vZ wa wc we wf)
 (d49:DAt K "_law_pull" zgm wg wj wm wn wu wv ww wx wy wz)
 (d50:DAt K "_law_parts" zeG wA wB wC wD wE wF wG wH wI wJ)
 (d51:DAt K "_law_ahead" zeH wK wL wN wO wP wQ wR wS wT wU)
 (d52:DAt K "_law_order" zeI wV wW wX wY wZ w8 xa xb xf xg)
 (d53:DAt K "_law_plain" zeJ xh xi xj xk xm xn xo xp xq xr)
 (d54:DAt K "_law_same" zgn xu xw xx xy xz xA xB xC xD xE)
 (d55:DAt K "_law_names" zeK xF xG xH xI xJ xK xL xM xN xO)
 (d56:DAt K "_law_sorts" zeL xP xQ xR xS xT xU xV xW xX xY)
 (d57:DAt K "_law_deed" zgo xZ x8 x9 ya yb yc yd ye yf yg)
 (d58:DAt K "_law_far_right" zcx yh yi yj yk yl ym yo yp yq yr)
 (d59:DAt K "_law_still" zeM yt yu yv yx yy yz yA yB yC yD)
 (d60:DAt K "_law_gone_on" zdl yE yF yG yH yI yJ yK yL yM yN)
 (d61:DAt K "law" znn yO yP yQ cE cI cJ cK cM cN yR)
 (Ew:ZeS K "abs")
 (Ex:ZeS K "all")
 (Ey:ZeS K "any")
 (Em:ZeS K "bool")
 (En:ZeS K "dict")
 (DY:ZeS K "divmod")
 (DM:ZeS K "enumerate")
 (Ez:ZeS K "int")
 (Dy:ZeS K "isinstance")
 (EA:ZeS K "len")
 (Eo:ZeS K "list")
 (EB:ZeS K "max")
 (EC:ZeS K "min")
 (Ee:ZeS K "range")
 (ED:ZeS K "set")
 (DZ:ZeS K "sorted")
 (EE:ZeS K "str")
 (Ef:ZeS K "tuple")
 (Bh:GlS K "LONGEST_NAME" 8 DV)
 (Cw:GlS K "MOST_TOP" 1000000 Eg)
 (Br:GlS K "MOST_BOTTOM" 12 DX)
 (Bt:GlS K "MOST_TURN" 1000000000000000 Ea)
 (BD:GlS K "MOST_SORTS" 8 D0)
 (B4:GlS K "MOST_SPAN" 4 Eb)
 (BE:GlS K "MOST_TRIES" 3 D6)
 (BF:GlS K "MOST_HANDS" 6 D7)
 (Bi:GlS K "MOST_HELPERS" 6 DW)
 (B5:GlS K "MOST_OPEN" 40 Ec)
 (At:GlS K "MOST_TURNS_TO_PASS" 100 Dz)
 (gc:GcT K)
 (o0:OAt K "Piece" Bg)
 (o1:OAt K "Held" Au)
 (o2:OAt K "Waiting" Aa)
 (m2:CAt K Aa bz)
 (n0:NoS K Aa "number")
 (n1:NoS K Aa "sort_name")
 (n2:NoS K Aa "came")
 (n3:NoS K Aa "span")
 (n4:NoS K Aa "tries")
 (n5:NoS K Aa "spent")
 (e0:MeS K Aa "done" yS)
 (e1:MeS K Aa "failed" yT)
 (e2:MeS K Aa "is_open" yU)
 (e3:MeS K Aa "row" cO)
 (e4:MeS K Aa "stepped" yV)
 (e5:MeS K Aa "word" yW)
 (e6:MeS K Aa "work_left" cP)
 (o3:OAt K "Done" Ad)
 (m3:CAt K Ad bz)
 (n6:NoS K Ad "number")
 (n7:NoS K Ad "sort_name")
 (n8:NoS K Ad "came")
 (n9:NoS K Ad "span")
 (n10:NoS K Ad "tries")
 (n11:NoS K Ad "spent")
 (e7:MeS K Ad "is_open" eI)
 (e8:MeS K Ad "row" cO)
 (e9:MeS K Ad "word" yX)
 (e10:MeS K Ad "work_left" cP)
 (o4:OAt K "GivenUp" Ab)
 (m4:CAt K Ab bz)
 (n12:NoS K Ab "number")
 (n13:NoS K Ab "sort_name")
 (n14:NoS K Ab "came")
 (n15:NoS K Ab "span")
 (n16:NoS K Ab "tries")
 (n17:NoS K Ab "spent")
 (e11:MeS K Ab "is_open" eI)
 (e12:MeS K Ab "row" cO)
 (e13:MeS K Ab "word" cQ)
 (e14:MeS K Ab "work_left" cP)
 (o5:OAt K "Missed" AJ)
 (o6:OAt K "Sort" Aj)
 (m6:CAt K Aj cR)
 (n18:NoS K Aj "name")
 (n19:NoS K Aj "weight")
 (n20:NoS K Aj "speed")
 (n21:NoS K Aj "span")
 (n22:NoS K Aj "tries")
 (e15:MeS K Aj "as_row" cU)
 (o7:OAt K "Sorts" Ae)
 (m7:CAt K Ae cV)
 (n23:NoS K Ae "rows")
 (e16:MeS K Ae "sort_of" cW)
 (o8:OAt K "Verdict" Av)
 (o9:OAt K "Granted" Ag)
 (m9:CAt K Ag cX)
 (n24:NoS K Ag "number")
 (e17:MeS K Ag "granted" cY)
 (o10:OAt K "LateOne" Af)
 (m10:CAt K Af cZ)
 (n25:NoS K Af "number")
 (n26:NoS K Af "due")
 (n27:NoS K Af "turn")
 (n28:NoS K Af "run")
 (e18:MeS K Af "granted" c8)
 (o11:OAt K "House" Ac)
 (m11:CAt K Ac c9)
 (n29:NoS K Ac "sorts")
 (n30:NoS K Ac "hands")
 (n31:NoS K Ac "turn")
 (n32:NoS K Ac "pieces")
 (n33:NoS K Ac "numbers")
 (n34:NoS K Ac "rows")
 (e19:MeS K Ac "asked" db)
 (e20:MeS K Ac "asked_with" de)
 (e21:MeS K Ac "check_room" df)
 (e22:MeS K Ac "chores_now" dg)
 (e23:MeS K Ac "claims_now" dh)
 (e24:MeS K Ac "come" di)
 (e25:MeS K Ac "latest_turn" dj)
 (e26:MeS K Ac "now" dk)
 (e27:MeS K Ac "pass_turn" aO)
 (e28:MeS K Ac "pass_turns" dm)
 (e29:MeS K Ac "piece_of" dq)
 (e30:MeS K Ac "pieces_waiting" dy)
 (e31:MeS K Ac "places" dz)
 (e32:MeS K Ac "rows_done" dA)
 (e33:MeS K Ac "state" dC)
 (e34:MeS K Ac "tell" dD)
 (e35:MeS K Ac "told_now" dE)
 (e36:MeS K Ac "waiting" dF)
 (e37:MeS K Ac "waiting_piece" dG)
 (CB:K.lookup bz=some ⟨KQ,KR,.func (W.fnOf "__init__" "Piece.__init__" (zav zaW) (zap zaW) (zac zaW) (.ref yY) KS KU KW KY yZ KZ),K0⟩) (CC:W.codeIn K yZ "Piece.__init__" = true) (CD:W.keepIn K (.ref bz)=true) (AF:W.isFn K (.ref bz)=true) (CF:K.lookup yY=some y7) (AG:Obj.data y7=.seq #[.int 0 K1] K2)
 (h1:MAt K "done" "Waiting.done" zcZ yS K3 K4 K5 K6 K7 K8 K9 La Lb)
 (h2:MAt K "failed" "Waiting.failed" zcg yT Lc Ld Le Lf Lg Lh Li Lj Lk)
 (h3:MAt K "is_open" "Waiting.is_open" bP yU Ll Lm Ln Lo Lp Lq Lr Ls Lu)
 (h4:MAt K "row" "Piece.row" zeN cO Lv Lw Lx Ly Lz LA LB LC LD)
 (h5:MAt K "stepped" "Waiting.stepped" bQ yV LF LG LH LI LJ LK LL LM LN)
 (h6:MAt K "word" "Waiting.word" zcY yW LO LP LQ LR LS LU LV LW LX)
 (h7:MAt K "work_left" "Piece.work_left" zbZ cP LY LZ L4 L5 L6 L7 L8 L9 Ma)
 (h8:MAt K "is_open" "Piece.is_open" zcy eI Mb Mc Me Mf Mg Mh Mi Mj Ml)
 (h9:MAt K "word" "Done.word" zeO yX Mm Mn Mo Mp Mq Mr Ms Mt Mu)
 (h10:MAt K "word" "GivenUp.word" bR cQ y8 y9 za zc zd ze zf zg zh)
 (h11:MAt K "__init__" "Sort.__init__" zcz cR zi zj zk zn zo zp zr zt zu)
 (h12:MAt K "as_row" "Sort.as_row" zdm cU zx zy zA zB zC zD zE zF zG)
 (h13:MAt K "__init__" "Sorts.__init__" zch cV zH zI zJ zK zL zM zN zO zP)
 (h14:MAt K "sort_of" "Sorts.sort_of" zcA cW zQ zR zS zT zU zV zW zX zY)
 (h15:MAt K "__init__" "Granted.__init__" zbK cX zZ z7 z8 z9 EJ EK EL EM EN)
 (h16:MAt K "granted" "Granted.granted" bS cY EO EQ ER ES ET EU EV EW EX)
 (h17:MAt K "__init__" "LateOne.__init__" zbL cZ EY EZ E3 E4 E5 E6 E7 E8 E9)
 (h18:MAt K "granted" "LateOne.granted" bU c8 Fa Fb Fc Fd Fe Ff Fg Fh Fi)
 (h19:MAt K "__init__" "House.__init__" zci c9 Fj Fk Fl Fm Fn Fo Fp Fq Fs)
 (h20:MAt K "asked" "House.asked" zdn db Ft Fu Fv Fw Fx Fy Fz FA FB)
 (h21:MAt K "asked_with" "House.asked_with" zbN de FC FD FE FF FG FH FI FJ FK)
 (h22:MAt K "check_room" "House.check_room" zbM df FL FM FN FO FP FQ FR FS FT)
 (h23:MAt K "chores_now" "House.chores_now" zbQ dg FU FV FW FX FY FZ F0 F2 F3)
 (h24:MAt K "claims_now" "House.claims_now" zbP dh F4 F5 F6 F7 F8 F9 Ga Gb Gc)
 (h25:MAt K "come" "House.come" zdU di Gd Ge Gf Gg Gh Gi Gj Gk Gm)
 (h26:MAt K "latest_turn" "House.latest_turn" zbB dj Gn Gp Gr Gs Gu Gv Gw Gx Gy)
 (h27:MAt K "now" "House.now" zeP dk Gz GA GB GC GD GF GG GH GI)
 (Cg:K.lookup aO=some ⟨GJ,GK,.func (W.fnOf "pass_turn" "House.pass_turn" (zav zaP) (zap zaP) (zac zaP) (.ref dH) GL GM GN GO dJ GP),GQ⟩) (Ci:W.codeIn K dJ "House.pass_turn" = true) (A0:W.keepIn K (.ref aO)=true) (Cj:W.isFn K (.ref aO)=true) (Ck:K.lookup dH=some dL) (AB:Obj.data dL=.seq #[.none,.int 0 GR] GS)
 (h29:MAt K "pass_turns" "House.pass_turns" zbO dm GU GV GW GX GY GZ G0 G1 G2)
 (h30:MAt K "piece_of" "House.piece_of" zcj dq G3 G4 G5 G6 G7 G8 G9 Ha Hb)
 (h31:MAt K "pieces_waiting" "House.pieces_waiting" zbh dy Hc He Hf Hg Hi Hj Hk Hl Hm)
 (h32:MAt K "places" "House.places" bV dz Hn Ho Hq Hr Hs Ht Hu Hw Hy)
 (h33:MAt K "rows_done" "House.rows_done" bW dA Hz HH HM HN HP HQ HR HS HU)
 (h34:MAt K "state" "House.state" zdo dC HV HW HX HY HZ Ia Ib Ic Ie)
 (h35:MAt K "tell" "House.tell" zdV dD Ig Ih Ii Ij Ik Il Im Io Ip)
 (h36:MAt K "told_now" "House.told_now" zck dE Iq Ir Iu Iv Iw Ix Iy Iz IA)
 (h37:MAt K "waiting" "House.waiting" zcB dF IB IC ID IE IF IG IH II IJ)
 (h38:MAt K "waiting_piece" "House.waiting_piece" zbm dG IK IL IM IN IP IQ IR IS IT)
 (q0:KtC K Ad Au false)
 (q1:KtC K Ad Aa false)
 (q2:KtC K Ab Au false)
 (q3:KtC K Ab Aa false)
 (q4:KtC K Aa Au false)
 (q5:KtC K Aa Aa true)
 (q6:KtT K "bool" "bool" true)
 (q7:KtT K "int" "bool" false)
 (q8:KtT K "int" "int" true)
 (q9:KtT K "int" "list" false)
 (q10:KtT K "int" "tuple" false)
 (q11:KtT K "list" "list" true)
 (q12:KtT K "str" "str" true)
 (q13:KtT K "tuple" "list" false)
 (q14:KtT K "tuple" "tuple" true)
 : ∃(fd fg:FuncData)(ag:Addr)(og:Obj),(∀(s:Shared)(v:Value),BindsTo s fd ⟨[v],[]⟩ [("_law_script",v)])/\mg "claims_in_order" = some (.ref ag)/\K.lookup ag=some og/\og.data=.func fg/\∀(tT:Addr)(bj:Heap),K.In bj->bj.Ns mainGlobals mg->Site K mg bj fg.code tT->FnOk l.prog w K mg bj CX0 18 fa fd ["_law_script"] (zol K tT):=by
 cases hfa.symm.trans (rK X G d61.a)
 have T:Txt K mg Bg Au Aa Ad Ab AJ Aj Ae Av Ag Af Ac:=⟨t8 X G Ew.e,t8 X G Ex.e,t8 X G Ey.e,t8 X G Em.e,t8 X G En.e,t8 X G DY.e,t8 X G DM.e,t8 X G Ez.e,t8 X G Dy.e,t8 X G EA.e,t8 X G Eo.e,t8 X G EB.e,t8 X G EC.e,t8 X G Ee.e,t8 X G ED.e,t8 X G DZ.e,t8 X G EE.e,t8 X G Ef.e,⟨_,rK X G Bh.e⟩,⟨_,rK X G Cw.e⟩,⟨_,rK X G Br.e⟩,⟨_,rK X G Bt.e⟩,⟨_,rK X G BD.e⟩,⟨_,rK X G B4.e⟩,⟨_,rK X G BE.e⟩,⟨_,rK X G BF.e⟩,⟨_,rK X G Bi.e⟩,⟨_,rK X G B5.e⟩,⟨_,rK X G At.e⟩,o0.g X G,o0.ow gc,o1.g X G,o1.ow gc,o2.g X G,o2.ow gc,n0.e,n1.e,n2.e,n3.e,n4.e,n5.e,o3.g X G,o3.ow gc,n6.e,n7.e,n8.e,n9.e,n10.e,n11.e,o4.g X G,o4.ow gc,n12.e,n13.e,n14.e,n15.e,n16.e,n17.e,o5.g X G,o5.ow gc,o6.g X G,o6.ow gc,n18.e,n19.e,n20.e,n21.e,n22.e,o7.g X G,o7.ow gc,n23.e,o8.g X G,o8.ow gc,o9.g X G,o9.ow gc,n24.e,o10.g X G,o10.ow gc,n25.e,n26.e,n27.e,n28.e,o11.g X G,o11.ow gc,n29.e,n30.e,n31.e,n32.e,n33.e,n34.e,q0.e,q1.e,q2.e,q3.e,q4.e,q5.e,q6.e,q7.e,q8.e,q9.e,q10.e,q11.e,q12.e,q13.e,q14.e⟩
 have zny:=d0.d3 X G "thing" "low" "high"
 have zjx:=d1.d3 X G "text" "first" "last"
 have zqi:=d2.d1 X G "thing"
 have IU:=d3.d2 X G "one" "other"
 have zru:=d4.d2 X G "top" "bottom"
 have znz:=d5.d2 X G "one" "other"
 have zlP:=d6.d1 X G "thing"
 have ziz:=d7.d3 X G "weight" "speed" "turns"
 have zlQ:=d8.d2 X G "claim" "turn"
 have zgK:=d9.d2 X G "one" "other"
 have ztD:=d10.d3 X G "one" "other" "turn"
 have zkU:=d11.d2 X G "one" "other"
 have zif:=d12.d3 X G "front" "back" "begin"
 have zqj:=d13.d3 X G "one" "other" "begin"
 have zkV:=d14.d2 X G "claims" "turn"
 have zig:=d15.d1 X G "claims"
 have zlR:=d16.d3 X G "claim" "turn" "common"
 have zgL:=d17.c2 X G "claims" "turn"
 have zfR:=d18.d2 X G "claims" "turn"
 have znA:=d19.d2 X G "claims" "turn"
 have zgM:=d20.d2 X G "claims" "turn"
 have zqk:=d21.d3 X G "claims" "first" "last"
 have zjy:=d22.d2 X G "claims" "turn"
 have zlS:=d23.d2 X G "claims" "turn"
 have znB:=d24.d1 X G "claims"
 have zha:=d25.d3 X G "chores" "hands" "turn"
 have zih:=d26.d2 X G "chores" "numbers"
 have zlT:=d27.d3 X G "chores" "hands" "turn"
 have ziA:=d28.d2 X G "chores" "real"
 have F29:=zte (st:=zdi) l29 c29 k29 t29 u29
 have b29:=F29.binds (ps:=pl14) λ_ _ _ _ _ _ _ us hl=>by obtain⟨_,_,_,_,rfl⟩:=ul4 hl;exact⟨_,rfl,rfl⟩
 have bd29:=F29.bindsD (ps:=pl14) λ_ _ _ _ _ _ _ us hl=>by obtain⟨_,_,_,rfl⟩:=ul3 (show us.length=3 by rw[tR]at hl;exact Nat.succ.inj hl);exact⟨_,rfl,rfl⟩
 have zrv:DfnD K mg "run_of" zdi pl14 _ _:=⟨F29,b29,bd29,rK X G a29⟩
 have zjz:=d30.d2 X G "chores" "number"
 have zjA:=d31.d2 X G "chores" "number"
 have zkW:=d32.d1 X G "rows"
 have zkX:=d33.d3 X G "chores" "hands" "begin"
 have zlU:=d34.d4 X G "chores" "hands" "begin" "number"
 have znC:=d35.d4 X G "chores" "hands" "begin" "told"
 have znD:=d36.d2 X G "piece" "sorts"
 have znE:=d37.d2 X G "piece" "sorts"
 have zrw:=d38.d1 X G "thing"
 have znF:=d39.d1 X G "thing"
 have zlV:=d40.d1 X G "weight"
 have zlW:=d41.d1 X G "row"
 have znG:=d42.d1 X G "rows"
 have zlX:=d43.d2 X G "pieces" "sorts"
 have zkY:=d44.d2 X G "ends" "numbers"
 have ziB:=d45.d4 X G "piece" "turn" "numbers" "ends"
 have znH:=d46.d2 X G "_law_script" "_law_k"
 have zql:=d47.d2 X G "_law_cell_here" "_law_k"
 have zlY:=d48.d1 X G "_law_cell_here"
 have znI:=d49.d2 X G "_law_state" "_law_many"
 have zlZ:=d50.d2 X G "_law_claim" "_law_turn"
 have IV:=d51.d3 X G "_law_one" "_law_other" "_law_turn"
 have IW:=d52.d2 X G "_law_claims" "_law_turn"
 have zfj:=d53.d1 X G "_law_thing"
 have znJ:=d54.d2 X G "_law_found" "_law_due"
 have IY:=d55.d2 X G "_law_state" "_law_many"
 have IZ:=d56.d1 X G "_law_state"
 have znK:=d57.d3 X G "_law_house" "_law_rows" "_law_cell_here"
 have zii:=d58.d3 X G "_law_claims" "_law_now" "_law_far"
 have Ja:=d59.d2 X G "_law_house" "_law_claims"
 have zjB:=d60.d4 X G "_law_house" "_law_claims" "_law_hands" "_law_turns"
 have zwc:=d61.d1 X G "_law_script"
 refine⟨W.fnOf "law" "law" (zav znn) (zap znn) (zac znn) .none cE cI cJ cK cM cN,W.fnOf "claims_in_order" "claims_in_order" (zav zaF) (zap zaF) (zac zaF) .none bh bi bo bq bu bv,cw,⟨cx,cy,.func (W.fnOf "claims_in_order" "claims_in_order" (zav zaF) (zap zaF) (zac zaF) .none bh bi bo bq bu bv),cA⟩,λs v=>.of_eq rfl,rK X G d17.a,d17.l,rfl,λtT bj _ _ SI=>?_⟩
 have AH:=ztj (st:=zaW) CB CC CD CF AG
 have CG:=AH.binds (ps:=pl1) λ_ _ _ _ _ _ _ us hl=>by obtain⟨_,_,_,_,_,_,_,rfl⟩:=ul7 hl;exact⟨_,rfl,rfl⟩
 have CH:=AH.bindsD (ps:=pl1) λ_ _ _ _ _ _ _ us hl=>by obtain⟨_,_,_,_,_,_,rfl⟩:=ul6 (show us.length=6 by rw[tR]at hl;exact Nat.succ.inj hl);exact⟨_,rfl,rfl⟩
 have As:MfnE K "__init__" "Piece.__init__" zaW pl1 _ _ _:=⟨AH,CG,CH⟩
 have BP:=h1.m1 "self"
 have Bm:=h2.m1 "self"
 have A6:=h3.m1 "self"
 have A7:=h4.m1 "self"
 have A8:=h5.m1 "self"
 have BQ:=h6.m1 "self"
 have Ao:=h7.m1 "self"
 have AK:=h8.m1 "self"
 have CT:=h9.m1 "self"
 have BR:=h10.m1 "self"
 have Bz:=h11.m6 "self" "name" "weight" "speed" "span" "tries"
 have B0:=h12.m1 "self"
 have Bn:=h13.m2 "self" "rows"
 have BA:=h14.m2 "self" "name"
 have AS:=h15.m2 "self" "number"
 have A9:=h16.m1 "self"
 have AT:=h17.m5 "self" "number" "due" "turn" "run"
 have Ba:=h18.m1 "self"
 have Bo:=h19.m3 "self" "sorts" "hands"
 have B1:=h20.m5 "self" "pieces" "sorts" "hands" "number"
 have AU:=h21.m2 "self" "piece"
 have AV:=h22.m1 "self"
 have AW:=h23.m1 "self"
 have AX:=h24.m1 "self"
 have Cm:=h25.m2 "self" "sort"
 have AM:=h26.m2 "self" "number"
 have CU:=h27.m1 "self"
 have AC:=zri (st:=zaP) Cg Ci A0 Ck AB
 have Bc:=AC.binds (ps:=pl26) [_] λ_ _ _ _ _ _ _ us hl=>by obtain⟨_,_,rfl⟩:=ul2 (show us.length=2 by rw[tR]at hl;exact Nat.add_right_cancel (m:=1) hl);exact⟨_,rfl,rfl⟩
 have Bd:=AC.binds (ps:=pl26) [_,_] λ_ _ _ _ _ _ _ us hl=>by obtain⟨_,rfl⟩:=ul1 (show us.length=1 by rw[tR]at hl;exact Nat.add_right_cancel (m:=2) hl);exact⟨_,rfl,rfl⟩
 have Cn:MfnE2 K "pass_turn" "House.pass_turn" zaP pl26 _ _ _ _:=⟨AC,Bc,Bd⟩
 have AY:=h29.m2 "self" "many"
 have Bp:=h30.m2 "self" "number"
 have AD:=h31.m1 "self"
 have BS:=h32.m1 "self"
 have Be:=h33.m1 "self"
 have B3:=h34.m2 "self" "number"
 have Co:=h35.m2 "self" "number"
 have Bq:=h36.m1 "self"
 have BB:=h37.m1 "self"
 have AE:=h38.m2 "self" "number"
 have zeh:=zlK (P:=l.prog) (w:=w) (bj:=bj) T znH
 have zbC:=zkL (P:=l.prog) (w:=w) (bj:=bj) T zlY
 have zic:=znw (P:=l.prog) (w:=w) (bj:=bj) T zql
 have zay:=zlL T znI zic
 have zdz:=zkM (P:=l.prog) (w:=w) (bj:=bj) T zlZ
 have zff:=zkN T IV zdz
 have aE:=zkO T IW zff
 have zbe:=Dfn.calF (P:=l.prog) (w:=w) (bj:=bj) (k:=0) (sp:=(zhf) 0) zfj (by rintro _ _ _ _ ⟨_,_,z,_⟩;exact z)
 have zbe:=zgT (dn:=0) T zfj zbe
 have zbe:=zgT (dn:=1) T zfj zbe
 have zct:=zlN T znJ zbe
 have zfg:=zkQ T IY zay
 have zfi:=zkR T IZ zay zfg
 have AL:=zgq (P:=l.prog) (w:=w) (bj:=bj) T As
 have AA:Mak l.prog w K mg bj "Waiting" Aa 1 pl0 (.int 0):=MfnE.mak As AL T.Ay.cl (no6 T.Bw T.AO T.BW T.BX T.BG T.BH) (m2.mk_ AF) (o2.g X G) ⟨_,rfl⟩
 have aX:=fF (P:=l.prog) (w:=w) (bj:=bj) T zih
 have aV:=zgs (P:=l.prog) (w:=w) (bj:=bj) T IU
 have zcD:=fE T zig aV
 have zeR:=zkw (P:=l.prog) (w:=w) (bj:=bj) T zlR
 have zaY:=zfB (tT:=tT) T zgL SI zcD zeR
 have zaG:=zeT T zfR zaY
 have zcl:=zgw T zha zaG
 have zeU:=zkx T zlT zcl aX
 have bY:=fH (P:=l.prog) (w:=w) (bj:=bj) T ziA
 have zee:=zpH T zrv aX zeU bY
 have zbE:=zjn (P:=l.prog) (w:=w) (bj:=bj) T zkW
 have zgF:=zlz T znC zee zbE
 have zed:=zpA T zru aV
 have zds:=zkt T zlV zed
 have C9:=fA T Bz zds
 have DR:MakG CX0 l.prog w K mg bj "Sort" Aj 4 (zpw Aj):=⟨_,_,_,_,m6.mk_ h11.i,FnOk.mono C9 (by decide),Bz.b,o6.g X G,zuU T.Dv.cl (no5 T.B8 T.Bu T.BK T.B9 T.BL)⟩
 have aW:=zkv T zlW DR
 have Da:=fB T BA aW
 have Bl:=mok e16 h14 T.DC BA Da
 have zcq:=zls T znD Bl
 have CI:=zfw (P:=l.prog) (w:=w) (bj:=bj) T A6
 have BT:=zgZ (P:=l.prog) (w:=w) (bj:=bj) T AK
 have Bk:∀d,MOk CX0 l.prog w K mg bj 1 (CsA.cl (CsA.mk Aa Ad Ab) d) "is_open" (zmA (CsA.mk Aa Ad Ab) d):=λd=>match d with
  | .waiting=>⟨T.Ay.cl,_,_,_,⟨e2.e,h3.i,h3.k⟩,FnOk.mono CI (by decide),A6.b⟩
  | .done=>⟨T.Dm.cl,_,_,_,⟨e7.e,h8.i,h8.k⟩,FnOk.mono (FnOk.imp BT (λvs H Q E h=>let ⟨a,p,e,hp,q⟩:=h;⟨a,e,q⟩)) (by decide),AK.b⟩
  | .givenUp=>⟨T.Bj.cl,_,_,_,⟨e11.e,h8.i,h8.k⟩,FnOk.mono (FnOk.imp BT (λvs H Q E h=>let ⟨a,p,e,hp,q⟩:=h;⟨a,e,q⟩)) (by decide),AK.b⟩
 have AI:=zfy T Ao Bk
 have Ca:∀d,MOk CX0 l.prog w K mg bj 2 (CsA.cl (CsA.mk Aa Ad Ab) d) "work_left" (zpt (CsA.mk Aa Ad Ab)):=λd=>match d with
  | .waiting=>⟨T.Ay.cl,_,_,_,⟨e6.e,h7.i,h7.k⟩,FnOk.mono AI (by decide),Ao.b⟩
  | .done=>⟨T.Dm.cl,_,_,_,⟨e10.e,h7.i,h7.k⟩,FnOk.mono AI (by decide),Ao.b⟩
  | .givenUp=>⟨T.Bj.cl,_,_,_,⟨e14.e,h7.i,h7.k⟩,FnOk.mono AI (by decide),Ao.b⟩
 have zgy:=zlu T znE zcq Ca
 have aY:=zkB T zlX zgy Bk
 have Cp:=zeW (P:=l.prog) (w:=w) (bj:=bj) T AS
 have C6:MakG CX0 l.prog w K mg bj "Granted" Ag 1 (zpM Ag):=⟨_,_,_,_,m9.mk_ h15.i,FnOk.mono Cp (by decide),AS.b,o9.g X G,zva T.Dw.cl T.CV⟩
 have zbu:=zlB (P:=l.prog) (w:=w) (bj:=bj) T znG
 have Cq:=zeY T AT zbu
 have C7:MakG CX0 l.prog w K mg bj "LateOne" Af 2 (zpN Af):=⟨_,_,_,_,m10.mk_ h17.i,FnOk.mono Cq (by decide),AT.b,o10.g X G,zvb T.Dx.cl (noL T.CW T.Dn T.De T.Do)⟩
 have BC:=zdw (P:=l.prog) (w:=w) (bj:=bj) T AD
 have Ak:=mok e30 h31 T.Ah AD BC
 have CY:=zgE T Bq Ak
 have CA:=mok e35 h36 T.Ah Bq CY
 have Dr:=ziu T B1 zgF aY C6 C7 CA
 have DI:=mok e19 h20 T.Ah B1 Dr
 have Cr:=fJ T AW aY
 have Ax:=mok e22 h23 T.Ah AW Cr
 have Cs:=fS T AV Ax
 have BM:=mok e21 h22 T.Ah AV Cs
 have Ct:=fU T AU DI BM
 have BN:=mok e20 h21 T.Ah AU Ct
 have CJ:=zfE (P:=l.prog) (w:=w) (bj:=bj) T A9
 have CK:=zfG (P:=l.prog) (w:=w) (bj:=bj) T Ba
 have Cf:=And.intro (mok e17 h16 T.Dw A9 CJ) (mok e18 h18 T.Dx Ba CK)
 have Di:=fM (P:=l.prog) (w:=w) (bj:=bj) T BS
 have Dq:=mok e31 h32 T.Ah BS Di
 have zao:=zlo (P:=l.prog) (w:=w) (bj:=bj) T zny
 have zdt:=zir T zjz zao
 have zdu:=zit T zjA zdt
 have zdY:=zjp T zkX zee zbE
 have b8:=zkz T zlU zdu zdY
 have Cc:=zek T AM b8 Ax
 have Bv:=mok e25 h26 T.Ah AM Cc
 have CZ:=zgC T Bp zao
 have AN:=mok e29 h30 T.Ah Bp CZ
 have BU:=zdI T AE AN
 have AR:=mok e37 h38 T.Ah AE BU
 have DA:=zjq T Co Bv AR
 have DS:=mok e34 h35 T.Ah Co DA
 have DB:=zjr T Cm AA BN Cf Dq Bl DS
 have DU:=mok e24 h25 T.Ah Cm DB
 have b9:=zjs T zkY zao
 have DQ:Mak l.prog w K mg bj "Done" Ad 1 pl0 (.int 0):=MfnE.mak As AL T.Dm.cl (no6 T.Ce T.Bx T.C3 T.C4 T.CP T.CQ) (m3.mk_ AF) (o3.g X G) ⟨_,rfl⟩
 have Dj:=zhZ T BP DQ
 have DT:=mok e0 h1 T.Ay BP Dj
 have C5:Mak l.prog w K mg bj "GivenUp" Ab 1 pl0 (.int 0):=MfnE.mak As AL T.Bj.cl (no6 T.By T.AQ T.BY T.BZ T.BI T.BJ) (m4.mk_ AF) (o4.g X G) ⟨_,rfl⟩
 have C0:=zgr T Bm AA C5
 have BV:=mok e1 h2 T.Ay Bm C0
 have CL:=zfz T A8 AA BV
 have C8:=mok e4 h5 T.Ay A8 CL
 have ci:=fV T ziB DT BV C8
 have aI:=zjl T zkV zao
 have zcr:=zly T znA aI zaG
 have Cu:=fO T AX zcq Ak
 have Aw:=mok e23 h24 T.Ah AX Cu
 have Db:=fQ T BB zcr Aw
 have An:=mok e36 h37 T.Ah BB Db
 have CM:=zfK T Cn zao zbu b9 ci An
 have Am:MOk2 CX0 l.prog w K mg bj 11 Ac "pass_turn" .non (.int 0) (zkD K (CsA.mk Aa Ad Ab) Ae Ac tT):=⟨T.Ah.cl,_,_,_,_,_,⟨e27.e,Cj,A0⟩,FnOk.mono CM (by decide),Bc,Bd,rfl,⟨_,rfl⟩⟩
 have Cv:=zfb T AY zao Am
 have BO:=mok e28 h29 T.Ah AY Cv
 have zgJ:=zlO T znK zbC zay DU Am BO An
 have zcs:=zlG (P:=l.prog) (w:=w) (bj:=bj) T znz
 have cj:=fW T ziz zed
 have zbo:=zkI T zlQ cj
 have zaZ:=zfO (P:=l.prog) (w:=w) (bj:=bj) T zgK
 have zlH:=zrr T ztD zcs zbo zaZ
 have zcS:=zju (P:=l.prog) (w:=w) (bj:=bj) T zkU
 have zbS:=fX T zif zcs zbo zaZ zcS
 have zia:=znt T zqj zlH zbS
 have zaJ:=zfP T zgM zia zaY
 have zie:=znv T zqk zao aI zaJ
 have zdA:=zix T zjy aI zaJ
 have zfe:=zkJ T zlS zaJ
 have zgI:=zlI T znB zaG zfe
 have zcI:=fY T zii zcr zie zdA zgI aE
 have Dk:=zhU (P:=l.prog) (w:=w) (bj:=bj) T BQ
 have DN:=zkl (P:=l.prog) (w:=w) (bj:=bj) T CT
 have Dl:=zhW (P:=l.prog) (w:=w) (bj:=bj) T BR
 have DP:∀d,MOk CX0 l.prog w K mg bj 1 (CsA.cl (CsA.mk Aa Ad Ab) d) "word" (zkj (CsA.mk Aa Ad Ab) d):=λd=>match d with
  | .waiting=>⟨T.Ay.cl,_,_,_,⟨e5.e,h6.i,h6.k⟩,FnOk.mono Dk (by decide),BQ.b⟩
  | .done=>⟨T.Dm.cl,_,_,_,⟨e9.e,h9.i,h9.k⟩,FnOk.mono DN (by decide),CT.b⟩
  | .givenUp=>⟨T.Bj.cl,_,_,_,⟨e13.e,h10.i,h10.k⟩,FnOk.mono Dl (by decide),BR.b⟩
 have Cd:=zkn T A7 DP
 have Ed:∀d,MOk CX0 l.prog w K mg bj 2 (CsA.cl (CsA.mk Aa Ad Ab) d) "row" (zto (CsA.mk Aa Ad Ab)):=λd=>match d with
  | .waiting=>⟨T.Ay.cl,_,_,_,⟨e3.e,h4.i,h4.k⟩,FnOk.mono Cd (by decide),A7.b⟩
  | .done=>⟨T.Dm.cl,_,_,_,⟨e8.e,h4.i,h4.k⟩,FnOk.mono Cd (by decide),A7.b⟩
  | .givenUp=>⟨T.Bj.cl,_,_,_,⟨e12.e,h4.i,h4.k⟩,FnOk.mono Cd (by decide),A7.b⟩
 have Ds:=ziw T B3 AN Ed
 have DJ:=mok e33 h34 T.Ah B3 Ds
 have zfh:=zkT T Ja DJ
 have DO:=zkF (P:=l.prog) (w:=w) (bj:=bj) T CU
 have DK:=mok e26 h27 T.Ah CU DO
 have CO:=zfM T Be zbu
 have Cb:=mok e32 h33 T.Ah Be CO
 have zdB:=ziy T zjB aE zct zfh DK Am Cb An
 have zdq:=zim (P:=l.prog) (w:=w) (bj:=bj) T zjx
 have bX:=znr T zqi zdq
 have zdr:=zkr T zlP zao
 have zjh:=zpC T zrw zao bX zdr
 have zgv:=zlq T znF zjh
 have Dt:=zio (P:=l.prog) (w:=w) (bj:=bj) T B0
 have Dp:=mok e15 h12 T.Dv B0 Dt
 have C1:=zgu T Bn zgv aW Dp
 have DH:MakG CX0 l.prog w K mg bj "Sorts" Ae 7 (zpz Ae):=⟨_,_,_,_,m7.mk_ h13.i,FnOk.mono C1 (by decide),Bn.b,o7.g X G,zuV T.DC.cl T.CS⟩
 have C2:=zgA T Bo zao DH
 have DL:MakG CX0 l.prog w K mg bj "House" Ac 9 (zpO (CsA.mk Aa Ad Ab) Ae Ac):=⟨_,_,_,_,m11.mk_ h19.i,FnOk.mono C2 (by decide),Bo.b,o11.g X G,zvc T.Ah.cl (noH T.Aq T.Az T.Al T.Ai T.Ap T.AZ)⟩
 exact zvm T zwc zeh zbC zay aE zct zfi zgJ zcI zdB DL Aw DK An
def walk{l:W.OpenLaw}{q:Program}{loose:List Str}{XP:(Str->Option Value)->Heap->Prop}{YP:World->Heap->Prop}{d:DefRec}{K:Params->W.Frag}(hn:l.most=some 63)(hdf:d.params.defaults=[])
    (hY:∀(w:World)(h:Heap),YP w h->(K w.params).In h) (hK:∀p,zhD (K p)=true) (hrec:∃dr,(PyProof.Rows.recsOf q).find? (λe=>e.name==("claims_in_order" : Str))=some dr)
    (F:∀(w:World)(mg:af)(fa:Addr)(h:Heap),(K w.params).In h->h.Ns mainGlobals mg->mg d.name=some (.ref fa)->
      ∃(fd fg:FuncData)(ag:Addr)(og:Obj),(∀(s:Shared)(u:Value),BindsTo s fd ⟨[u],[]⟩ [("_law_script",u)])/\mg "claims_in_order" = some (.ref ag)/\(K w.params).lookup ag=some og/\og.data=.func fg/\
       ∀(tT:Addr)(bj:Heap),(K w.params).In bj->bj.Ns mainGlobals mg->Site (K w.params) mg bj fg.code tT->FnOk l.prog w (K w.params) mg bj CX0 18 fa fd ["_law_script"] (zol (K w.params) tT)):
    W.WalkO q loose XP YP l.row.toRowW d [] (λf vs=>PySem.call f vs):=
 L2.walk_ofT (n:=63) (k:=18) (x := "_law_script") (g := "claims_in_order") (lp:=zba) (q:=lamQ) (sp:=λK tT=>zol K tT) hn (by decide) hdf ⟨rfl,by decide,by decide,rfl⟩ hY hK hrec F (λ_ _ _ a ns hl hT hS=>⟨a,ns,rfl,hS,hl,hT,λ_=>rfl⟩)
end K92
open PySem PySem.W PyProof.Rows
set_option maxRecDepth 100000 in
set_option maxHeartbeats 0 in
theorem PySem.Challenge.cw_greywait_k92_whole_far_orders_holds : PySem.Challenge.rw_greywait_k92_whole_far_orders.Holds := by
 refine K92hd ?_
 k_fill
 refine K92.walk (l:=PySem.Challenge.rw_greywait_k92_whole_far_orders) rfl rfl (λw h Y=>PySem.W.km_in_of Y) (λ_=>by kernel_rfl) ⟨_,rfl⟩ ?F
 case F=>
  intro w mg fa h KX G hmg
  refine' K92.all_mk (l:=PySem.Challenge.rw_greywait_k92_whole_far_orders) (w:=w) KX G hmg ⟨?_,?_,?_,?_⟩ ⟨?_,?_,?_,?_⟩ ⟨?_,?_,?_,?_⟩ ⟨?_,?_,?_,?_⟩ ⟨?_,?_,?_,?_⟩ ⟨?_,?_,?_,?_⟩ ⟨?_,?_,?_,?_⟩ ⟨?_,?_,?_,?_⟩ ⟨?_,?_,?_,?_⟩ ⟨?_,?_,?_,?_⟩ ⟨?_,?_,?_,?_⟩ ⟨?_,?_,?_,?_⟩ ⟨?_,?_,?_,?_⟩ ⟨?_,?_,?_,?_⟩ ⟨?_,?_,?_,?_⟩ ⟨?_,?_,?_,?_⟩ ⟨?_,?_,?_,?_⟩ ⟨?_,?_,?_,?_⟩ ⟨?_,?_,?_,?_⟩ ⟨?_,?_,?_,?_⟩ ⟨?_,?_,?_,?_⟩ ⟨?_,?_,?_,?_⟩ ⟨?_,?_,?_,?_⟩ ⟨?_,?_,?_,?_⟩ ⟨?_,?_,?_,?_⟩ ⟨?_,?_,?_,?_⟩ ⟨?_,?_,?_,?_⟩ ⟨?_,?_,?_,?_⟩ ⟨?_,?_,?_,?_⟩ ?_ ?_ ?_ ?_ ?_ ?u29 ⟨?_,?_,?_,?_⟩ ⟨?_,?_,?_,?_⟩ ⟨?_,?_,?_,?_⟩ ⟨?_,?_,?_,?_⟩ ⟨?_,?_,?_,?_⟩ ⟨?_,?_,?_,?_⟩ ⟨?_,?_,?_,?_⟩ ⟨?_,?_,?_,?_⟩ ⟨?_,?_,?_,?_⟩ ⟨?_,?_,?_,?_⟩ ⟨?_,?_,?_,?_⟩ ⟨?_,?_,?_,?_⟩ ⟨?_,?_,?_,?_⟩ ⟨?_,?_,?_,?_⟩ ⟨?_,?_,?_,?_⟩ ⟨?_,?_,?_,?_⟩ ⟨?_,?_,?_,?_⟩ ⟨?_,?_,?_,?_⟩ ⟨?_,?_,?_,?_⟩ ⟨?_,?_,?_,?_⟩ ⟨?_,?_,?_,?_⟩ ⟨?_,?_,?_,?_⟩ ⟨?_,?_,?_,?_⟩ ⟨?_,?_,?_,?_⟩ ⟨?_,?_,?_,?_⟩ ⟨?_,?_,?_,?_⟩ ⟨?_,?_,?_,?_⟩ ⟨?_,?_,?_,?_⟩ ⟨?_,?_,?_,?_⟩ ⟨?_,?_,?_,?_⟩ ⟨?_,?_,?_,?_⟩ ⟨?_,?_,?_,?_⟩ ⟨?_⟩ ⟨?_⟩ ⟨?_⟩ ⟨?_⟩ ⟨?_⟩ ⟨?_⟩ ⟨?_⟩ ⟨?_⟩ ⟨?_⟩ ⟨?_⟩ ⟨?_⟩ ⟨?_⟩ ⟨?_⟩ ⟨?_⟩ ⟨?_⟩ ⟨?_⟩ ⟨?_⟩ ⟨?_⟩ ⟨?_⟩ ⟨?_⟩ ⟨?_⟩ ⟨?_⟩ ⟨?_⟩ ⟨?_⟩ ⟨?_⟩ ⟨?_⟩ ⟨?_⟩ ⟨?_⟩ ⟨?_⟩ ⟨?_,?_⟩ ⟨?_,?_,?_,?_,?_,?_,?_⟩ ⟨?_,?_,?_,?_,?_,?_,?_⟩ ⟨?_,?_,?_,?_,?_,?_,?_⟩ ⟨?_,?_,?_⟩ ⟨?_⟩ ⟨?_⟩ ⟨?_⟩ ⟨?_⟩ ⟨?_⟩ ⟨?_⟩ ⟨?_⟩ ⟨?_⟩ ⟨?_⟩ ⟨?_⟩ ⟨?_⟩ ⟨?_⟩ ⟨?_⟩ ⟨?_,?_,?_,?_,?_,?_,?_⟩ ⟨?_,?_,?_⟩ ⟨?_⟩ ⟨?_⟩ ⟨?_⟩ ⟨?_⟩ ⟨?_⟩ ⟨?_⟩ ⟨?_⟩ ⟨?_⟩ ⟨?_⟩ ⟨?_⟩ ⟨?_,?_,?_,?_,?_,?_,?_⟩ ⟨?_,?_,?_⟩ ⟨?_⟩ ⟨?_⟩ ⟨?_⟩ ⟨?_⟩ ⟨?_⟩ ⟨?_⟩ ⟨?_⟩ ⟨?_⟩ ⟨?_⟩ ⟨?_⟩ ⟨?_,?_,?_,?_,?_,?_,?_⟩ ⟨?_,?_,?_,?_,?_,?_,?_⟩ ⟨?_,?_,?_⟩ ⟨?_⟩ ⟨?_⟩ ⟨?_⟩ ⟨?_⟩ ⟨?_⟩ ⟨?_⟩ ⟨?_,?_,?_,?_,?_,?_,?_⟩ ⟨?_,?_,?_⟩ ⟨?_⟩ ⟨?_⟩ ⟨?_,?_,?_,?_,?_,?_,?_⟩ ⟨?_,?_,?_,?_,?_,?_,?_⟩ ⟨?_,?_,?_⟩ ⟨?_⟩ ⟨?_⟩ ⟨?_,?_,?_,?_,?_,?_,?_⟩ ⟨?_,?_,?_⟩ ⟨?_⟩ ⟨?_⟩ ⟨?_⟩ ⟨?_⟩ ⟨?_⟩ ⟨?_,?_,?_,?_,?_,?_,?_⟩ ⟨?_,?_,?_⟩ ⟨?_⟩ ⟨?_⟩ ⟨?_⟩ ⟨?_⟩ ⟨?_⟩ ⟨?_⟩ ⟨?_⟩ ⟨?_⟩ ⟨?_⟩ ⟨?_⟩ ⟨?_⟩ ⟨?_⟩ ⟨?_⟩ ⟨?_⟩ ⟨?_⟩ ⟨?_⟩ ⟨?_⟩ ⟨?_⟩ ⟨?_⟩ ⟨?_⟩ ⟨?_⟩ ⟨?_⟩ ⟨?_⟩ ⟨?_⟩ ⟨?_⟩ ?_ ?_ ?_ ?_ ?_ ?AG ⟨?_,?_,?_,?_⟩ ⟨?_,?_,?_,?_⟩ ⟨?_,?_,?_,?_⟩ ⟨?_,?_,?_,?_⟩ ⟨?_,?_,?_,?_⟩ ⟨?_,?_,?_,?_⟩ ⟨?_,?_,?_,?_⟩ ⟨?_,?_,?_,?_⟩ ⟨?_,?_,?_,?_⟩ ⟨?_,?_,?_,?_⟩ ⟨?_,?_,?_,?_⟩ ⟨?_,?_,?_,?_⟩ ⟨?_,?_,?_,?_⟩ ⟨?_,?_,?_,?_⟩ ⟨?_,?_,?_,?_⟩ ⟨?_,?_,?_,?_⟩ ⟨?_,?_,?_,?_⟩ ⟨?_,?_,?_,?_⟩ ⟨?_,?_,?_,?_⟩ ⟨?_,?_,?_,?_⟩ ⟨?_,?_,?_,?_⟩ ⟨?_,?_,?_,?_⟩ ⟨?_,?_,?_,?_⟩ ⟨?_,?_,?_,?_⟩ ⟨?_,?_,?_,?_⟩ ⟨?_,?_,?_,?_⟩ ⟨?_,?_,?_,?_⟩ ?_ ?_ ?_ ?_ ?_ ?AB ⟨?_,?_,?_,?_⟩ ⟨?_,?_,?_,?_⟩ ⟨?_,?_,?_,?_⟩ ⟨?_,?_,?_,?_⟩ ⟨?_,?_,?_,?_⟩ ⟨?_,?_,?_,?_⟩ ⟨?_,?_,?_,?_⟩ ⟨?_,?_,?_,?_⟩ ⟨?_,?_,?_,?_⟩ ⟨?_,?_,?_,?_⟩ ⟨?q0⟩ ⟨?q1⟩ ⟨?q2⟩ ⟨?q3⟩ ⟨?q4⟩ ⟨?q5⟩ ⟨?q6⟩ ⟨?q7⟩ ⟨?q8⟩ ⟨?q9⟩ ⟨?q10⟩ ⟨?q11⟩ ⟨?q12⟩ ⟨?q13⟩ ⟨?q14⟩
  any_goals k_is
  (case u29|AG|AB=>rfl)
  (case q0|q1|q2|q3|q4|q5|q6|q7|q8|q9|q10|q11|q12|q13|q14=>kit_is)
