import PyProof.Rows.All
import KE.KSortTup
import KE.KDictOf
import KE.KLam
import KE.KMinBuiltin
import PySem.Challenge.RW_greywait_k96_whole_asked_and_granted
import KE.RegKIsAll
import Wide.FinOn
import KE.KNestM
import KE.KEqDict
import KE.KDictList
open List (all_cons all_eq_true any_cons append_assoc append_nil drop_zero filter_append filter_cons filter_eq_self filter_map filter_sublist find?_cons getD_eq_getElem?_getD getElem?_append_left getElem?_append_right getElem?_eq_getElem getElem?_eq_none getElem?_eq_none_iff getElem?_map getElem?_set getElem_map getElem_mem getElem_of_mem length_append length_cons length_drop length_filter_le length_map length_nil length_range length_replicate length_set length_take lookup_cons map_append map_congr_left map_cons map_map map_nil map_take map_zipWith mem_append mem_append_left mem_append_right mem_cons mem_cons_of_mem mem_cons_self mem_filter mem_map mem_of_getElem? mem_of_mem_take mem_range mem_singleton nodup_cons not_mem_nil pairwise_cons range_succ range_succ_eq_map size_toArray take_length take_of_length_le)
set_option Elab.async false
set_option linter.all false
set_option maxRecDepth 100000
structure PySem.W.Fast:Prop where
 (tw11655542116081411461 tw14242176754858443046 tw1626900030586013160 tw1739276789927140008 tw14130349960000014985 tw11051959726783938473 tw14794575671139407978 tw13998302159609536938 tw634797259765193645 tw9948397496537039919 tw13805136907771848815 tw12376382032140003887 tw17401352274396625040 tw3003515558494744721 tw12836177839284354673 tw1215273839274446450 tw2349526931693875954 tw12751963099216738547 tw5185158603109895540 tw6701930258933151604 tw16157226667557139412 tw2912157933658582261 tw2070581542403369621 tw14534220205779035382 tw12435827935564353846 tw1041575327576166008 tw13758994714015793497 tw9684600182491258650 tw4300221004126699581 tw16644207327168234845 tw14600450471060891005 tw16964394661418656286 tw18435108795737811806 tw7895205329118157247 tw3709103453459450640 tw5971293790467500882 tw1516940554275754273 tw14410495178649479344 tw5630178183474987640 tw2471210811203381716 tw11619073074803087359 tw15386998980885479437 tw14168603542572342575 tw16073770393261642706 tw632650013867978045 tw14235896068806825607 tw12651259106606463383 tw12890410345167258569 tw14392613459384932794 tw10288503296103389048 tw14620297057909564402 tw14336537324931797576 tw98921094258887560 tw2397489049145372581 tw11141604123920440671 tw5946264591451023643 tw18267780473749776228 tw1895144546918880926 tw15607305612782605553 tw2643834765219276720 tw4995692468992143175 tw12079851511078802542 tw18329090488634033105 tw12327795092983469153 tw15086575805914794296 tw3443269964268862069 tw1258936243331537570 tw1247639071793399053 tw5549479172875632981 tw7246123829084308642 tw15661642753845305017 tw16831973594156204358 tw6218998700845364682 tw4639289275013049295 tw1306129601173362807 tw424644686568140101 tw8475539615239545168 tw61919966514003400 tw4455950001723076119 tw8616068795900524121 tw7025818658197923705 tw11230374398808499809 tw10456454442521272136 tw10735341662457542032 tw10672302426329871899 tw12262499082107713390 tw16335539342154991427 tw18219958891006342747 tw17976803886671969652 tw5953408195717213912 tw3705879753059476717 tw7035101016765412386 tw2388409855968950222 tw4511345236197930407 tw8587861260369310917 tw5580557670551005289 tw8829046886740905915 tw10564678941478249160 tw1848603554058290734 tw9870977084479183070 tw4308555349929009894 tw17440213118412051533 tw7105132311539912925 tw15794309575922838484 tw17560161719345482690 tw6553545345873444534 tw4335748262451911229 tw4711008037688769407 tw3713667046297431222 tw13186930138837225835 tw9749641897939822321 tw17171063163411345543 tw8664240585368438779 tw7684772168429338477 tw1892241088769875834 tw3191178427329017026 tw9774906128518646475 tw5610108425386626155 tw5240217045630263128 tw10658382678563444559 tw2891124440256583253 tw11014381737612942004 tw11089330887915482585 tw10162069930809028312 tw8702455627798374614 tw8175708871453736861 tw15774255362656726754 tw17325128453944574324 tw11797722480580875198 tw15727302839198507135 tw6097483829377764474 tw16472504675592370502 tw8827493237519786028 tw12895078358078711346 tw15300739420039616896 tw3808525079064984224 tw9089736661494601561 tw4670221197086384437 tw10049154771073860996 tw9069136029185312037 tw17037178058044994916 tw10241556621452303382 tw12997075431775734067 tw17124561591448956678 tw11058064005191936736 tw7750199466210896901 tw9919754679338805334 tw7897585806618656405 tw3691968018209847308 tw12940114133557925785 tw7947474871338102270 tw2370756795833296840 tw14727062397871343182 tw1232238692551325009 tw14661461876248983348 tw9274777008910267773 tw14360818091918640317 tw627324649892113516 tw13616473780424856545 tw16506410134146413040 tw5614535930194455226 tw7758522258223215532 tw18115692899133411547 tw8482582831260116955 tw16256071718573550884 tw5697492053010851806 tw11006332048946497904 tw7180622990222417759 tw15317029108902383219 tw13361567990908240177 tw14357074427363655540 tw2508730107657490256 tw837120241773503904 tw16494907474391619119 tw15469586359231463377 tw17720102414316807120 tw13454789937123273201 tw540422543849480372 tw4989574992666712173 tw9940904133721804686 tw17971023072354492955 tw840994750955697029 tw14324523355860310878 tw661318553627267064 tw16544926609243694729 tw13389883868887123071 tw14164129418606148817 tw7758369827250818721 tw11659354135153512841 tw1746572159192429056 tw16043934759565594976 tw6567737197131890609 tw10978690755511870580 tw16279021391732229467 tw7756168402557795322 tw16545544635082109637 tw9588844832598570421 tw16090925895157887784 tw2136546224075238411 tw1993572287471240577 tw3956361923324107886 tw8860896804747699847 tw1658466253790259759 tw8410403868804392000 tw17071970750125357654 tw8502500154578936460 tw16097516237753942906 tw15709185780613623849 tw7582058570875338818 tw16250128861163288233 tw11872567104135031665 tw12425932465054306663 tw2367365645715501906 tw18277602258344563508 tw8426763188977713701 tw5331576798344620052 tw17731628445355968604 tw16147809222923911421 tw10079489737740364502 tw8636344431306198869 tw5410877349024537184 tw7551959484549055609 tw15284661387799254256 tw14207061324031298973 tw8597427586595653315 tw2718833801885644038 tw14922217829387996217 tw7229529403837020245 tw13485837256916995749 tw12708104036198073358 tw10010133043881806537 tw5835218371432874934 tw305760591392790830 tw12820982589562313832 tw11888574228032552544 tw6927372574322212398 tw16323817594380317437 tw9259478613151656589 tw6117106462288089032 tw15723509143016955876 tw6184572904587425353 tw2916274645428436590 tw3264950598287536681 tw14736144616838321636 tw12671491184728573507 tw29762174231831149 tw14797109946468927760 tw16723571928081955193 tw2807756352332072460 tw2154595073051863321 tw3500416898929230001 tw12719516007430377681 tw2621302470735402919 tw602783991009916713 tw12238112688243454946 tw2774580734485928980 tw4820844481075890135 tw14347044193826158170 tw10730559327507968400 tw17513709027184152948 tw3817590689660983777 tw4526163194978028813 tw5398953830063666136 tw13710312039666302783 tw17748158670266632529 tw14597057166090631925 tw1459461567044810078 tw12763850660489401076 tw16158773769046439019 tw16885363871861828572 tw8165322359502474490 tw5088717030820423426 tw9459204665044433760 tw11575577796038422276 tw15532828823072793902 tw255915989174495167 tw872315491402459724 tw2251844461651349106 tw10187870574213823448 tw443698501234103743 tw15391444386720805154 tw12677553117371826453 tw14600094544762336477 tw11383099938243891038 tw747288869075806598 tw7980449336304933973 tw17036009972728442988 tw2208581897893716309 tw10279236167475180777 tw4695893245923532202 tw5779308663935726494 tw7010830155305232400 tw11948024995413360279 tw12731243508734265148 tw18067009164080634067 tw2644079432323017684 tw16094842308081007169 tw5094166994439889663 tw1091037856887065374 tw746077263257816355 tw12246780699875737637 tw11414494286996495638 tw9790609651524261418 tw15737952858593048787 tw10170432761218210257 tw8734630643004350303 tw12476158519108693327 tw8829972327394609118 tw5266857428755716561 tw15515978015244708111 tw9854724299421193841 tw5617842831117750391 tw371518577874741743 tw12178671648735014931 tw7849074720679371669 tw8157172169201502513 tw10362348369272022356 tw13487702694599261299 tw14851959534185026574 tw2798758611553521778 tw14847236698740189652 tw6721845458533997463 tw16093925986890632329 tw7743189970659773342 tw14056765799586894193 tw6649953156290268405 tw11554091055615110809 tw8084836221044732526 tw17057940996185262034 tw1030321122063565021 tw3555068292201975425 tw14510452468860656721 tw188543428528738064 tw13974730260147607424 tw4566173564165997862 tw9115772717514274445 tw7917048160188015946 tw14439913162906764078 tw6583336899210772500 tw14002134722955943313 tw2613456187074508086 tw3177244207362855530 tw1183449728142326516 tw9157030992194488114 tw10630150085668006620 tw9984104506088663843 tw4182314867401315834 tw12299181097486776317 tw15795235741255271904 tw16742211620583656114 tw6494611225819636197 tw16999773290714940447 tw10491184444042854805 tw14306934934923229141 tw13317816323318726218 tw4236752358696558223 tw3500688266806793285 tw11271091865320236906 tw2873781414410492890 tw5543022762155231879 tw12001168595819337968 tw15059351625489526588 tw1700674737260301516 tw11867097884723698776 tw11040754587391037098 tw6510544343579157534 tw12317193216674455140 tw4744527085665953986 tw111742505849681607 tw644404900915584915 tw5897245241601815559 tw5336299357134492603 tw10920606652081964399 tw10078648842196595943 tw6837595804983038570 tw7468416741806359790 tw5033344988075179825 tw4976647362123711003 tw8183763605539204071 tw10791851704108987077 tw12926571421479147923 tw271127594843689344 tw8180715876950435669 tw12808077801623896335 tw4699902491959071594 tw4865198768566706734 tw1044945640411535540 tw17284639625423559498 tw9560139043682033271 tw17897349746817600352 tw6662259403116368247 tw8997139097854910718 tw1938082903517699013 tw9086992976521111963 tw9637290656684105936 tw7846161795762784753 tw16830556507163737844 tw15207573866954933688 tw13073706480469948570 tw17549927744915433903 tw2307841854963219246 tw7073830646747985875 tw7657153001175701431 tw10574536711367507873 tw12051127641260564344 tw1446569339407313125 tw380542102716878000 tw5863453929663009796 tw12927935991944144326 tw13987573156903300488 tw7176865823650385431 tw1253370965695960640 tw14785661273718659230 tw13636115998281519715 tw3178216124645962607 tw10915458678616510310 tw10499580325790115794 tw312426257191271550 tw12109750984416111888 tw1012708591184457633 tw56687646931751182 tw2253155224124796273 tw3217850415142214872 tw17843141575686656022 tw16942128120451943977 tw13745254124845585491 tw11736797857355491489 tw14995777255755178202 tw13948035941979221096 tw15865415349920042790 tw18010767239411169482 tw42953596022177375 tw1047672688278297420 tw1710611377055593009:True)
open PySem PySem.W PyProof.Rows in
set_option maxRecDepth 100000 in
set_option maxHeartbeats 0 in
open_top K96hd for PySem.Challenge.rw_greywait_k96_whole_asked_and_granted
def tm:=@List.getElem?_eq_getElem
def tq:=@List.length_map
def tu:=@PySem.Heap.get?_push_of_some
def tw:=@PySem.wpAny_bind
def tz:=@List.mem_of_getElem?
def tD:=@Nat.le_refl
def tE:=@Bool.false_ne_true
def tF:=@Option.some.inj
def tG:=@PySem.Heap.lt_size
def tH:=@PySem.Heap.get?_push_size
def tI:=@PySem.wpAny_pure
def tJ:=@Nat.ne_of_lt
def tK:=@List.getD_eq_getElem?_getD
def tL:=@decide_eq_false
def tM:=@Nat.le_trans
def tN:=@Nat.lt_of_lt_of_le
def tO:=@List.mem_cons_of_mem
def tP:=@List.mem_cons_self
def tQ:=@List.length_append
def tR:=@List.mem_append_right
def tS:=@congrArg
def tU:=@Nat.zero_le
def tV:=@List.map_append
def tW:=@List.map_map
def tX:=@List.getElem_of_mem
def tY:=@PySem.PassesOwn.never
def tZ:=@PySem.wpAny_holding
def t4:=@of_decide_eq_true
def t6:=@List.length_filter_le
def t7:=@List.getElem?_append_right
def t8:=@Int.emod_lt_of_pos
def se:=@Int.emod_nonneg
def sf:=@List.map_cons
def sg:=@PySem.mem_of_lookup
def si:=@List.getElem?_append_left
def sj:=@Nat.le_succ
def sk:=@PySem.W.mg_none_of
def so:=@PySem.wpAny_mono
def ss:=@Nat.lt_succ_self
def su:=@List.length_take
def sv:=@List.take_of_length_le
def sw:=@Bool.eq_iff_iff
def sy:=@decide_eq_true_iff
def sG:=@Sum.inr.inj
def sI:=@PySem.wpAny_truthy_bool
def sJ:=@List.getElem_mem
def sL:=@PySem.F.slot_dict_get
def sM:=@List.append_nil
def sO:=@PySem.wpAny_Call_Name_kw
def sP:=@List.filter_map
def sQ:=@List.filter_cons
def sT:=@PySem.lookup_relabel_local
def sU:=@List.length_range
def sV:=@PyProof.Rows.F.plain_set_update_loop
def sW:=@List.range_succ_eq_map
def sX:=@PyProof.Rows.callWith_type1
def sY:=@Int.mul_nonpos_of_nonpos_of_nonneg
def sZ:=@List.getElem?_eq_none
def rc:=@Nat.lt_of_le_of_lt
def re:=@Array.getElem?_eq_getElem
def rf:=@PySem.wpAny_passesOwn
def rg:=@PySem.wpAny_pyIter_list
def rh:=@PySem.W.mg_of
def rj:=@PySem.codeAny_mono
def rm:=@PySem.wpAny_getItem_str_slice
def rn:=@decide_eq_false_iff_not
def rp:=@Bool.true_and
def rA:=@List.filter_append
def rB:=@PySem.BindsTo.of_defaults
def rC:=@Int.toNat_of_nonneg
def rD:=@Int.ediv_le_self
def rE:=@List.ext_getElem
def rF:=@PySem.F.entry_dict_get
def rG:=@PySem.Calls.spliced_cons
def rH:=@PySem.tupleKind_room_in1
def rJ:=@PySem.W.kia_one
def rK:=@Int.le_of_lt
def rL:=@Int.le_refl
def rM:=@Nat.lt_irrefl
def rO:=@PySem.wpAny_standAt
def rP:=@PyProof.Rows.listUpdate_at
def rQ:=@PySem.Around.under_plainId
def rR:=@Bool.false_and
def rS:=@List.getElem?_zip_eq_some
def rT:=@List.mem_of_find?_eq_some
def rV:=@List.map_congr_left
def rW:=@PyProof.Rows.F.entry_set_update_loop
def rX:=@beq_self_eq_true
def rY:=@PySem.Heap.get?_update_ne
def rZ:=@PySem.Heap.SameBut.update
def r8:=@List.take_length
def qa:=@Nat.zero_add
def qb:=@PySem.F.slot_list_append
def qc:=@PySem.F.type_list_append
def qd:=@List.getElem?_replicate
def qe:=@PyProof.Rows.get?_update_seq
def qf:=@Int.eq_ofNat_of_zero_le
def qg:=@PySem.codeAny_builtin
def qi:=@Int.ediv_nonneg
def qj:=@PySem.F.plainAttrs_list
def ql:=@PySem.wpAny_pyNext_list_item
def qm:=@PySem.Calls.callWith_builtin
def qr:=@Sum.inl.inj
def qt:=@PySem.Calls.spliced_nil
def qu:=@Nat.lt_succ_of_lt
def qx:=@List.ext_getElem?
def qy:=@PySem.Heap.size_push
def qA:=@Int.mul_nonneg
def qB:=@Nat.ne_of_gt
def qC:=@PySem.wpAny_pyNext_list_end
def qD:=@PyProof.Rows.callWith_builtin1
def qE:=@List.getElem?_set
def qF:=@List.length_replicate
def qG:=@Option.bind_some
def qH:=@PySem.Calls.evalArgs_plain
def qI:=@PySem.wpAny_newFunctionEnv
def qJ:=@List.any_cons
def qK:=@PySem.wpAny_call
def qM:=@List.filterMap_cons
def qN:=@List.mem_append_left
def qO:=@PySem.wpAny_execs_nil
def qP:=@PySem.SeqAt.EqAt.same
def qQ:=@Int.ediv_mul_cancel
def qR:=@PySem.post_val_or_str
def qS:=@List.mem_map_of_mem
def qU:=@List.mem_of_mem_take
def qV:=@Nat.le_of_lt
def qW:=@PyProof.Rows.assignInOrder_cons
def qX:=@PySem.W.callWith_K
def qZ:=@Nat.lt_trans
def pd:=@PySem.wpAny_assign_Name
def pe:=@PySem.wpAny_newObj_type
def pf:=@Int.toNat_natCast
def ph:=@List.range_succ
def pj:=@List.length_drop
def pk:=@Int.mul_pos
def pq:=@Int.sub_mul
def pr:=@PySem.wpAny_newList
def pA:=@PyProof.Rows.seqEpoch_at
def pB:=@Int.dvd_trans
def pC:=@List.getElem_inj
def pD:=@PySem.wpAny_execs_cons
def pE:=@PySem.Around.in1_units
def pF:=@List.map_snd_zip
def pG:=@Nat.le_of_eq
def pH:=@PySem.call_meetsIn
def pI:=@PySem.Txt.slice_le
def pJ:=@List.append_assoc
def pK:=@Int.le_trans
def pL:=@PySem.typeIs_str
def pM:=@List.length_set
def pN:=@List.all_cons
abbrev ac:=PySem.Value->PySem.Shared->Prop
abbrev ae:=List (PySem.Addr × PySem.Obj)
abbrev af:=PySem.Str->Option PySem.Value
abbrev ah:=List PySem.Value
abbrev aj:=Option PySem.Addr
abbrev ak:=List (Int × Int)
abbrev am:=PySem.W.Frag
abbrev ap:=Array (Option PySem.Value)
abbrev aq:=Unit->PySem.Shared->Prop
namespace L2
open PySem PySem.Spec PyProof.Rows
abbrev Key:=Sum Int Str
def zkO:Key->Value->Bool
 | .inl k,v=>Value.isInt k v
 | .inr x,v=>Value.isStrOf x v
def keyH(w:World):Key->Int
 | .inl k=>hashInt k
 | .inr x=>hashStr w x
theorem zbe:∀{k:Key}{v:Value},zkO k v=true->(∃i t,k=Sum.inl i/\v=Value.int i t)\/(∃x t,k=Sum.inr x/\v=Value.str x t)
 | .inl i,v,h=>by
   obtain⟨t,e⟩:=Value.isInt_shape (k:=i) (v:=v) h
   exact .inl ⟨i,t,rfl,e⟩
 | .inr x,v,h=>by
   obtain⟨t,e⟩:=Value.isStrOf_shape (x:=x) (v:=v) h
   exact .inr ⟨x,t,rfl,e⟩
def znh(i:Int)(t:Tok):zkO (.inl i) (.int i t)=true:=by simp[zkO,Value.isInt]
def zni(x:Str)(t:Tok):zkO (.inr x) (.str x t)=true:=by simp[zkO,Value.isStrOf]
def zso(a b:Int):decide ((Sum.inl a:Key)=Sum.inl b)=(a==b):=by
 by_cases e:a=b
 ·subst e;simp
 ·have h:¬(Sum.inl a:Key)=Sum.inl b:=λq=>e (qr q)
  rw[tL h]
  exact(beq_eq_false_iff_ne.mpr e).symm
def zsp(a b:Str):decide ((Sum.inr a:Key)=Sum.inr b)=decide (a=b):=by
 by_cases e:a=b
 ·subst e;simp
 ·have h:¬(Sum.inr a:Key)=Sum.inr b:=λq=>e (sG q)
  rw[tL h,tL e]
def zsq(a:Int)(b:Str):decide ((Sum.inl a:Key)=Sum.inr b)=false:=tL (λq=>nomatch q)
def zsr(a:Str)(b:Int):decide ((Sum.inr a:Key)=Sum.inl b)=false:=tL (λq=>nomatch q)
def zaG(prog:Program)(w:World):PySem.KeyKind prog w Key where
 is:=zkO
 hash:=keyH w
 inj:=λv a b ha hb=>by
  rcases zbe ha with⟨i,t,rfl,rfl⟩ | ⟨x,t,rfl,rfl⟩
  ·rcases zbe hb with⟨j,u,rfl,e⟩ | ⟨y,u,rfl,e⟩
   ·injection e with e1 _;rw[e1]
   ·exact nomatch e
  ·rcases zbe hb with⟨j,u,rfl,e⟩ | ⟨y,u,rfl,e⟩
   ·exact nomatch e
   ·injection e with e1 _;rw[e1]
 byValue:=λk v h=>by
  rcases zbe h with⟨i,t,rfl,rfl⟩ | ⟨x,t,rfl,rfl⟩<;>rfl
 pyHash:=λhv h=>by
  rcases zbe hv with⟨i,t,rfl,rfl⟩ | ⟨x,t,rfl,rfl⟩
  ·exact wpAny_pyHash_int h
  ·exact wpAny_pyHash_str h
 eqBool:=λhu hv h=>by
  rcases zbe hu with⟨i,t,rfl,rfl⟩ | ⟨x,t,rfl,rfl⟩
  ·rcases zbe hv with⟨j,u,rfl,rfl⟩ | ⟨y,u,rfl,rfl⟩
   ·rw[zso]at h;exact wpAny_eqBool_int h
   ·rw[zsq]at h;exact SeqAt.EqAt.int_str i t y u _ _ _ _ h
  ·rcases zbe hv with⟨j,u,rfl,rfl⟩ | ⟨y,u,rfl,rfl⟩
   ·rw[zsr]at h;exact SeqAt.EqAt.str_int x t j u _ _ _ _ h
   ·rw[zsp]at h;exact wpAny_eqBool_str h
 «strs» := λk x t v h=>by
  rcases zbe h with⟨i,u,rfl,e⟩ | ⟨y,u,rfl,e⟩
  ·exact nomatch e
  ·injection e with e1 _
   subst e1
   cases v<;>rfl
def ziA(prog:Program)(w:World)(k:Key)(v:Value):(zaG prog w).is k v=zkO k v:=rfl
def zkP(prog:Program)(w:World)(i:Int)(t:Tok):(zaG prog w).is (.inl i) (.int i t)=true:=znh i t
def zkQ(prog:Program)(w:World)(x:Str)(t:Tok):(zaG prog w).is (.inr x) (.str x t)=true:=zni x t
inductive V where
 | non | bl (b:Bool) | int (i:Int) | str (x:Str) | byt (b:Array UInt8) | flt (b:UInt64) | ref (a:Addr) | ty (n:String)
 deriving DecidableEq
def RelV:V->Value->Prop
 | .non,u=>u=Value.none
 | .bl b,u=>u=Value.bool b
 | .int i,u=>∃t,u=Value.int i t
 | .str x,u=>∃t,u=Value.str x t
 | .byt b,u=>∃t,u=Value.bytes b t
 | .flt b,u=>∃t,u=Value.float b t
 | .ref a,u=>u=Value.ref a
 | .ty n,u=>u=Value.type n
abbrev Vals:List V->List Value->Prop:=Paired RelV
def Vals.length{xs:List V}{us:ah}(r:Vals xs us):xs.length=us.length:=Paired.length r
theorem Vals.get:∀{xs:List V}{us:ah}{i:Nat}{x:V},Vals xs us->xs[i]?=some x->∃u,us[i]?=some u/\RelV x u
 | _,_,_,_,.nil,e=>by simp at e
 | _,_,0,_,.cons r _,e=>by simp at e;subst e;exact⟨_,rfl,r⟩
 | _,_,i+1,x,.cons _ t,e=>by
   obtain⟨u,h1,h2⟩:=Vals.get (i:=i) (x:=x) t (by simpa using e)
   exact⟨u,by simpa using h1,h2⟩
theorem Vals.set{x:V}{u:Value}(r:RelV x u):∀{xs:List V}{us:ah}(i:Nat),Vals xs us->Vals (xs.set i x) (us.set i u)
 | _,_,_,.nil=>.nil
 | _,_,0,.cons _ t=>.cons r t
 | _,_,i+1,.cons q t=>.cons q (Vals.set r i t)
theorem Vals.append:∀{xs ys:List V}{us ws:ah},Vals xs us->Vals ys ws->Vals (xs++ys) (us++ws)
 | _,_,_,_,.nil,s=>s
 | _,_,_,_,.cons r t,s=>.cons r (Vals.append t s)
theorem Vals.take:∀{xs:List V}{us:ah}(n:Nat),Vals xs us->Vals (xs.take n) (us.take n)
 | _,_,0,_=>.nil
 | _,_,_+1,.nil=>.nil
 | _,_,n+1,.cons r t=>.cons r (Vals.take n t)
theorem Vals.drop:∀{xs:List V}{us:ah}(n:Nat),Vals xs us->Vals (xs.drop n) (us.drop n)
 | _,_,0,r=>r
 | _,_,_+1,.nil=>.nil
 | _,_,n+1,.cons _ t=>Vals.drop n t
def RelO:Option V->Option Value->Prop
 | some v,some u=>RelV v u
 | none,none=>True
 | _,_=>False
def KV{κ:Type}:List (κ × V)->List (κ × Value)->Prop:=Paired λ(p : κ × V)(q : κ × Value)=>p.1=q.1/\RelV p.2 q.2
def kV:Key->V
 | .inl i=>.int i
 | .inr x=>.str x
inductive HO where
 | lst (xs:List V)
 | tup (xs:List V)
 | dK (kvs:List (Key × V)) | dT (kvs:List (List Key × V))
 | set (S:Int->Bool) (n:Nat)
 | ins (C dx:Addr) (fs:List (Str × V))
 | own (x:Addr)
 | xd (fs:List (Str × V))
 | met (f x:Addr)
 | rng (lo hi:Int)
 | frz (o:Obj) (u:HO)
 | tbl (lp:Pos) (lq:Str)
 | ext (φ:Heap->Prop)
abbrev Hp:=Addr->Option HO
def upd(H:Hp)(a:Addr)(o:HO):Hp:=λb=>if b=a then some o else H b
def zan{H:Hp}{a:Addr}{o:HO}:upd H a o a=some o:=by unfold upd;rw[if_pos rfl]
def zau{H:Hp}{a b:Addr}{o:HO}(h:b≠a):upd H a o b=H b:=by unfold upd;rw[if_neg h]
def zpt{H:Hp}{a b:Addr}{o u:HO}(h:H a=some o)(h':H b=some u)(d:o≠u):a≠b:=by
 intro e;subst e;rw[h]at h';exact d (tF h')
def zaA{H:Hp}{a b:Addr}{o:HO}(h:H a=some o)(h':H b=none):a≠b:=by
 intro e;subst e;rw[h]at h';cases h'
section
variable(P:Program)(w:World)
def zbw(H:Hp)(h:Heap)(a:Addr):HO->Prop
 | .lst xs=>xs.length<=sizeLine/\∃(its:ah)(n:Nat),Vals xs its/\h.get? a=some { cls:=.type "list",data:=.seq its.toArray n }
 | .tup xs=>xs.length<=sizeLine/\∃its:List Value,Vals xs its/\IsTup h a its.toArray
 | .dK kvs=>kvs.length<=sizeLine/\(a==sysModules)=false/\∃vs,KV kvs vs/\h.DictOf (zaG P w) a vs
 | .dT kvs=>kvs.length<=sizeLine/\(a==sysModules)=false/\∃xs:List (List Key × Addr × Value),
    Paired (λ(p:List Key × V)(q:List Key × Addr × Value)=>p.1=q.1/\H q.2.1=some (.tup (p.1.map kV))/\RelV p.2 q.2.2) kvs xs/\
    ∃o es ep,h.get? a=some o/\o.ExactDict/\o.data=.dict es ep/\es.toList=xs.map (entryOfKey (tupleKind (zaG P w)))/\(xs.map (·.1)).Nodup
 | .set S n=>h.SetOf (intKind P w) a S n
 | .ins C dx fs=>H dx=some (.own a)/\fs.length<=1000/\dx≠a/\h.get? a=some (W.instObj C dx)/\
    ∃mA,h.Ns1 dx mA/\(∀f,RelO (fs.lookup f) (mA f))/\PySem.Within mA (fs.map (·.1))
 | .own _=>∃o,h.get? a=some o
 | .xd fs=>∃mA,h.Ns1 a mA/\∀f,RelO (fs.lookup f) (mA f)
 | .rng lo hi=>∃t u v,h.get? a=some { cls:=.type "range",data:=.fields #[.int lo t,.int hi u,.int 1 v] }
 | .frz o u=>h.get? a=some o/\zbw H h a u
 | .tbl lp lq=>∃vs:Array Value,h.get? a=some { cls:=.none,data:=.fields vs }/\TriplesOk vs.toList/\(codeAmong lp vs.toList=none\/∃c oc us t,codeAmong lp vs.toList=some (.ref c)/\H c=some (.frz oc (.own c))/\oc.data=.fields us/\us[1]?=some (.str lq t))
 | .met f x=>h.get? a=some (W.methodObj (.ref f) (.ref x))
 | .ext φ => φ h/\(∃o,h.get? a=some o)/\∀h1 h2:Heap,φ h1->(∀o,h1.get? a=some o->h2.get? a=some o) -> φ h2
def HOk(H:Hp)(h:Heap):Prop:=∀a o,H a=some o->zbw P w H h a o
end
section
variable{P:Program}{w:World}{H H':Hp}{h h':Heap}{a:Addr}{o:HO}
theorem zbw.lt(x:zbw P w H h a o):a<h.objs.size:=by
 cases o with
 | lst xs=>obtain⟨_,_,_,_,e⟩:=x;exact tG e
 | tup xs=>obtain⟨_,_,_,p⟩:=x;exact p.lt
 | dK kvs=>obtain⟨_,_,_,_,o,_,_,e,_⟩:=x;exact tG e
 | dT kvs=>obtain⟨_,_,_,_,o,_,_,e,_⟩:=x;exact tG e
 | set S n=>obtain⟨o,_,_,_,e,_⟩:=x;exact tG e
 | ins C dx fs=>obtain⟨_,_,_,e,_⟩:=x;exact tG e
 | own y=>obtain⟨_,e⟩:=x;exact tG e
 | xd fs=>obtain⟨_,⟨_,_,_,e,_⟩,_⟩:=x;exact tG e
 | rng lo hi=>obtain⟨_,_,_,e⟩:=x;exact tG e
 | frz ob u=>obtain⟨e,_⟩:=x;exact tG e
 | tbl lp lq=>obtain⟨_,e,_⟩:=x;exact tG e
 | met f y=>exact tG (show h.get? a=some _ from x)
 | ext φ=>obtain⟨_,⟨_,e⟩,_⟩:=x;exact tG e
theorem Paired.mapP{α β:Type}{F G : α -> β->Prop}:∀{l₁:List α}{l₂:List β},Paired F l₁ l₂->(∀a b,F a b->G a b)->Paired G l₁ l₂
 | _,_,.nil,_=>.nil
 | _,_,.cons r t,f=>.cons (f _ _ r) (Paired.mapP t f)
theorem zbw.stay(x:zbw P w H h a o)(k:∀b u,(b=a\/H b=some (.own a))->h.get? b=some u->h'.get? b=some u)
  (ho:∀b,H b=some (.own a)->H' b=some (.own a)) (ht:∀b xs,H b=some (.tup xs)->H' b=some (.tup xs)) (hz:∀b ob u,H b=some (.frz ob u)->H' b=some (.frz ob u)):zbw P w H' h' a o:=by
 induction o with
 | lst xs=>obtain⟨z,its,n,r,e⟩:=x;exact⟨z,its,n,r,k _ _ (.inl rfl) e⟩
 | tup xs=>obtain⟨z,its,r,ob,e,c⟩:=x;exact⟨z,its,r,ob,k _ _ (.inl rfl) e,c⟩
 | dK kvs=>obtain⟨z,y,vs,r,ob,es,ep,e,c⟩:=x;exact⟨z,y,vs,r,ob,es,ep,k _ _ (.inl rfl) e,c⟩
 | dT kvs=>
   obtain⟨z,y,xs,r,ob,es,ep,e,c⟩:=x
   exact⟨z,y,xs,Paired.mapP r λp q z=>⟨z.1,ht _ _ z.2.1,z.2.2⟩,ob,es,ep,k _ _ (.inl rfl) e,c⟩
 | set S n=>obtain⟨ob,es,ep,t,e,c⟩:=x;exact⟨ob,es,ep,t,k _ _ (.inl rfl) e,c⟩
 | ins C dx fs=>
   obtain⟨d,z,ne,e,mA,⟨od,es,ep,e2,c⟩,r⟩:=x
   exact⟨ho _ d,z,ne,k _ _ (.inl rfl) e,mA,⟨od,es,ep,k _ _ (.inr d) e2,c⟩,r⟩
 | own y=>obtain⟨ob,e⟩:=x;exact⟨ob,k _ _ (.inl rfl) e⟩
 | xd fs=>obtain⟨mA,⟨od,es,ep,e,c⟩,r⟩:=x;exact⟨mA,⟨od,es,ep,k _ _ (.inl rfl) e,c⟩,r⟩
 | rng lo hi=>obtain⟨t,u,v,e⟩:=x;exact⟨t,u,v,k _ _ (.inl rfl) e⟩
 | frz ob u ih=>obtain⟨e,q⟩:=x;exact⟨k _ _ (.inl rfl) e,ih q⟩
 | tbl lp lq=>
   obtain⟨vs,e,tr,r⟩:=x
   exact⟨vs,k a _ (.inl rfl) e,tr,r.imp id λ⟨c,oc,us,t,e1,e2,e3⟩=>⟨c,oc,us,t,e1,hz _ _ _ e2,e3⟩⟩
 | met f y=>
   have e:h.get? a=some (W.methodObj (.ref f) (.ref y)):=x
   show h'.get? a=some (W.methodObj (.ref f) (.ref y))
   exact k a _ (.inl rfl) e
 | ext φ=>obtain⟨p,⟨o,e⟩,st⟩:=x;exact⟨st _ _ p λo q=>k _ _ (.inl rfl) q,⟨o,k _ _ (.inl rfl) e⟩,st⟩
def HOk.lt(x:HOk P w H h)(e:H a=some o):a<h.objs.size:=(x a o e).lt
theorem HOk.fresh(x:HOk P w H h)(e:h.objs.size<=a):H a=none:=by
 cases q:H a with
 | none=>rfl
 | some u=>exact absurd (tN (x.lt q) e) (rM _)
def HOk.kept(x:HOk P w H h)(k:∀b u,h.get? b=some u->h'.get? b=some u):HOk P w H h':=λa o e=>
 (x a o e).stay (λb u _ q=>k b u q) (λ_ q=>q) (λ_ _ q=>q) λ_ _ _ q=>q
def HOk.laid(x:HOk P w H h)(k:∀b u,h.get? b=some u->h'.get? b=some u)(hp:h.objs.size<=a)(new:zbw P w (upd H a o) h' a o):HOk P w (upd H a o) h':=λb u e=>by
 have hn:=x.fresh hp
 by_cases hb:b=a
 ·subst hb;rw[zan]at e;cases e;exact new
 ·rw[zau hb]at e
  exact(x b u e).stay (λc v _ q=>k c v q) (λc q=>by rw[zau (zaA q hn)];exact q) (λc xs q=>by rw[zau (zaA q hn)];exact q) λc ob xs q=>by rw[zau (zaA q hn)];exact q
end
def Rd(H:Hp)(a:Addr)(u:HO):Prop:=H a=some u\/∃o,H a=some (.frz o u)
def Rd.ok{P:Program}{w:World}{H:Hp}{h:Heap}{a:Addr}{u:HO}(r:Rd H a u)(x:HOk P w H h):zbw P w H h a u:=by
 rcases r with r | ⟨o,r⟩
 ·exact x a u r
 ·obtain⟨_,q⟩:=x a _ r
  exact q
def Mut:Option HO->Prop
 | some (.lst _)=>True
 | some (.dK _)=>True
 | some (.dT _)=>True
 | some (.set _ _)=>True
 | some (.ins _ _ _)=>True
 | some (.ext _)=>True
 | _=>False
section
variable{P:Program}{w:World}{H:Hp}{h h':Heap}{x e:Addr}{o':HO}
def HOk.write(ok:HOk P w H h)(mu:Mut (H x))(he:e=x\/H e=some (.own x))(k:∀b u,b≠e->h.get? b=some u->h'.get? b=some u)(heo:∃u,h'.get? e=some u)
    (new:zbw P w (upd H x o') h' x o'):HOk P w (upd H x o') h':=λb u q=>by
 have nown:∀c y,H c=some (.own y)->c≠x:=λc y r z=>by subst z;rw[r]at mu;exact mu
 have ntup:∀c xs,H c=some (.tup xs)->c≠x:=λc xs r z=>by subst z;rw[r]at mu;exact mu
 have nfrz:∀c ob xs,H c=some (.frz ob xs)->c≠x:=λc ob xs r z=>by subst z;rw[r]at mu;exact mu
 by_cases hb:b=x
 ·subst hb;rw[zan]at q;cases q;exact new
 ·rw[zau hb]at q
  by_cases hbe:b=e
  ·have q':H b=some (.own x):=by
    rcases he with z | z
    ·exact absurd (hbe.trans z) hb
    ·rw[hbe];exact z
   rw[q]at q';cases q'
   obtain⟨v,hv⟩:=heo
   exact⟨v,by rw[hbe];exact hv⟩
  ·refine(ok b u q).stay (λc v hc r=>k c v ?_ r) (λc r=>by rw[zau (nown c b r)];exact r) (λc xs r=>by rw[zau (ntup c xs r)];exact r) λc ob xs r=>by rw[zau (nfrz c ob xs r)];exact r
   rcases hc with rfl | hc
   ·exact hbe
   ·rintro rfl
    rcases he with z | z
    ·exact nown c b hc z
    ·rw[hc]at z;cases z;exact hb rfl
end
structure Un(fs ex:List Addr)(H H':Hp)(h h':Heap):Prop where
 keep:∀b o,h.get? b=some o->H b=none->b∉fs->b∉ex->h'.get? b=some o
 slot:∀b o,h.get? b=some o->H b=none->b∈fs->b∉ex->∃sl,h'.get? b=some { o with slots:=sl }
 free:∀b o,h.get? b=some o->H b=none->b∉ex->H' b=none
 there:∀b o,h.get? b=some o->b∉ex->∃o',h'.get? b=some o'
 tups:∀b xs,H b=some (.tup xs)->H' b=some (.tup xs)
 frzs:∀b o u,H b=some (.frz o u)->H' b=some (.frz o u)
 tbls:∀b lp lq,H b=some (.tbl lp lq)->H' b=some (.tbl lp lq)
section
variable{fs fs' ex ex':List Addr}{H H1 H2:Hp}{h h1 h2 h':Heap}{a x e:Addr}{o:HO}
def Un.any(u:Un fs ex H H1 h h1){b:Addr}{ob:Obj}(q:h.get? b=some ob)(n:H b=none)(hx:b∉ex):∃sl,h1.get? b=some { ob with slots:=sl }:=by
 by_cases hb:b∈fs
 ·exact u.slot b ob q n hb hx
 ·exact⟨ob.slots,u.keep b ob q n hb hx⟩
def Un.kept(k:∀b u,h.get? b=some u->h'.get? b=some u):Un fs ex H H h h':=
 ⟨λb ob q _ _ _=>k b ob q,λb ob q _ _ _=>⟨ob.slots,k b ob q⟩,λ_ _ _ n _=>n,λb ob q _=>⟨ob,k b ob q⟩,λ_ _ q=>q,λ_ _ _ q=>q,λ_ _ _ q=>q⟩
def Un.refl:Un fs ex H H h h:=Un.kept λ_ _ q=>q
def Un.laid(k:∀b u,h.get? b=some u->h'.get? b=some u)(hp:h.objs.size<=a)(hn:H a=none):Un fs ex H (upd H a o) h h' where
 keep:=λb u q _ _ _=>k b u q
 slot:=λb u q _ _ _=>⟨u.slots,k b u q⟩
 free:=λb u q n _=>by rw[zau (tJ (tN (tG q) hp))];exact n
 there:=λb u q _=>⟨u,k b u q⟩
 tups:=λb xs q=>by rw[zau (zaA q hn)];exact q
 frzs:=λb u xs q=>by rw[zau (zaA q hn)];exact q
 tbls:=λb lp lq q=>by rw[zau (zaA q hn)];exact q
def Un.write(mu:Mut (H x))(he:e=x\/H e=some (.own x))(k:∀b u,b≠e->h.get? b=some u->h'.get? b=some u)(heo:∃u,h'.get? e=some u):Un fs ex H (upd H x o) h h':=by
 have hx:∀b,H b=none->b≠x:=λb n z=>by subst z;rw[n]at mu;exact mu
 have hb:∀b,H b=none->b≠e:=λb n z=>by
  subst z
  rcases he with r | r
  ·exact hx b n r
  ·rw[n]at r;cases r
 have hm:∀b u,H b=some u->¬Mut (some u)->b≠x:=λb u q nm z=>by subst z;rw[q]at mu;exact nm mu
 refine⟨λb u q n _ _=>k b u (hb b n) q,λb u q n _ _=>⟨u.slots,k b u (hb b n) q⟩,λb u q n _=>by rw[zau (hx b n)];exact n,λb u q _=>?_,
  λb xs q=>by rw[zau (hm b _ q λz=>z)];exact q,λb u xs q=>by rw[zau (hm b _ q λz=>z)];exact q,λb lp lq q=>by rw[zau (hm b _ q λz=>z)];exact q⟩
 by_cases hbe:b=e
 ·subst hbe;exact heo
 ·exact⟨u,k b u hbe q⟩
end
def trk(h:Heap)(H:Hp):List Addr:=(List.range h.objs.size).filter λa=>(H a).isSome
def hidT(h:Heap)(H:Hp):Heap:=W.hideAll h (trk h H)
def znj(h:Heap)(H:Hp):(hidT h H).objs.size=h.objs.size:=W.hideAll_size _ _
def zpu{h:Heap}{H:Hp}{b:Addr}{o:Obj}(e:h.get? b=some o)(n:H b=none):(hidT h H).get? b=some o:=
 W.hideAll_get _ e λhm=>by
  have q:(H b).isSome=true:=(mem_filter.mp hm).2
  rw[n]at q;simp at q
theorem zrn{h:Heap}{H:Hp}{b:Addr}{o:Obj}(e:(hidT h H).get? b=some o):h.get? b=some o/\H b=none:=by
 have e':h.get? b=some o:=W.of_hideAll (trk h H) e
 refine⟨e',?_⟩
 cases q:H b with
 | none=>rfl
 | some x=>
   have hm:b∈trk h H:=mem_filter.mpr ⟨mem_range.mpr (tG e'),by simp[q]⟩
   have z:(hidT h H).get? b=none:=W.hideAll_none (trk h H) hm
   rw[z]at e;cases e
def zro(g h:Heap)(L:Addr):List (Addr × Obj):=(List.range h.objs.size).filterMap λa=>if a=L\/(g.get? a).isSome=true then none else(h.get? a).map λo=>(a,o)
def rest(g h:Heap)(L d:Addr):List (Addr × Obj):=(zro g h L).filter λp=>decide (p.1≠d)
structure Mod(K:am)(mg:af)(bf:Heap):Prop where
 kin:K.In bf
 glob:bf.Ns mainGlobals mg
 blt:∃mb,bf.Ns builtinsNs mb/\∀x:Str,x ≠ "__name__" -> mb x=bootBuiltins x
 nolimit:bf.NoLimit
structure Cx where
 prog:Program
 w:World
 K:W.Frag
 mg:Str->Option Value
 bf:Heap
 A:Around
 N:List Str
 s₀:Shared
 H₀:Hp
 env:Env
 outer:List Env
 stack:List Env
 ex:List Addr
 fn:Str->Bool
 calm:Bool
 pn:List (Addr × Obj)
 xe:Value->Shared->Prop
def frs(l:List Env):List Addr:=l.filterMap (·.frame)
abbrev Cx.fs(X:Cx):List Addr:=frs X.outer
def Vis(sc:Scope)(x:Str):Prop:=sc.names.lookup x=some .local\/sc.names.lookup x=some .cell\/sc.names.lookup x=some .free
def Loc(sc:Scope)(x:Str):Prop:=sc.names.lookup x=some .local\/sc.names.lookup x=some .cell
def Look(env:Env)(h:Heap)(m:af)(x:Str)(u:Value):Prop:=
 (env.kindOf x=some .local/\m x=some u)\/((env.kindOf x=some .cell\/env.kindOf x=some .free)/\∃c,env.cells.lookup x=some c/\h.IsCell c (some u))
structure Cx.Ok(X:Cx):Prop where
 mod:Mod X.K X.mg X.bf
 kind:X.env.scope.kind=.function
 glob:X.env.globals=mainGlobals
 blt:X.env.builtins=builtinsNs
 above:X.s₀.heap.objs.size<=X.env.locals
 inj:∀x y c,X.env.cells.lookup x=some c->X.env.cells.lookup y=some c->x=y
 has:∀x,(X.env.kindOf x=some .cell\/X.env.kindOf x=some .free)->∃c,X.env.cells.lookup x=some c
 cab:∀x c,X.fn x=true->X.env.cells.lookup x=some c->X.s₀.heap.objs.size<=c
 hd:X.calm=true->X.A.handled=none
 frames:X.A.frames=some X.stack
 stk:X.stack=X.outer\/(X.stack=X.env::X.outer/\X.env.frame=some X.env.locals)
 exf:∀b∈X.ex,b≠X.env.locals/\∀x c,X.env.cells.lookup x=some c->c≠b
 bs:∀b o,X.bf.get? b=some o->X.s₀.heap.get? b=some o/\X.H₀ b=none
 bsz:X.bf.objs.size<=X.s₀.heap.objs.size
 noex:∀b o,X.bf.get? b=some o->b∉X.ex
 exfs:∀b∈X.ex,b∉X.fs
 funs:X.s₀.heap.FunFrames X.bf X.outer
 frf:∀b∈X.fs,X.H₀ b=none
structure Inv(X:Cx)(ai:ae)(σ:List (Option V))(H:Hp)(s:Shared):Prop where
 ok:X.Ok
 os:s.os=X.s₀.os
 bare:AllBare s.gens
 bf:Un X.fs X.ex X.H₀ H X.s₀.heap s.heap
 loc:∃m,s.heap.Ns X.env.locals m/\∀(i:Nat)(x:Str)(v:V),X.N[i]?=some x -> σ[i]?=some (some v)->Vis X.env.scope x->∃u,RelV v u/\Look X.env s.heap m x u
 cell:∀x c,X.env.cells.lookup x=some c->∃v,s.heap.IsCell c v
 free:H X.env.locals=none
 freeC:∀x c,X.env.cells.lookup x=some c->H c=none
 pin:∀p∈X.pn++ai,s.heap.get? p.1=some p.2/\H p.1=none/\p.1≠X.env.locals/\p.1∉X.fs/\∀v,p.2.data≠.cell v
 hok:HOk X.prog X.w H s.heap
 len : σ.length=X.N.length
section
variable{X:Cx}{ai:ae}{σ:List (Option V)}{H H':Hp}{s:Shared}{h':Heap}
def Cx.Ok.nofr(ok:X.Ok){b:Addr}{o:Obj}(e:X.bf.get? b=some o):b∉X.fs:=λhb=>by
 have:=(ok.funs.mem hb).1
 rw[e]at this;cases this
def Inv.bs(I:Inv X ai σ H s):∀b o,X.bf.get? b=some o->s.heap.get? b=some o/\H b=none:=λb o e=>
 ⟨I.bf.keep b o (I.ok.bs b o e).1 (I.ok.bs b o e).2 (I.ok.nofr e) (I.ok.noex b o e),I.bf.free b o (I.ok.bs b o e).1 (I.ok.bs b o e).2 (I.ok.noex b o e)⟩
def Inv.bk(I:Inv X ai σ H s):∀b o,X.bf.get? b=some o->s.heap.get? b=some o:=λb o e=>(I.bs b o e).1
def Inv.mod(I:Inv X ai σ H s):Mod X.K X.mg X.bf:=I.ok.mod
def Inv.kIn(I:Inv X ai σ H s):X.K.In s.heap:=I.ok.mod.kin.keeps I.bk
def Inv.nolimit(I:Inv X ai σ H s):s.heap.NoLimit:=I.ok.mod.nolimit.keeps I.bk
def Inv.lt(I:Inv X ai σ H s):X.env.locals<s.heap.objs.size:=let ⟨_,hn,_⟩:=I.loc;hn.lt
def Inv.sz(I:Inv X ai σ H s):X.s₀.heap.objs.size<=s.heap.objs.size:=tM I.ok.above (qV I.lt)
def Inv.nofs(I:Inv X ai σ H s){a:Addr}(h:s.heap.objs.size<=a):a∉X.fs:=λhb=>by
 obtain⟨_,o,ho,_⟩:=I.ok.funs.mem hb
 exact absurd (tN (tG ho) (tM I.sz h)) (rM _)
def Inv.cne(I:Inv X ai σ H s):∀x c,X.env.cells.lookup x=some c->c≠X.env.locals:=λx c e z=>by
 obtain⟨v,o,ho,hd⟩:=I.cell x c e
 obtain⟨m,⟨o',es,ep,ho',hd',_⟩,_⟩:=I.loc
 rw[z,ho']at ho;cases ho;rw[hd']at hd;cases hd
theorem Inv.funs(I:Inv X ai σ H s):s.heap.FunFrames X.bf X.outer:=by
 have all:∀(l:List Env),(∀b∈frs l,b∈X.fs)->X.s₀.heap.FunFrames X.bf l->s.heap.FunFrames X.bf l:=by
  intro l
  induction l with
  | nil=>intro _ _;trivial
  | cons env r ih=>
    intro hs hl
    obtain⟨hk,⟨L,o,hf,hn,ho,hd⟩,hr⟩:=hl
    have hL:L∈X.fs:=hs L (by unfold frs;rw[qM,hf];exact tP)
    obtain⟨sl,e⟩:=I.bf.slot L o ho (I.ok.frf L hL) hL λz=>I.ok.exfs L z hL
    exact⟨hk,⟨L,_,hf,hn,e,hd⟩,ih (λb hb=>hs b (by unfold frs;rw[qM,hf];exact tO _ hb)) hr⟩
 exact all X.outer (λ_ hb=>hb) I.ok.funs
def Inv.stack(I:Inv X ai σ H s):s.heap.FunFrames X.bf X.stack:=by
 rcases I.ok.stk with e | ⟨e,hf⟩
 ·rw[e];exact I.funs
 ·rw[e]
  obtain⟨m,hn,_⟩:=I.loc
  refine .cons (by rw[I.ok.kind];decide) hf hn ?_ I.funs
  exact Heap.get?_none_of_le (tM I.ok.bsz I.ok.above)
def Inv.stkSub(I:Inv X ai σ H s):∀b∈frs X.stack,b∈X.env.locals::X.fs:=λb hb=>by
 rcases I.ok.stk with e | ⟨e,hf⟩
 ·rw[e]at hb;exact tO _ hb
 ·rw[e]at hb
  unfold frs at hb
  rw[qM,hf]at hb
  exact hb
def Inv.stkFree(I:Inv X ai σ H s):∀b∈frs X.stack,H b=none:=λb hb=>by
 rcases mem_cons.mp (I.stkSub b hb)with e | hb
 ·rw[e];exact I.free
 ·obtain⟨_,o,ho,_⟩:=I.ok.funs.mem hb
  exact I.bf.free b o ho (I.ok.frf b hb) λz=>I.ok.exfs b z hb
def Inv.step{g':Array GenState}{t':Nat}{d':Drawn}{ch:List Addr}(I:Inv X ai σ H s)
    (hch:∀b∈ch,(b∈X.ex\/X.s₀.heap.objs.size<=b)/\b≠X.env.locals/\(∀x c,X.env.cells.lookup x=some c->c≠b)/\∀p∈X.pn++ai,p.1≠b)
    (keep:∀b o,b≠X.env.locals->b∉X.fs->b∉ch->s.heap.get? b=some o->H b=none->h'.get? b=some o)
    (slot:∀b o,b≠X.env.locals->b∈X.fs->b∉ch->s.heap.get? b=some o->H b=none->∃sl,h'.get? b=some { o with slots:=sl }) (free:∀b o,b∉ch->s.heap.get? b=some o->H b=none->H' b=none)
    (there:∀b o,b∉ch->s.heap.get? b=some o->∃o',h'.get? b=some o')
    (tups:∀b xs,H b=some (.tup xs)->H' b=some (.tup xs)) (frzs:∀b o u,H b=some (.frz o u)->H' b=some (.frz o u)) (tbls:∀b lp lq,H b=some (.tbl lp lq)->H' b=some (.tbl lp lq))
    (ns:∀m,s.heap.Ns X.env.locals m->h'.Ns X.env.locals m) (hok:HOk X.prog X.w H' h') (hg:AllBare g'):
    Inv X ai σ H' { s with heap:=h',gens:=g',drawn:=d',toks:=t' }:=by
 have neL:∀b o,X.s₀.heap.get? b=some o->b≠X.env.locals:=λb o e=>tJ (tN (tG e) I.ok.above)
 have neC:∀b o,X.s₀.heap.get? b=some o->b∉X.ex->b∉ch:=λb o e hx hb=>by
  rcases(hch b hb).1 with z | z
  ·exact hx z
  ·exact absurd (tN (tG e) z) (rM _)
 have cellK:∀x c,X.env.cells.lookup x=some c->∀v,s.heap.IsCell c v->h'.IsCell c v:=λx c e v ⟨o,ho,hd⟩=>by
  have nch:c∉ch:=λz=>(hch c z).2.2.1 x c e rfl
  by_cases hc:c∈X.fs
  ·obtain⟨sl,q⟩:=slot c o (I.cne x c e) hc nch ho (I.freeC x c e)
   exact⟨_,q,hd⟩
  ·exact⟨o,keep c o (I.cne x c e) hc nch ho (I.freeC x c e),hd⟩
 refine⟨I.ok,I.os,hg,⟨λb o e n hb hx=>?_,λb o e n hb hx=>?_,λb o e n hx=>?_,λb o e hx=>?_,λb xs e=>tups b xs (I.bf.tups b xs e),λb o xs e=>frzs b o xs (I.bf.frzs b o xs e),λb lp lq e=>tbls b lp lq (I.bf.tbls b lp lq e)⟩,?_,λx c e=>?_,?_,λx c e=>?_,λp hp=>?_,hok,I.len⟩
 ·exact keep b o (neL b o e) hb (neC b o e hx) (I.bf.keep b o e n hb hx) (I.bf.free b o e n hx)
 ·obtain⟨sl,e1⟩:=I.bf.slot b o e n hb hx
  obtain⟨sl',e2⟩:=slot b _ (neL b o e) hb (neC b o e hx) e1 (I.bf.free b o e n hx)
  exact⟨sl',e2⟩
 ·obtain⟨o',e1⟩:=I.bf.there b o e hx
  exact free b o' (neC b o e hx) e1 (I.bf.free b o e n hx)
 ·obtain⟨o',e1⟩:=I.bf.there b o e hx
  exact there b o' (neC b o e hx) e1
 ·obtain⟨m,hn,hl⟩:=I.loc
  refine⟨m,ns m hn,λi x v e1 e2 e3=>?_⟩
  obtain⟨u,r,l⟩:=hl i x v e1 e2 e3
  refine⟨u,r,?_⟩
  rcases l with l | ⟨k,c,e,z⟩
  ·exact .inl l
  ·exact .inr ⟨k,c,e,cellK x c e _ z⟩
 ·obtain⟨v,z⟩:=I.cell x c e
  exact⟨v,cellK x c e v z⟩
 ·obtain⟨m,⟨o,_,_,ho,_⟩,_⟩:=I.loc
  exact free _ o (λz=>(hch _ z).2.1 rfl) ho I.free
 ·obtain⟨v,o,ho,hd⟩:=I.cell x c e
  exact free c o (λz=>(hch c z).2.2.1 x c e rfl) ho (I.freeC x c e)
 ·obtain⟨e,n,ne,nf,d⟩:=I.pin p hp
  have nch:p.1∉ch:=λz=>(hch p.1 z).2.2.2 p hp rfl
  exact⟨keep p.1 p.2 ne nf nch e n,free p.1 p.2 nch e n,ne,nf,d⟩
def Inv.un{t':Nat}(I:Inv X ai σ H s)(u:Un X.fs [] H H' s.heap h')(hok:HOk X.prog X.w H' h'):Inv X ai σ H' { s with heap:=h',toks:=t' }:=by
 obtain⟨m,⟨o,es,ep,ho,r⟩,_⟩:=id I.loc
 obtain⟨sl,hL⟩:=u.any ho I.free (by simp)
 exact I.step (g':=s.gens) (d':=s.drawn) (ch:=[]) (λ_ z=>nomatch z) (λb o _ hb _ e n=>u.keep b o e n hb (by simp)) (λb o _ hb _ e n=>u.slot b o e n hb (by simp)) (λb o _ e n=>u.free b o e n (by simp)) (λb o _ e=>u.there b o e (by simp)) u.tups u.frzs u.tbls (λm' hm=>by
  obtain⟨o',es',ep',ho',r'⟩:=hm
  rw[ho]at ho';cases ho'
  exact⟨_,es',ep',hL,r'⟩) hok I.bare
def Inv.call{g':Array GenState}{t':Nat}{d':Drawn}{ch:List Addr}(I:Inv X ai σ H s)(u:Un (frs X.stack) ch H H' s.heap h')(hok:HOk X.prog X.w H' h')(hg:AllBare g')
    (hch:∀b∈ch,(b∈X.ex\/X.s₀.heap.objs.size<=b)/\b≠X.env.locals/\(∀x c,X.env.cells.lookup x=some c->c≠b)/\∀p∈X.pn++ai,p.1≠b):
    Inv X ai σ H' { s with heap:=h',gens:=g',drawn:=d',toks:=t' }:=by
 obtain⟨m,⟨o,es,ep,ho,r⟩,_⟩:=id I.loc
 obtain⟨sl,hL⟩:=u.any ho I.free λz=>(hch _ z).2.1 rfl
 exact I.step (ch:=ch) hch (λb o hL hb hc e n=>u.keep b o e n (λz=>(mem_cons.mp (I.stkSub b z)).elim hL hb) hc) (λb o _ _ hc e n=>u.any e n hc) (λb o hc e n=>u.free b o e n hc) (λb o hc e=>u.there b o e hc) u.tups u.frzs u.tbls (λm' hm=>by
  obtain⟨o',es',ep',ho',r'⟩:=hm
  rw[ho]at ho';cases ho'
  exact⟨_,es',ep',hL,r'⟩) hok hg
def Inv.turned{t':Nat}{it:Addr}(I:Inv X ai σ H s)(k:∀b o,b≠it->s.heap.get? b=some o->h'.get? b=some o)(hn:H it=none)(hL:it≠X.env.locals)
    (h1:it∈X.ex\/X.s₀.heap.objs.size<=it) (h2:∀x c,X.env.cells.lookup x=some c->c≠it) (h3:∀p∈X.pn++ai,p.1≠it):Inv X ai σ H { s with heap:=h',toks:=t' }:=by
 have nit:∀b u,H b=some u->b≠it:=λb u e z=>by rw[z,hn]at e;cases e
 refine I.step (g':=s.gens) (d':=s.drawn) (ch:=[it]) (λb hb=>?_) (λb o _ _ hc e _=>k b o (λz=>hc (by simp[z])) e) (λb o _ _ hc e _=>⟨o.slots,k b o (λz=>hc (by simp[z])) e⟩) (λ_ _ _ _ n=>n)
  (λb o hc e=>⟨o,k b o (λz=>hc (by simp[z])) e⟩) (λ_ _ e=>e) (λ_ _ _ e=>e) (λ_ _ _ e=>e) (λm hm=>?_) (λb u e=>?_) I.bare
 ·have e:b=it:=by simpa using hb
  subst e
  exact⟨h1,hL,h2,h3⟩
 ·obtain⟨o,es,ep,ho,r⟩:=hm
  exact⟨o,es,ep,k _ o (Ne.symm hL) ho,r⟩
 ·refine(I.hok b u e).stay (λc v hc q=>k c v ?_ q) (λ_ q=>q) (λ_ _ q=>q) λ_ _ _ q=>q
  rcases hc with z | z
  ·rw[z];exact nit b u e
  ·exact nit c _ z
def Inv.tok(I:Inv X ai σ H s)(t:Nat):Inv X ai σ H { s with toks:=t }:=I.un (h':=s.heap) (t':=t) Un.refl I.hok
def Inv.kept{t':Nat}(I:Inv X ai σ H s)(k:∀b u,s.heap.get? b=some u->h'.get? b=some u):Inv X ai σ H { s with heap:=h',toks:=t' }:=I.un (Un.kept k) (I.hok.kept k)
def Inv.laid{a:Addr}{o:HO}{t':Nat}(I:Inv X ai σ H s)(k:∀b u,s.heap.get? b=some u->h'.get? b=some u)(hp:s.heap.objs.size<=a)(new:zbw X.prog X.w (upd H a o) h' a o):
    Inv X ai σ (upd H a o) { s with heap:=h',toks:=t' }:=I.un (Un.laid k hp (I.hok.fresh hp)) (I.hok.laid k hp new)
def Inv.write{x e:Addr}{o:HO}{t':Nat}(I:Inv X ai σ H s)(mu:Mut (H x))(he:e=x\/H e=some (.own x))(k:∀b u,b≠e->s.heap.get? b=some u->h'.get? b=some u)(heo:∃u,h'.get? e=some u)
    (new:zbw X.prog X.w (upd H x o) h' x o):Inv X ai σ (upd H x o) { s with heap:=h',toks:=t' }:=I.un (Un.write mu he k heo) (I.hok.write mu he k heo new)
def Inv.pins_of{pins':ae}(I:Inv X ai σ H s)(h:∀p∈pins',s.heap.get? p.1=some p.2/\H p.1=none/\p.1≠X.env.locals/\p.1∉X.fs/\∀v,p.2.data≠.cell v):Inv X pins' σ H s:=
 ⟨I.ok,I.os,I.bare,I.bf,I.loc,I.cell,I.free,I.freeC,λp hp=>(mem_append.mp hp).elim (λz=>I.pin p (qN _ z)) (h p),I.hok,I.len⟩
def zlF{N:List Str}(hN:N.Nodup){i j:Nat}{x:Str}(a:N[i]?=some x)(b:N[j]?=some x):i=j:=by
 obtain⟨h1,e1⟩:=List.getElem?_eq_some_iff.mp a
 obtain⟨h2,e2⟩:=List.getElem?_eq_some_iff.mp b
 exact(pC hN).mp (e1.trans e2.symm)
def zhc{M:Model}{A:Around}{E:ac}{i:Nat}{x:Str}{v:V}{u:Value}{Q:aq}(I:Inv X ai σ H s)(hN:X.N.Nodup)(hi:X.N[i]?=some x)(hx:Loc X.env.scope x)(r:RelV v u)
    (h:∀s',Inv X ai (σ.set i (some v)) H s'->(∃a,Heap.SameBut a s.heap s'.heap/\(a=X.env.locals\/X.env.cells.lookup x=some a))->Q () s') (hf:X.fn x=true\/X.env.scope.names.lookup x=some .local:=by first | exact .inl rfl | exact .inr rfl | assumption):wpAny M A (storeName X.env x u) Q E s:=by
 obtain⟨m,hn,hl⟩:=id I.loc
 have hcls:(X.env.scope.kind==.class||(X.env.scope.kind==.module&&X.env.locals != X.env.globals))=false:=by rw[I.ok.kind];rfl
 have hiσ:i < σ.length:=by rw[I.len];exact(List.getElem?_eq_some_iff.mp hi).1
 have cne:=I.cne
 have tracked:∀{a:Addr}{h':Heap},(∃o,s.heap.get? a=some o/\H a=none)->Heap.SameBut a s.heap h'->HOk X.prog X.w H h':=λ{a h'} ha hs b ob e=>by
  obtain⟨_,_,hfree⟩:=ha
  refine(I.hok b ob e).stay (λc w' hc q=>(hs.2 c ?_).trans q) (λ_ q=>q) (λ_ _ q=>q) λ_ _ _ q=>q
  rintro rfl
  rcases hc with rfl | hc
  ·rw[hfree]at e;cases e
  ·rw[hfree]at hc;cases hc
 rcases hx with hk | hk
 ·refine wpAny_storeName_local hk hn (λh' hn' hs=>?_) hcls
  obtain⟨oL,_,_,hoL,_⟩:=id hn
  refine h _ ⟨I.ok,I.os,I.bare,⟨λb o e n hb hx=>?_,λb o e n hb hx=>?_,I.bf.free,λb o e hx=>?_,I.bf.tups,I.bf.frzs,I.bf.tbls⟩,⟨_,hn',λj y v' e1 e2 e3=>?_⟩,λy c e=>?_,I.free,I.freeC,λp hp=>?_,tracked ⟨oL,hoL,I.free⟩ hs,by simpa using I.len⟩ ⟨_,hs,.inl rfl⟩
  ·exact(hs.2 b (tJ (tN (tG e) I.ok.above))).trans (I.bf.keep b o e n hb hx)
  ·obtain⟨sl,e1⟩:=I.bf.slot b o e n hb hx
   exact⟨sl,(hs.2 b (tJ (tN (tG e) I.ok.above))).trans e1⟩
  ·obtain⟨o',e1⟩:=I.bf.there b o e hx
   exact⟨o',(hs.2 b (tJ (tN (tG e) I.ok.above))).trans e1⟩
  ·by_cases hj:j=i
   ·subst hj
    rw[hi]at e1;cases e1
    rw[List.getElem?_set_self hiσ]at e2
    cases e2
    exact⟨u,r,.inl ⟨hk,by simp⟩⟩
   ·rw[List.getElem?_set_ne (Ne.symm hj)]at e2
    obtain⟨u',r',q⟩:=hl j y v' e1 e2 e3
    refine⟨u',r',?_⟩
    rcases q with⟨k,e⟩ | ⟨k,c,e,z⟩
    ·refine .inl ⟨k,?_⟩
     have:y≠x:=λe=>hj (zlF hN e1 (e▸hi))
     simp[this,e]
    ·exact .inr ⟨k,c,e,z.sameBut hs (cne y c e)⟩
  ·obtain⟨w',z⟩:=I.cell y c e
   exact⟨w',z.sameBut hs (cne y c e)⟩
  ·obtain⟨e,n,ne,nf,d⟩:=I.pin p hp
   exact⟨(hs.2 p.1 ne).trans e,n,ne,nf,d⟩
 ·have hfn:X.fn x=true:=by
   rcases hf with z | z
   ·exact z
   ·rw[z]at hk;cases hk
  obtain⟨c,hc⟩:=I.ok.has x (.inl hk)
  obtain⟨w',z⟩:=I.cell x c hc
  refine wpAny_storeName_cell I.ok.kind hk hc z (λh' hc' hs=>?_)
  obtain⟨oc,hoc,hocd⟩:=id z
  refine h { s with heap:=h' } ⟨I.ok,I.os,I.bare,⟨λb o e n hb hx=>?_,λb o e n hb hx=>?_,I.bf.free,λb o e hx=>?_,I.bf.tups,I.bf.frzs,I.bf.tbls⟩,⟨m,hn.sameBut hs (Ne.symm (cne x c hc)),λj y v' e1 e2 e3=>?_⟩,λy c' e=>?_,I.free,I.freeC,λp hp=>?_,tracked ⟨oc,hoc,I.freeC x c hc⟩ hs,by simpa using I.len⟩ ⟨c,hs,.inr hc⟩
  ·exact(hs.2 b (tJ (tN (tG e) (I.ok.cab x c hfn hc)))).trans (I.bf.keep b o e n hb hx)
  ·obtain⟨sl,e1⟩:=I.bf.slot b o e n hb hx
   exact⟨sl,(hs.2 b (tJ (tN (tG e) (I.ok.cab x c hfn hc)))).trans e1⟩
  ·obtain⟨o',e1⟩:=I.bf.there b o e hx
   exact⟨o',(hs.2 b (tJ (tN (tG e) (I.ok.cab x c hfn hc)))).trans e1⟩
  ·by_cases hj:j=i
   ·subst hj
    rw[hi]at e1;cases e1
    rw[List.getElem?_set_self hiσ]at e2
    cases e2
    exact⟨u,r,.inr ⟨.inl hk,c,hc,hc'⟩⟩
   ·rw[List.getElem?_set_ne (Ne.symm hj)]at e2
    obtain⟨u',r',q⟩:=hl j y v' e1 e2 e3
    refine⟨u',r',?_⟩
    rcases q with q | ⟨k,c',e,z'⟩
    ·exact .inl q
    ·refine .inr ⟨k,c',e,z'.sameBut hs ?_⟩
     rintro rfl
     exact hj (zlF hN e1 (I.ok.inj _ _ _ e hc▸hi))
  ·by_cases hcc:c'=c
   ·subst hcc;exact⟨_,hc'⟩
   ·obtain⟨w2,z2⟩:=I.cell y c' e
    exact⟨w2,z2.sameBut hs hcc⟩
  ·obtain⟨e,n,ne,nf,d⟩:=I.pin p hp
   refine⟨(hs.2 p.1 ?_).trans e,n,ne,nf,d⟩
   intro q
   rw[q,hoc]at e
   have q':oc=p.2:=tF e
   exact d w' (by rw[<-q'];exact hocd)
def aL{M:Model}{A:Around}{E:ac}{i:Nat}{x:Str}{v:V}{u:Value}{Q:aq}(I:Inv X ai σ H s)(hN:X.N.Nodup)(hi:X.N[i]?=some x)(hx:Loc X.env.scope x)(r:RelV v u)
    (h:∀s',Inv X ai (σ.set i (some v)) H s'->Q () s') (hf:X.fn x=true\/X.env.scope.names.lookup x=some .local:=by first | exact .inl rfl | exact .inr rfl | assumption):wpAny M A (storeName X.env x u) Q E s:=
 zhc I hN hi hx r (λs' I' _=>h s' I') hf
def Inv.call'{s':Shared}{ch:List Addr}(I:Inv X ai σ H s)(ho:s'.os=s.os)(u:Un (frs X.stack) ch H H' s.heap s'.heap)(hok:HOk X.prog X.w H' s'.heap)(hg:AllBare s'.gens)
    (hch:∀b∈ch,(b∈X.ex\/X.s₀.heap.objs.size<=b)/\b≠X.env.locals/\(∀x c,X.env.cells.lookup x=some c->c≠b)/\∀p∈X.pn++ai,p.1≠b):Inv X ai σ H' s':=by
 obtain⟨h',g',d',t',o'⟩:=s'
 have e:o'=s.os:=ho
 subst e
 exact I.call (g':=g') (t':=t') (d':=d') u hok hg hch
end
abbrev XK:=Value->Option Addr->Hp->Prop
abbrev St:=List (Option V)
abbrev VK:=V->Hp->Prop
abbrev TE:=St->Hp->VK->Prop
abbrev TT:=St->Hp->(Bool->Hp->Prop)->Prop
abbrev TA:=St->Hp->(List V->Hp->Prop)->Prop
structure Ends where
 nx:St->Hp->Prop
 rt:VK
 bk:St->Hp->Prop:=λ_ _=>False
 ct:St->Hp->Prop:=λ_ _=>False
abbrev TS:=Ends->St->Hp->Prop
inductive EP(X:Cx)(ai:ae)(σ:St)(Q:VK)(u:Value)(s':Shared):Prop
 | mk (v:V) (H':Hp) (I:Inv X ai σ H' s') (r:RelV v u) (q:Q v H')
def TP(X:Cx)(ai:ae)(σ:St)(Q:Bool->Hp->Prop)(b:Bool)(s':Shared):Prop:=∃H',Inv X ai σ H' s'/\Q b H'
inductive AP(X:Cx)(ai:ae)(σ:St)(Q:List V->Hp->Prop)(us:ah)(s':Shared):Prop
 | mk (vs:List V) (H':Hp) (I:Inv X ai σ H' s') (r:Vals vs us) (q:Q vs H')
def SP(X:Cx)(ai:ae)(D:Ends)(f:Flow)(s':Shared):Prop:=
 match f with
 | .next=>∃ σ' H',Inv X ai σ' H' s'/\D.nx σ' H'
 | .brk=>∃ σ' H',Inv X ai σ' H' s'/\D.bk σ' H'
 | .cont=>∃ σ' H',Inv X ai σ' H' s'/\D.ct σ' H'
 | .ret u=>∃v σ' H',Inv X ai σ' H' s'/\RelV v u/\D.rt v H'
@[irreducible] def PE(X:Cx)(e:Expr)(t:TE):Prop:=
  ∀(ai:ae)(s:Shared)(σ:St)(H:Hp)(Q:VK),Inv X ai σ H s->t σ H Q->wpAny (model X.prog X.w) X.A (eval e X.env) (EP X ai σ Q) X.xe s
@[irreducible] def PT(X:Cx)(e:Expr)(t:TT):Prop:=
  ∀(ai:ae)(s:Shared)(σ:St)(H:Hp)(Q:Bool->Hp->Prop),Inv X ai σ H s->t σ H Q->wpAny (model X.prog X.w) X.A (isTrue e X.env (eval e X.env)) (TP X ai σ Q) X.xe s
def PW(X:Cx)(e:Expr)(t:TT):Prop:=
 ∀(whole:Sem Value)(ai:ae)(s:Shared)(σ:St)(H:Hp)(Q:Bool->Hp->Prop),Inv X ai σ H s->t σ H Q->wpAny (model X.prog X.w) X.A (isTrue e X.env whole) (TP X ai σ Q) X.xe s
theorem PW.pt{X:Cx}{e:Expr}{t:TT}(h:PW X e t):PT X e t:=by
 with_unfolding_all
  exact h _
@[irreducible] def PA(X:Cx)(es:List Expr)(t:TA):Prop:=
  ∀(pos:Pos)(ai:ae)(s:Shared)(σ:St)(H:Hp)(Q:List V->Hp->Prop),Inv X ai σ H s->t σ H Q->wpAny (model X.prog X.w) X.A (spliced (backTo pos (starEach es X.env))) (AP X ai σ Q) X.xe s
@[irreducible] def PS(X:Cx)(st:Stmt)(t:TS):Prop:=
  ∀(ai:ae)(s:Shared)(σ:St)(H:Hp)(D:Ends),Inv X ai σ H s->t D σ H->wpAny (model X.prog X.w) X.A (exec st X.env) (SP X ai D) X.xe s
@[irreducible] def PSs(X:Cx)(st:List Stmt)(t:TS):Prop:=
  ∀(ai:ae)(s:Shared)(σ:St)(H:Hp)(D:Ends),Inv X ai σ H s->t D σ H->wpAny (model X.prog X.w) X.A (execs st X.env) (SP X ai D) X.xe s
def thn{α:Type}{t:Sem α}{Q Q' : α->Shared->Prop}{M:Model}{A:Around}{E:ac}{s:Shared}(h:wpAny M A t Q E s)(hQ:∀a s,Q a s->Q' a s):wpAny M A t Q' E s:=so h hQ λ_ _ x=>x
section
variable{X:Cx}
inductive EVar(i:Nat)(σ:St)(H:Hp)(Q:VK):Prop
 | mk (v:V) (h : σ[i]?=some (some v)) (q:Q v H):EVar i σ H Q
def tVar(i:Nat):TE:=EVar i
def tC(v:V):TE:=λ_ H Q=>Q v H
def zss{i:Nat}{x:Str}{pos:Pos}(hN:X.N[i]?=some x)(hv:Vis X.env.scope x)(hd:(x==("__debug__" : Str))=false:=by decide)(hcd:(x==("__classdict__" : Str))=false:=by decide):PE X (.Name x pos) (tVar i):=by
 with_unfolding_all
  intro ai s σ H Q I h
  obtain⟨v,e,h⟩:=h
  obtain⟨m,hn,hl⟩:=I.loc
  obtain⟨u,r,l⟩:=hl i x v hN e hv
  have fin:EP X ai σ Q u s:=⟨v,H,I,r,h⟩
  rcases l with⟨hk,hm⟩ | ⟨hk,c,hc,hcell⟩
  ·exact wpAny_Name (wpAny_loadName_local I.ok.kind hk hn hm fin) hd
  ·rcases hk with hk | hk
   ·exact wpAny_Name (wpAny_loadName_cell I.ok.kind hk hc hcell fin) hd
   ·exact wpAny_Name (wpAny_loadName_free I.ok.kind hk hc hcell fin hcd) hd
theorem zae {i j pos}:PE X (.Constant (.int i) j pos) (tC (.int i)):=by
 with_unfolding_all
  exact λ_ _ _ H _ I h=>wpAny_Constant_int ⟨.int i,H,I.tok _,⟨_,rfl⟩,h⟩
theorem zdj {b j pos}:PE X (.Constant (.bool b) j pos) (tC (.bl b)):=by
 with_unfolding_all
  exact λ_ _ _ H _ I h=>Constant_bool ⟨.bl b,H,I,rfl,h⟩
theorem zgF {j pos}:PE X (.Constant .none j pos) (tC .non):=by
 with_unfolding_all
  exact λ_ _ _ H _ I h=>Constant_none ⟨.non,H,I,rfl,h⟩
theorem zaT {x j pos}:PE X (.Constant (.str x) j pos) (tC (.str x)):=by
 with_unfolding_all
  exact λ_ _ _ H _ I h=>Calls.Constant_str ⟨.str x,H,I.tok _,⟨_,rfl⟩,h⟩
def Gl(X:Cx)(x:Str):Prop:=X.env.kindOf x=some .globalImplicit
def zhd{E:ac}{ai:ae}{s:Shared}{σ:St}{H:Hp}{x:Str}{u:Value}{pos:Pos}{Q:ac}(I:Inv X ai σ H s)(hg:Gl X x)(hm:X.mg x=some u)(h:Q u s)
    (hd:(x==("__debug__" : Str))=false:=by decide):wpAny (model X.prog X.w) X.A (eval (.Name x pos) X.env) Q E s:=
 Calls.Name_function_global I.ok.kind hg (Calls.loadGlobal_global (by rw[I.ok.glob];exact I.mod.glob.keeps I.bk) hm h) hd
def zgG{E:ac}{ai:ae}{s:Shared}{σ:St}{H:Hp}{x:Str}{u:Value}{pos:Pos}{Q:ac}(I:Inv X ai σ H s)(hg:Gl X x)(hm:X.mg x=none)(hv:bootBuiltins x=some u)(h:Q u s)
    (hn:x ≠ "__name__" := by decide) (hd:(x==("__debug__" : Str))=false:=by decide):wpAny (model X.prog X.w) X.A (eval (.Name x pos) X.env) Q E s:=by
 obtain⟨mb,h1,h2⟩:=I.mod.blt
 exact Calls.Name_function_global I.ok.kind hg (Calls.loadGlobal_builtin (by rw[I.ok.glob];exact I.mod.glob.keeps I.bk) hm (by rw[I.ok.blt];exact h1.keeps I.bk) ((h2 x hn).trans hv) h) hd
theorem zbB{x:Str}{v:V}{u:Value}{pos:Pos}(hg:Gl X x)(hm:X.mg x=some u)(r:RelV v u)(hd:(x==("__debug__" : Str))=false:=by decide):PE X (.Name x pos) (tC v):=by
 with_unfolding_all
  exact λ_ _ _ H _ I h=>zhd I hg hm ⟨v,H,I,r,h⟩ hd
theorem zfC{x:Str}{v:V}{u:Value}{pos:Pos}(hg:Gl X x)(hm:X.mg x=none)(hv:bootBuiltins x=some u)(r:RelV v u)(hn:x ≠ "__name__" := by decide)(hd:(x==("__debug__" : Str))=false:=by decide):PE X (.Name x pos) (tC v):=by
 with_unfolding_all
  exact λ_ _ _ H _ I h=>zgG I hg hm hv ⟨v,H,I,r,h⟩ hn hd
variable{a b:Expr}{ta tb:TE}{pos:Pos}
inductive EBl(Q:Bool->Hp->Prop)(x:V)(H:Hp):Prop
 | mk (c:Bool) (h:x=.bl c) (q:Q c H):EBl Q x H
def tB(t:TE):TT:=λσ H Q=>t σ H (EBl Q)
def av{e:Expr}{t:TE}(h:PE X e t)(he:∀whole,isTrue e X.env whole=(do let v <-whole;standAt e.pos;holding [v] (truthy v)):=by intro _;rfl):PT X e (tB t):=by
 with_unfolding_all
  intro ai s σ H Q I hw
  refine isTrue_plain (thn (h ai s σ H _ I hw) λv s1 ⟨x,H1,I1,r1,q1⟩=>?_) (he _)
  obtain⟨d,rfl,q⟩:=q1
  cases r1
  exact sI ⟨H1,I1,q⟩
variable{tA tB':TT}{rest:List Expr}
def tAnd(t u:TT):TT:=λσ H Q=>t σ H λc H1=>if c=true then u σ H1 Q else Q false H1
def tOr(t u:TT):TT:=λσ H Q=>t σ H λc H1=>if c=true then Q true H1 else u σ H1 Q
def tNot(t:TT):TT:=λσ H Q=>t σ H λc H1=>Q (!c) H1
theorem zdQ(ha:PT X a tA):PW X (.BoolOp .And [a] pos) tA:=by
 with_unfolding_all
  intro wh ai s σ H Q I h
  refine isTrue_and (thn (ha ai s σ H Q I h) λc s1 e=>?_)
  cases c with
  | true=>exact isTrue_and_nil e
  | false=>exact e
theorem zhe(ha:PT X a tA):PW X (.BoolOp .Or [a] pos) tA:=by
 with_unfolding_all
  intro wh ai s σ H Q I h
  refine isTrue_or (thn (ha ai s σ H Q I h) λc s1 e=>?_)
  cases c with
  | false=>exact isTrue_or_nil e
  | true=>exact e
theorem zgH(ha:PT X a tA)(hb:PW X (.BoolOp .And (b::rest) pos) tB'):PW X (.BoolOp .And (a::b::rest) pos) (tAnd tA tB'):=by
 with_unfolding_all
  intro wh ai s σ H Q I h
  refine isTrue_and (thn (ha ai s σ H _ I h) λc s1 ⟨H1,I1,q1⟩=>?_)
  cases c with
  | true=>exact hb wh ai s1 σ H1 Q I1 q1
  | false=>exact⟨H1,I1,q1⟩
theorem zjM(ha:PT X a tA)(hb:PW X (.BoolOp .Or (b::rest) pos) tB'):PW X (.BoolOp .Or (a::b::rest) pos) (tOr tA tB'):=by
 with_unfolding_all
  intro wh ai s σ H Q I h
  refine isTrue_or (thn (ha ai s σ H _ I h) λc s1 ⟨H1,I1,q1⟩=>?_)
  cases c with
  | true=>exact⟨H1,I1,q1⟩
  | false=>exact hb wh ai s1 σ H1 Q I1 q1
def zbl(ha:PT X a tA):PT X (.UnaryOp .Not a pos) (tNot tA):=by
 with_unfolding_all
  intro ai s σ H Q I h
  exact isTrue_not (ha ai s σ H (λc H1=>Q (!c) H1) I h)
def ztP(ta tb:TE):TE:=λσ H Q=>ta σ H λx H1=>∃c,x=.bl c/\if c=true then tb σ H1 Q else Q (.bl false) H1
theorem ziB {op} {t:TE} (h:PE X a t):PE X (.BoolOp op [a] pos) t:=by
 with_unfolding_all
  exact λai s σ H Q I hw=>BoolOp_one (h ai s σ H Q I hw)
theorem ziC(ha:PE X a ta)(hb:PE X (.BoolOp .And (b::rest) pos) tb):PE X (.BoolOp .And (a::b::rest) pos) (ztP ta tb):=by
 with_unfolding_all
  intro ai s σ H Q I h
  refine BoolOp_and (thn (ha ai s σ H _ I h) λv s1 ⟨x,H1,I1,r1,q1⟩=>?_)
  obtain⟨c,rfl,q1⟩:=q1
  cases r1
  refine sI ?_
  cases c with
  | true=>exact hb ai s1 σ H1 Q I1 q1
  | false=>exact⟨.bl false,H1,I1,rfl,q1⟩
def tIf(t:TT)(ta tb:TE):TE:=λσ H Q=>t σ H λc H1=>if c=true then ta σ H1 Q else tb σ H1 Q
theorem zeg{c:Expr}(hc:PT X c tA)(ha:PE X a ta)(hb:PE X b tb):PE X (.IfExp c a b pos) (tIf tA ta tb):=by
 with_unfolding_all
  intro ai s σ H Q I h
  refine wpAny_IfExp (thn (hc ai s σ H _ I h) λd s1 ⟨H1,I1,q1⟩=>?_)
  cases d with
  | true=>exact ha ai s1 σ H1 Q I1 q1
  | false=>exact hb ai s1 σ H1 Q I1 q1
end
def SqL(K:am)(H:Hp)(a:Addr)(xs:List V):Prop:=
 Rd H a (.lst xs) \/
  ∃(o:Obj)(its:Array Value)(n:Nat),K.lookup a=some o/\o.cls=.type "list" /\ o.dict=none/\o.data=.seq its n/\its.size<=sizeLine/\Vals xs its.toList
def SqT(K:am)(H:Hp)(a:Addr)(xs:List V):Prop:=
 Rd H a (.tup xs) \/
  ∃(o:Obj)(its:Array Value)(n:Nat),K.lookup a=some o/\o.cls=.type "tuple" /\ o.data=.seq its n/\its.size<=sizeLine/\Vals xs its.toList
def absV:Value->Option V
 | .none=>some .non
 | .bool b=>some (.bl b)
 | .int i _=>some (.int i)
 | .str x _=>some (.str x)
 | .bytes b _=>some (.byt b)
 | .float b _=>some (.flt b)
 | .ref a=>some (.ref a)
 | .type n=>some (.ty n)
 | _=>none
theorem RelV.abs{x:V}{u:Value}(r:RelV x u):absV u=some x:=by
 cases x with
 | non=>cases r;rfl
 | bl _=>cases r;rfl
 | int _=>obtain⟨t,rfl⟩:=r;rfl
 | str _=>obtain⟨t,rfl⟩:=r;rfl
 | byt _=>obtain⟨t,rfl⟩:=r;rfl
 | flt _=>obtain⟨t,rfl⟩:=r;rfl
 | ref _=>cases r;rfl
 | ty _=>cases r;rfl
def RelV.inj{x y:V}{u:Value}(r:RelV x u)(q:RelV y u):x=y:=tF (r.abs.symm.trans q.abs)
theorem Vals.inj:∀{xs ys:List V}{us:ah},Vals xs us->Vals ys us->xs=ys
 | _,_,_,.nil,.nil=>rfl
 | _,_,_,.cons r t,.cons r' t'=>by rw[r.inj r',Vals.inj t t']
section
variable{X:Cx}{ai:ae}{σ:St}{H:Hp}{s:Shared}{a:Addr}{xs ys:List V}
def SqL.of{K:am}(h:H a=some (.lst xs)):SqL K H a xs:=.inl (.inl h)
def SqT.of{K:am}(h:H a=some (.tup xs)):SqT K H a xs:=.inl (.inl h)
def Inv.list(I:Inv X ai σ H s)(h:SqL X.K H a xs):∃its:List Value,Vals xs its/\PlainL s.heap a its.toArray/\xs.length<=sizeLine:=by
 rcases h with h | ⟨o,its,n,hk,hc,hd,hs,hz,r⟩
 ·obtain⟨z,its,n,r,e⟩:=h.ok I.hok
  exact⟨its,r,⟨_,n,e,rfl,rfl,rfl⟩,z⟩
 ·refine⟨its.toList,r,⟨o,n,I.kIn a o hk,hc,hd,by simpa using hs⟩,?_⟩
  have e:=r.length
  simp only[Array.length_toList]at e
  omega
def Inv.tuple(I:Inv X ai σ H s)(h:SqT X.K H a xs):∃its:List Value,Vals xs its/\IsTup s.heap a its.toArray/\xs.length<=sizeLine:=by
 rcases h with h | ⟨o,its,n,hk,hc,hs,hz,r⟩
 ·obtain⟨z,its,r,p⟩:=h.ok I.hok
  exact⟨its,r,p,z⟩
 ·refine⟨its.toList,r,⟨o,I.kIn a o hk,hc,n,by simpa using hs⟩,?_⟩
  have e:=r.length
  simp only[Array.length_toList]at e
  omega
def Inv.list_inj(I:Inv X ai σ H s)(h:SqL X.K H a xs)(h':SqL X.K H a ys):xs=ys:=by
 obtain⟨its,r,⟨o,n,e,_,_,d⟩,_⟩:=I.list h
 obtain⟨its',r',⟨o',n',e',_,_,d'⟩,_⟩:=I.list h'
 rw[e]at e';cases e'
 rw[d]at d'
 injection d' with d1 _
 have:its=its':=by simpa using tS Array.toList d1
 subst this
 exact r.inj r'
def Inv.tuple_inj(I:Inv X ai σ H s)(h:SqT X.K H a xs)(h':SqT X.K H a ys):xs=ys:=by
 obtain⟨its,r,⟨o,e,_,n,d⟩,_⟩:=I.tuple h
 obtain⟨its',r',⟨o',e',_,n',d'⟩,_⟩:=I.tuple h'
 rw[e]at e';cases e'
 rw[d]at d'
 injection d' with d1 _
 have:its=its':=by simpa using tS Array.toList d1
 subst this
 exact r.inj r'
end
abbrev Cx.wish(X:Cx)(E:ac):Cx := { X with xe:=E }
abbrev Cx.nox(X:Cx):Cx:=X.wish λ_ _=>False
def Cx.Ok.wish{X:Cx}(ok:X.Ok)(E:ac):(X.wish E).Ok:=
 ⟨ok.mod,ok.kind,ok.glob,ok.blt,ok.above,ok.inj,ok.has,ok.cab,ok.hd,ok.frames,ok.stk,ok.exf,ok.bs,ok.bsz,ok.noex,ok.exfs,ok.funs,ok.frf⟩
def Cx.Ok.unwish{X:Cx}{E:ac}(ok:(X.wish E).Ok):X.Ok:=
 ⟨ok.mod,ok.kind,ok.glob,ok.blt,ok.above,ok.inj,ok.has,ok.cab,ok.hd,ok.frames,ok.stk,ok.exf,ok.bs,ok.bsz,ok.noex,ok.exfs,ok.funs,ok.frf⟩
section
variable{X:Cx}{ai:ae}{σ:St}{H:Hp}{s:Shared}{E:ac}
def Inv.wish(I:Inv X ai σ H s)(E:ac):Inv (X.wish E) ai σ H s:=⟨I.ok.wish E,I.os,I.bare,I.bf,I.loc,I.cell,I.free,I.freeC,I.pin,I.hok,I.len⟩
def Inv.unwish(I:Inv (X.wish E) ai σ H s):Inv X ai σ H s:=⟨I.ok.unwish,I.os,I.bare,I.bf,I.loc,I.cell,I.free,I.freeC,I.pin,I.hok,I.len⟩
theorem SP.unwish{D:Ends}{f:Flow}{s':Shared}(h:SP (X.wish E) ai D f s'):SP X ai D f s':=by
 cases f with
 | next=>obtain⟨σ',H',I,q⟩:=h;exact⟨σ',H',I.unwish,q⟩
 | brk=>obtain⟨σ',H',I,q⟩:=h;exact⟨σ',H',I.unwish,q⟩
 | cont=>obtain⟨σ',H',I,q⟩:=h;exact⟨σ',H',I.unwish,q⟩
 | ret u=>obtain⟨v,σ',H',I,r,q⟩:=h;exact⟨v,σ',H',I.unwish,r,q⟩
theorem PSs.nox{st:List Stmt}{t:TS}(h:PSs X.nox st t):PSs X st t:=by
 with_unfolding_all
  exact λai s σ H D I hw=>
   so (h ai s σ H D (I.wish _) hw) (λ_ _ q=>q.unwish) λ_ _ z=>False.elim z
end
section
variable{X:Cx}{st:Stmt}{rest:List Stmt}{t u:TS}{e:Expr}{te:TE}{pos:Pos}
def ztQ:TS:=λD σ H=>D.nx σ H
def tSeq(t u:TS):TS:=λD σ H=>t { D with nx:=u D } σ H
theorem zaw:PSs X [] ztQ:=by
 with_unfolding_all
  exact λ_ _ σ H _ I h=>qO ⟨σ,H,I,h⟩
theorem zab(h1:PS X st t)(h2:PSs X rest u):PSs X (st::rest) (tSeq t u):=by
 with_unfolding_all
  intro ai s σ H D I h
  refine pD (thn (h1 ai s σ H { D with nx:=u D } I h) λf s1 q=>?_)
  cases f with
  | next=>
    obtain⟨σ',H',I',q⟩:=q
    exact h2 ai s1 σ' H' D I' q
  | ret v=>exact q
  | brk=>exact q
  | cont=>exact q
theorem zag(h1:PS X st t):PSs X [st] t:=by
 with_unfolding_all
  intro ai s σ H D I h
  refine pD (thn (h1 ai s σ H D I h) λf s1 q=>?_)
  cases f with
  | next=>exact qO q
  | ret v=>exact q
  | brk=>exact q
  | cont=>exact q
def Inv.quiet{ai:ae}{σ:St}{H:Hp}{s:Shared}(I:Inv X ai σ H s):interactive X.env=false:=by simp[interactive,I.ok.kind]
def ztR(te:TE):TS:=λD σ H=>te σ H λ_ H1=>D.nx σ H1
def zcS(he:PE X e te)(hs:swapsWith e none pos.line X.env=pure false:=by rfl):PS X (.Expr e pos) (ztR te):=by
 with_unfolding_all
  intro ai s σ H D I h
  exact wpAny_Expr_any (thn (he ai s σ H _ I h) λv s1 ⟨x,H1,I1,r1,q1⟩=>⟨σ,H1,I1,q1⟩) I.quiet hs
def tRet(te:TE):TS:=λD σ H=>te σ H D.rt
def zah(he:PE X e te):PS X (.Return (some e) pos) (tRet te):=by
 with_unfolding_all
  intro ai s σ H D I h
  exact wpAny_Return_some (thn (he ai s σ H _ I h) λv s1 ⟨x,H1,I1,r1,q1⟩=>⟨x,σ,H1,I1,r1,q1⟩)
def tIfS(c:TT)(t u:TS):TS:=λD σ H=>c σ H λb H1=>if b=true then t D σ H1 else u D σ H1
theorem au{c:Expr}{a b:List Stmt}{tc:TT}(hc:PT X c tc)(ha:PSs X a t)(hb:PSs X b u):PS X (.If c a b pos) (tIfS tc t u):=by
 with_unfolding_all
  intro ai s σ H D I h
  refine wpAny_If (thn (hc ai s σ H _ I h) λd s1 ⟨H1,I1,q1⟩=>?_)
  cases d with
  | true=>exact ha ai s1 σ H1 D I1 q1
  | false=>exact hb ai s1 σ H1 D I1 q1
def zst:TS:=λ_ _ _=>False
theorem aB:PS X st zst:=by
 with_unfolding_all
  exact λ_ _ _ _ _ _ h=>h.elim
end
abbrev TG:=V->St->Hp->(St->Hp->Prop)->Prop
abbrev TGs:=List V->St->Hp->(St->Hp->Prop)->Prop
def PG(X:Cx)(target:Expr)(t:TG):Prop:=
 ∀(ai:ae)(s:Shared)(σ:St)(H:Hp)(v:V)(u:Value)(Q:St->Hp->Prop),Inv X ai σ H s->RelV v u->t v σ H Q->
  wpAny (model X.prog X.w) X.A (assign target X.env u) (λ_ s'=>∃ σ' H',Inv X ai σ' H' s'/\Q σ' H') X.xe s
def PGs(X:Cx)(ts:List Expr)(t:TGs):Prop:=
 ∀(ai:ae)(s:Shared)(σ:St)(H:Hp)(vs:List V)(us:ah)(Q:St->Hp->Prop),Inv X ai σ H s->Vals vs us->t vs σ H Q->
  wpAny (model X.prog X.w) X.A (assignInOrder ((assignEach ts X.env).map (·.2)) us) (λ_ s'=>∃ σ' H',Inv X ai σ' H' s'/\Q σ' H') X.xe s
abbrev TSet:=V->V->V->Hp->(Hp->Prop)->Prop
def PSet(X:Cx)(t:TSet):Prop:=
 ∀(ai:ae)(s:Shared)(σ:St)(H:Hp)(o i v:V)(ov iv u:Value)(Q:Hp->Prop),Inv X ai σ H s->RelV o ov->RelV i iv->RelV v u->t o i v H Q->
  wpAny (model X.prog X.w) X.A (setItem ov iv u) (λ_ s'=>∃H',Inv X ai σ H' s'/\Q H') X.xe s
abbrev TIp:=V->V->Hp->VK->Prop
def PIp(X:Cx)(op:Operator)(t:TIp):Prop:=
 ∀(ai:ae)(s:Shared)(σ:St)(H:Hp)(x y:V)(v u:Value)(Q:VK),Inv X ai σ H s->RelV x v->RelV y u->t x y H Q->
  wpAny (model X.prog X.w) X.A (inplaceOp op v u) (EP X ai σ Q) X.xe s
section
variable{X:Cx}{pos:Pos}
def zhf(i:Nat):TG:=λv σ H Q=>Q (σ.set i (some v)) H
def zaH{i:Nat}{x:Str}(hN:X.N.Nodup)(hi:X.N[i]?=some x)(hx:Loc X.env.scope x)(hf:X.fn x=true\/X.env.scope.names.lookup x=some .local:=by first | exact .inl rfl | exact .inr rfl | assumption):PG X (.Name x pos) (zhf i):=by
 intro ai s σ H v u Q I r h
 exact pd (aL I hN hi hx r (λs' I'=>⟨_,H,I',h⟩) hf)
def gNil:TGs:=λvs σ H Q=>vs=[]/\Q σ H
def znk(t:TG)(u:TGs):TGs:=λvs σ H Q=>∃v r,vs=v::r/\t v σ H λσ' H'=>u r σ' H' Q
def zcu:PGs X [] gNil:=by
 intro ai s σ H vs us Q I r h
 obtain⟨e,h⟩:=h
 subst e
 cases r
 exact assignInOrder_nil ⟨σ,H,I,h⟩
theorem zaJ{e:Expr}{es:List Expr}{t:TG}{u:TGs}(h1:PG X e t)(h2:PGs X es u)
  (hs:(assignEach (e::es) X.env).map (·.2)=assign e X.env::(assignEach es X.env).map (·.2):=by rfl):PGs X (e::es) (znk t u):=by
 intro ai s σ H vs us Q I r h
 obtain⟨v,vr,e1,h⟩:=h
 subst e1
 cases r with
 | cons r rr=>
   rw[hs]
   refine qW (thn (h1 ai s σ H _ _ _ I r h) λ_ s1 ⟨σ1,H1,I1,q1⟩=>?_)
   exact h2 ai s1 σ1 H1 _ _ Q I1 rr q1
inductive ETup(K:am)(n:Nat)(t:TGs)(v:V)(σ:St)(H:Hp)(Q:St->Hp->Prop):Prop
 | mk (a:Addr) (xs:List V) (hx:v=.ref a) (s:SqT K H a xs) (l:xs.length=n) (q:t xs σ H Q):ETup K n t v σ H Q
def gTup(K:am)(n:Nat)(t:TGs):TG:=ETup K n t
def zeo{es:List Expr}{k:Nat}{t:TGs}{n:Nat}(hc:X.calm=true)(h:PGs X es t)
    (hn:(assignEach es X.env).length=n:=by rfl) (hst:(assignEach es X.env).findIdx? (·.1)=none:=by rfl):PG X (.Tuple es k pos) (gTup X.K n t):=by
 intro ai s σ H v u Q I r hw
 obtain⟨a,xs,e1,hq,hl,hw⟩:=hw
 subst e1
 cases r
 obtain⟨its,rv,ht,hz⟩:=I.tuple hq
 refine assign_Tuple_tuple (I.ok.hd hc) ht (by simp[hn,<-hl,rv.length]) hst λh' hx=>?_
 have I1:Inv X ai σ H { s with heap:=h' }:=I.kept (t':=s.toks) λb o e=>hx b o (tJ (tG e)) e
 exact h ai _ σ H xs _ Q I1 (by simpa using rv) hw
def gSub(to ti:TE)(t:TSet):TG:=λv σ H Q=>to σ H λo H1=>ti σ H1 λi H2=>t o i v H2 λH3=>Q σ H3
def zsu{o i:Expr}{to ti:TE}{t:TSet}(ho:PE X o to)(hi:PE X i ti)(hs:PSet X t)
    (ha:∀v,assign (.Subscript o i pos) X.env v=(do
      let ov <-holding [v] (eval o X.env)
      let iv <-holding [v,ov] (eval i X.env)
      standAt pos
      holding [v,ov,iv] (setItem ov iv v)
      release [v,ov,iv] []):=by intro _;rfl):PG X (.Subscript o i pos) (gSub to ti t):=by
 with_unfolding_all
  intro ai s σ H v u Q I r h
  rw[ha]
  refine tw (tZ (thn (ho ai s σ H _ I h) λov s1 ⟨x,H1,I1,r1,q1⟩=>?_))
  refine tw (tZ (thn (hi ai s1 σ H1 _ I1 q1) λiv s2 ⟨y,H2,I2,r2,q2⟩=>?_))
  refine tw (rO (tw (tZ (thn (hs ai s2 σ H2 x y v ov iv u _ I2 r1 r2 r q2) λ_ s3 ⟨H3,I3,q3⟩=>?_))))
  exact wpAny_release ⟨σ,H3,I3,q3⟩
def tAsg(te:TE)(g:TG):TS:=λD σ H=>te σ H λx H1=>g x σ H1 D.nx
def ziD{tg e:Expr}{te:TE}{g:TG}(he:PE X e te)(hg:PG X tg g)(hs:swapsWithSole [tg] e pos.line X.env=pure false:=by rfl)(hw:swappedStores [tg] e X.env=pure none:=by rfl)
    (h1:(assignEach [tg] X.env).map (·.2)=[assign tg X.env]:=by rfl):PS X (.Assign [tg] e pos) (tAsg te g):=by
 with_unfolding_all
  intro ai s σ H D I h
  refine wpAny_Assign_stores (thn (he ai s σ H _ I h) λv s1 ⟨x,H1,I1,r1,q1⟩=>?_) hs hw
  rw[h1]
  exact thn (hg ai s1 σ H1 x v _ I1 r1 q1) λ_ s2 q=>q
def zap{i:Nat}{x:Str}{e:Expr}{te:TE}{pos':Pos}(hN:X.N.Nodup)(hi:X.N[i]?=some x)(hx:Loc X.env.scope x)(he:PE X e te)(hs:swapsWith e (some (.Name x pos')) pos.line X.env=pure false:=by rfl)(hf:X.fn x=true\/X.env.scope.names.lookup x=some .local:=by first | exact .inl rfl | exact .inr rfl | assumption):
    PS X (.Assign [.Name x pos'] e pos) (tAsg te (zhf i)):=by
 with_unfolding_all
  intro ai s σ H D I h
  refine wpAny_Assign_Name (thn (he ai s σ H _ I h) λv s1 ⟨y,H1,I1,r1,q1⟩=>?_) hs
  exact aL I1 hN hi hx r1 (λs2 I2=>⟨_,H1,I2,q1⟩) hf
def tPar(i j:Nat)(ta:TA):TS:=λD σ H=>ta σ H λvs H1=>∃v w,vs=[v,w]/\D.nx ((σ.set i (some v)).set j (some w)) H1
def zqp{i j:Nat}{x y:Str}{a b:Expr}{ta:TA}{px py pt:Pos} {kt k2 pt2} (hc:X.calm=true) (hN:X.N.Nodup) (hi:X.N[i]?=some x) (hj:X.N[j]?=some y) (hij:i≠j)
    (hx:X.env.scope.names.lookup x=some .local) (hy:X.env.scope.names.lookup y=some .local) (ha:PA X [a,b] ta)
    (hw:swappedStores [.Tuple [.Name x px,.Name y py] kt pt] (.Tuple [a,b] k2 pt2) X.env=pure (some [x,y]))
    (hs:swapsWithSole [.Tuple [.Name x px,.Name y py] kt pt] (.Tuple [a,b] k2 pt2) pos.line X.env=pure false:=by rfl):
    PS X (.Assign [.Tuple [.Name x px,.Name y py] kt pt] (.Tuple [a,b] k2 pt2) pos) (tPar i j ta):=by
 with_unfolding_all
  intro ai s σ H D I h
  rw[exec_Assign_arm]
  refine tw (rO ?_)
  rw[hs]
  refine tw (tI ?_)
  rw[if_neg (by decide)]
  refine tw (Tuple_ (thn (ha _ ai s σ H _ I h) λus s1 ⟨vs,H1,I1,r1,q1⟩=>?_))
  obtain⟨v,w,e1,q1⟩:=q1
  subst e1
  obtain⟨u1,u2,rfl,rv,rw'⟩:∃u1 u2,us=[u1,u2]/\RelV v u1/\RelV w u2:=by
   cases r1 with
   | cons p q=>
     cases q with
     | cons p' q'=>
       cases q'
       exact⟨_,_,rfl,p,p'⟩
  refine pe ?_ (by show 2<=sizeLine;decide)
  have I2:Inv X ai σ H1 { s1 with heap:=s1.heap.push { cls:=.type "tuple",data:=.seq [u1,u2].toArray } }:=I1.kept (t':=s1.toks) λb o e=>tu _ e
  rw[hw]
  refine tw (tI ?_)
  show wpAny (model X.prog X.w) X.A (do rule "assign.swapped-stores";let items <-unpackItems (.ref s1.heap.objs.size) 2 none;assignInOrder [λv=>bindName X.env y v,λv=>bindName X.env x v] items.reverse;pure Flow.next) _ _ _
  refine tw (wpAny_rule (tw (unpackItems_tuple (items := #[u1,u2]) (I.ok.hd hc) (IsTup.new s1.heap _) λh' hx'=>?_)))
  have I3:=I2.kept (h':=h') (t':=s1.toks) λb o e=>hx' b o (tJ (tG e)) e
  show wpAny _ _ (assignInOrder [λv=>bindName X.env y v,λv=>bindName X.env x v] [u2,u1] >>= λ_=>pure Flow.next) _ _ _
  refine tw (qW (wpAny_bindName (aL I3 hN hj (.inl hy) rw' (λs2 I4=>?_) (.inr hy))))
  refine qW (wpAny_bindName (aL I4 hN hi (.inl hx) rv (λs3 I5=>assignInOrder_nil (tI ?_)) (.inr hx)))
  rw[List.set_comm _ _ (Ne.symm hij)]at I5
  exact⟨_,H1,I5,q1⟩
def tAug(i:Nat)(te:TE)(ti:TIp):TS:=λD σ H=>∃x,σ[i]?=some (some x)/\te σ H λy H1=>ti x y H1 λz H2=>D.nx (σ.set i (some z)) H2
def zsv{i:Nat}{x:Str}{e:Expr}{te:TE}{op:Operator}{ti:TIp}{pos':Pos}(hN:X.N.Nodup)(hi:X.N[i]?=some x)(hx:Loc X.env.scope x)(he:PE X e te)(ho:PIp X op ti)(hf:X.fn x=true\/X.env.scope.names.lookup x=some .local:=by first | exact .inl rfl | exact .inr rfl | assumption):
    PS X (.AugAssign (.Name x pos') op e pos) (tAug i te ti):=by
 with_unfolding_all
  intro ai s σ H D I h
  obtain⟨v,e1,h⟩:=h
  obtain⟨m,hn,hl⟩:=I.loc
  have vis:Vis X.env.scope x:=by rcases hx with k | k;exact .inl k;exact .inr (.inl k)
  obtain⟨u,r,l⟩:=hl i x v hi e1 vis
  refine wpAny_AugAssign_Name ?_
  have go:wpAny (model X.prog X.w) X.A (eval e X.env) (λw s₂=>wpAny (model X.prog X.w) X.A (inplaceOp op u w) (λr s₃=>wpAny (model X.prog X.w) X.A (storeName X.env x r) (λ_=>SP X ai D .next) X.xe s₃) X.xe s₂) X.xe s:=by
   refine thn (he ai s σ H _ I h) λw s1 ⟨y,H1,I1,r1,q1⟩=>?_
   refine thn (ho ai s1 σ H1 v y u w _ I1 r r1 q1) λz s2 ⟨zv,H2,I2,r2,q2⟩=>?_
   exact aL I2 hN hi hx r2 (λs3 I3=>⟨_,H2,I3,q2⟩) hf
  rcases l with⟨hk,hm⟩ | ⟨hk,c,hc,hcell⟩
  ·exact wpAny_loadName_local I.ok.kind hk hn hm go
  ·rcases hk with hk | hk
   ·exact wpAny_loadName_cell I.ok.kind hk hc hcell go
   ·rcases hx with k | k
    ·have:X.env.scope.names.lookup x=some .free:=hk
     rw[k]at this;cases this
    ·have:X.env.scope.names.lookup x=some .free:=hk
     rw[k]at this;cases this
def ipI(f:Int->Int->Int):TIp:=λx y H Q=>∃i j,x=.int i/\y=.int j/\Q (.int (f i j)) H
def zsw:PIp X .Add (ipI λi j=>i+j):=by
 intro ai s σ H x y v u Q I r1 r2 h
 obtain⟨i,j,e1,e2,q⟩:=h
 subst e1;subst e2
 obtain⟨t,rfl⟩:=r1
 obtain⟨t',rfl⟩:=r2
 exact iadd_int ⟨.int _,H,I.tok _,⟨_,rfl⟩,q⟩
end
section
variable{X:Cx}{pos:Pos}
def zqq(c:TT)(tb:TS):TS:=λD σ H=>∃W:Nat->St->Hp->Prop,(∃m,W m σ H)/\∀m σ H,W m σ H->
 c σ H λb H1=>if b=true then ∃N:St->Hp->Prop,(∀ σ' H',N σ' H'->∃m',m'<m/\W m' σ' H')/\tb { D with nx:=N,ct:=N,bk:=D.nx } σ H1 else D.nx σ H1
theorem ziZ{c:Expr}{body:List Stmt}{tc:TT}{tb:TS}(hp:PassesOwn (model X.prog X.w) X.A X.env X.xe)(hc:PT X c tc)(hb:PSs X body tb):PS X (.While c body [] pos) (zqq tc tb):=by
 with_unfolding_all
  intro ai s σ H D I h
  obtain⟨W,⟨m0,w0⟩,turn⟩:=h
  refine wpAny_While (codeAny_whileLoop (λn s'=>∃ σ' H',Inv X ai σ' H' s'/\W n σ' H') ?_ m0 ⟨σ,H,I,w0⟩)
  rintro n s1 ⟨σ1,H1,I1,w1⟩
  refine rf hp (thn (hc ai s1 σ1 H1 _ I1 (turn n σ1 H1 w1)) λb s2 ⟨H2,I2,q2⟩=>?_)
  cases b with
  | true=>
    obtain⟨N,hN,q2⟩:=q2
    rw[if_pos rfl]
    refine rf hp (thn (hb ai s2 σ1 H2 _ I2 q2) λf s3 q3=>?_)
    cases f with
    | next=>
      obtain⟨σ3,H3,I3,n3⟩:=q3
      obtain⟨m',hm,w3⟩:=hN σ3 H3 n3
      exact⟨m',hm,σ3,H3,I3,w3⟩
    | cont=>
      obtain⟨σ3,H3,I3,n3⟩:=q3
      obtain⟨m',hm,w3⟩:=hN σ3 H3 n3
      exact⟨m',hm,σ3,H3,I3,w3⟩
    | brk=>exact q3
    | ret v=>exact q3
  | false=>
    rw[if_neg tE]
    exact qO ⟨σ1,H2,I2,q2⟩
end
structure It where
 go:Nat->Hp->Prop
 yld:Nat->Hp->V->Hp->Prop
 stop:Nat->Hp->Prop
def FpOk(X:Cx)(ai:ae)(H:Hp)(b:Addr):Prop:=
 H b=none/\b≠X.env.locals/\b∉X.fs/\(b∈X.ex\/X.s₀.heap.objs.size<=b)/\(∀x c,X.env.cells.lookup x=some c->c≠b)/\∀p∈X.pn++ai,p.1≠b
def Inv.fpOk{X:Cx}{ai:ae}{σ:St}{H H':Hp}{s:Shared}{b:Addr}(I:Inv X ai σ H s)(hb:s.heap.objs.size<=b)(hn:H' b=none):FpOk X ai H' b:=by
 refine⟨hn,qB (tN I.lt hb),I.nofs hb,.inr (tM I.sz hb),λx c e z=>?_,λp hp z=>?_⟩
 ·obtain⟨v,q⟩:=I.cell x c e
  exact absurd (tN q.lt (by rw[z];exact hb)) (rM _)
 ·exact absurd (tN (tG (I.pin p hp).1) (by rw[z];exact hb)) (rM _)
structure Turn(P:Program)(w:World)(K:am)(tg:Expr)(J:It)(fp:List Addr)(it:Addr)(tn:Nat->Heap->Prop):Prop where
 mem:it∈fp
 obj:∀i h,tn i h->∀b∈fp,∃o,h.get? b=some o/\∀v,o.data≠.cell v
 keep:∀i h h',tn i h->(∀b∈fp,∀o,h.get? b=some o->h'.get? b=some o)->tn i h'
 item:∀(X:Cx),X.prog=P->X.w=w->X.K=K->X.calm=true->∀(i:Nat)(ai:ae)(s:Shared)(σ:St)(H:Hp)(E:ac),Inv X ai σ H s->(∀b∈fp,FpOk X ai H b)->tn i s.heap->J.go i H->
  wpAny (model P w) X.A (pyNext (.ref it)) (λr s1=>∃u,r=some u/\
   wpAny (model P w) X.A (letOwnedTupleGo tg (.ref it) u) (λ_ s2=>∃x H',Inv X ai σ H' s2/\RelV x u/\J.yld i H x H'/\tn (i+1) s2.heap/\∀b∈fp,H' b=none) E s1) E s
 done:∀(X:Cx),X.prog=P->X.w=w->X.K=K->X.calm=true->∀(i:Nat)(ai:ae)(s:Shared)(σ:St)(H:Hp)(E:ac),Inv X ai σ H s->(∀b∈fp,FpOk X ai H b)->tn i s.heap->J.stop i H->
  wpAny (model P w) X.A (pyNext (.ref it)) (λr s1=>r=none/\Inv X ai σ H s1) E s
 self:∀(A:Around)(i:Nat)(s:Shared)(Q:ac)(E:ac),tn i s.heap->Q (.ref it) s->wpAny (model P w) A (pyIter (.ref it)) Q E s
abbrev TI:=St->Hp->(It->Hp->Prop)->Prop
inductive PIE(X:Cx)(ai:ae)(σ:St)(tg:Expr)(R:It->Hp->Prop)(itv:Value)(s2:Shared):Prop
 | mk (it:Addr) (fp:List Addr) (tn:Nat->Heap->Prop) (J:It) (H':Hp) (e:itv=.ref it) (I:Inv X ai σ H' s2) (t:Turn X.prog X.w X.K tg J fp it tn) (t0:tn 0 s2.heap) (f:∀b∈fp,FpOk X ai H' b) (q:R J H')
def PI(X:Cx)(tg iter:Expr)(wi:TI):Prop:=
 ∀(ai:ae)(s:Shared)(σ:St)(H:Hp)(R:It->Hp->Prop),Inv X ai σ H s->wi σ H R->
  wpAny (model X.prog X.w) X.A (eval iter X.env) (λv s1=>wpAny (model X.prog X.w) X.A (pyIter v) (PIE X ai σ tg R) X.xe s1) X.xe s
theorem zmx{M:Model}{A:Around}{E:ac}{s:Shared}{tg:Expr}{it:Addr}{u:Value}{o:Obj}{n:String}{vs:Array Value}{Q:aq}(ho:s.heap.get? it=some o)(hc:o.cls=.type n)(hd:o.data=.fields vs)
  (hn:["enumerate","zip","dict_itemiterator","dict_reverseitemiterator","odict_iterator","itertools.zip_longest","itertools.pairwise"].contains n=false) (hQ:Q () s):wpAny M A (letOwnedTupleGo tg (.ref it) u) Q E s:=by
 unfold letOwnedTupleGo
 cases tg<;>first
  | exact tI hQ
  | (cases u<;>first
      | exact tI hQ
      | (refine tw (wpAny_load ho ?_)
         rw[hc,hd]
         show wpAny M A (if(["enumerate","zip","dict_itemiterator","dict_reverseitemiterator","odict_iterator","itertools.zip_longest","itertools.pairwise"].contains n&&vs[0]?==some (rawInt _))=true then _ else _) Q E s
         rw[if_neg (by intro h;rw[hn,rR]at h;cases h)]
         exact tI hQ))
def Itl(K:am)(a:Addr):It:=
 ⟨λi H=>∃xs x,SqL K H a xs/\xs[i]?=some x,λi H x H'=>H'=H/\∀xs,SqL K H a xs->xs[i]?=some x,λi H=>∃xs,SqL K H a xs/\xs.length<=i⟩
def Itt(K:am)(a:Addr):It:=
 ⟨λi H=>∃xs x,SqT K H a xs/\xs[i]?=some x,λi H x H'=>H'=H/\∀xs,SqT K H a xs->xs[i]?=some x,λi H=>∃xs,SqT K H a xs/\xs.length<=i⟩
def Itr(lo:Int)(n:Nat):It:=⟨λi _=>i<n,λi H x H'=>H'=H/\x=.int (lo+i),λi _=>n<=i⟩
def znl{P:Program}{w:World}{K:am}{tg:Expr}(a it:Addr):Turn P w K tg (Itl K a) [it] it (λi h=>h.IsListIter it a i) where
 mem:=by simp
 obj:=λi h st b hb=>by
  have e:b=it:=by simpa using hb
  subst e
  obtain⟨o,e,c,d⟩:=st
  exact⟨o,e,λv z=>by rw[d]at z;cases z⟩
 keep:=λi h h' st k=>st.at λo e=>k it (by simp) o e
 item:=by
  intro X hP hw hK hc i ai s σ H E I hf st hg
  subst hP hw hK
  obtain⟨xs,x,hq,hx⟩:=hg
  obtain⟨its,rv,p,hz⟩:=I.list hq
  obtain⟨u,hu,ru⟩:=rv.get hx
  obtain⟨f0,f1,f2,f3,f4,f5⟩:=hf it (by simp)
  refine ql st p.isList (x:=u) (by simpa using hu) λh' st' sb=>?_
  have I1:Inv X ai σ H { s with heap:=h' }:=I.turned (t':=s.toks) (λb o hb e=>(sb.2 b hb).trans e) f0 f1 f3 f4 f5
  obtain⟨o,e,c,d⟩:=id st'
  exact⟨u,rfl,zmx (s := { s with heap:=h' }) e c d (by decide) ⟨x,H,I1,ru,⟨rfl,λys hy=>by rw[I.list_inj hy hq];exact hx⟩,st',λb hb=>(hf b hb).1⟩⟩
 done:=by
  intro X hP hw hK hc i ai s σ H E I hf st hg
  subst hP hw hK
  obtain⟨xs,hq,hx⟩:=hg
  obtain⟨its,rv,p,hz⟩:=I.list hq
  obtain⟨f0,f1,f2,f3,f4,f5⟩:=hf it (by simp)
  have hl:=rv.length
  exact qC (I.ok.hd hc) st p.isList (by simp;omega) λh' eb=>⟨rfl,I.turned (t':=s.toks) (λb o hb e=>eb b o hb e) f0 f1 f3 f4 f5⟩
 self:=λ_ _ _ _ _ st h=>wpAny_pyIter_listiter st h
def zmy{P:Program}{w:World}{K:am}{tg:Expr}(a it:Addr):Turn P w K tg (Itt K a) [it] it (λi h=>h.IsTupleIter it a i) where
 mem:=by simp
 obj:=λi h st b hb=>by
  have e:b=it:=by simpa using hb
  subst e
  obtain⟨o,e,c,d⟩:=st
  exact⟨o,e,λv z=>by rw[d]at z;cases z⟩
 keep:=λi h h' st k=>st.at λo e=>k it (by simp) o e
 item:=by
  intro X hP hw hK hc i ai s σ H E I hf st hg
  subst hP hw hK
  obtain⟨xs,x,hq,hx⟩:=hg
  obtain⟨its,rv,p,hz⟩:=I.tuple hq
  obtain⟨u,hu,ru⟩:=rv.get hx
  obtain⟨f0,f1,f2,f3,f4,f5⟩:=hf it (by simp)
  refine wpAny_pyNext_tuple_item st (show s.heap.IsTuple a its.toArray from p) (x:=u) (by simpa using hu) λh' st' sb=>?_
  have I1:Inv X ai σ H { s with heap:=h' }:=I.turned (t':=s.toks) (λb o hb e=>(sb.2 b hb).trans e) f0 f1 f3 f4 f5
  obtain⟨o,e,c,d⟩:=id st'
  exact⟨u,rfl,zmx (s := { s with heap:=h' }) e c d (by decide) ⟨x,H,I1,ru,⟨rfl,λys hy=>by rw[I.tuple_inj hy hq];exact hx⟩,st',λb hb=>(hf b hb).1⟩⟩
 done:=by
  intro X hP hw hK hc i ai s σ H E I hf st hg
  subst hP hw hK
  obtain⟨xs,hq,hx⟩:=hg
  obtain⟨its,rv,p,hz⟩:=I.tuple hq
  obtain⟨f0,f1,f2,f3,f4,f5⟩:=hf it (by simp)
  have hl:=rv.length
  exact wpAny_pyNext_tuple_end (I.ok.hd hc) st (show s.heap.IsTuple a its.toArray from p) (by simp;omega) λh' eb=>⟨rfl,I.turned (t':=s.toks) (λb o hb e=>eb b o hb e) f0 f1 f3 f4 f5⟩
 self:=λ_ _ _ _ _ st h=>wpAny_pyIter_tupleiter st h
def zmz{P:Program}{w:World}{K:PySem.W.Frag}{tg:Expr}(it:Addr)(lo:Int)(n:Nat):Turn P w K tg (Itr lo n) [it] it (λi h=>IsRangeIter h it (lo+(i:Nat)*1) ((n:Int)-(i:Nat)) 1) where
 mem:=by simp
 obj:=λi h st b hb=>by
  have e:b=it:=by simpa using hb
  subst e
  exact⟨_,st,λv z=>by
   have z':Data.fields _=Data.cell v:=z
   cases z'⟩
 keep:=λi h h' st k=>k it (by simp) _ st
 item:=by
  intro X hP hw hK hc i ai s σ H E I hf st hg
  subst hP hw hK
  obtain⟨f0,f1,f2,f3,f4,f5⟩:=hf it (by simp)
  have W:=Walks.range (prog:=X.prog) (w:=X.w) (I.ok.hd hc) it lo 1 n
  refine W.item i s _ _ hg st λv h' tk hv st' kk=>?_
  obtain⟨t,rfl⟩:=hv
  have I1:Inv X ai σ H { s with heap:=h',toks:=tk }:=I.turned (λb o hb e=>kk b o (by simpa using hb) e) f0 f1 f3 f4 f5
  refine⟨_,rfl,zmx (s := { s with heap:=h',toks:=tk }) (n := "range_iterator") st' rfl rfl (by decide) ⟨.int (lo+i),H,I1,⟨t,?_⟩,⟨rfl,rfl⟩,st',λb hb=>(hf b hb).1⟩⟩
  rw[Int.mul_one]
 done:=by
  intro X hP hw hK hc i ai s σ H E I hf st hg
  subst hP hw hK
  obtain⟨f0,f1,f2,f3,f4,f5⟩:=hf it (by simp)
  exact wpAny_pyNext_range_end (I.ok.hd hc) st (by have:n<=i:=hg;omega) λh' eb=>⟨rfl,I.turned (t':=s.toks) (λb o hb e=>eb b o hb e) f0 f1 f3 f4 f5⟩
 self:=λ_ _ _ _ _ st h=>wpAny_pyIter_rangeiter st h
section
variable{X:Cx}{tg:Expr}
def ztS(K:am)(tl:TE):TI:=λσ H R=>tl σ H λx H1=>∃a,x=.ref a/\(∃xs,SqL K H1 a xs)/\R (Itl K a) H1
def iTup(K:am)(tl:TE):TI:=λσ H R=>tl σ H λx H1=>∃a,x=.ref a/\(∃xs,SqT K H1 a xs)/\R (Itt K a) H1
def zaK{l:Expr}{tl:TE}(hl:PE X l tl):PI X tg l (ztS X.K tl):=by
 with_unfolding_all
  intro ai s σ H R I h
  refine thn (hl ai s σ H _ I h) λv s1 ⟨x,H1,I1,r1,q1⟩=>?_
  obtain⟨a,e,⟨xs,hq⟩,q⟩:=q1
  subst e
  cases r1
  obtain⟨its,rv,p,hz⟩:=I1.list hq
  refine rg p.isList ?_
  refine⟨s1.heap.objs.size,[s1.heap.objs.size],_,_,H1,rfl,I1.kept (t':=s1.toks) λb o e=>tu _ e,znl a _,⟨_,tH _ rfl,rfl,rfl⟩,λb hb=>?_,q⟩
  have e:b=s1.heap.objs.size:=by simpa using hb
  subst e
  exact I1.fpOk (tD _) (I1.hok.fresh (tD _))
def zsx{l:Expr}{tl:TE}(hl:PE X l tl):PI X tg l (iTup X.K tl):=by
 with_unfolding_all
  intro ai s σ H R I h
  refine thn (hl ai s σ H _ I h) λv s1 ⟨x,H1,I1,r1,q1⟩=>?_
  obtain⟨a,e,⟨xs,hq⟩,q⟩:=q1
  subst e
  cases r1
  obtain⟨its,rv,p,hz⟩:=I1.tuple hq
  refine wpAny_pyIter_tuple (show s1.heap.IsTuple a its.toArray from p) ?_
  refine⟨s1.heap.objs.size,[s1.heap.objs.size],_,_,H1,rfl,I1.kept (t':=s1.toks) λb o e=>tu _ e,zmy a _,⟨_,tH _ rfl,rfl,rfl⟩,λb hb=>?_,q⟩
  have e:b=s1.heap.objs.size:=by simpa using hb
  subst e
  exact I1.fpOk (tD _) (I1.hok.fresh (tD _))
def zpv{ai:ae}{σ:St}{H:Hp}{s:Shared}{R:It->Hp->Prop}{E:ac}{lo hi:Int}{t u v:Tok}{tk:Nat}(I:Inv X ai σ H s)(h1 : -(2 ^ 62)<=lo)(h2:lo<2 ^ 62)(h3 : -(2 ^ 62)<=hi)(h4:hi<2 ^ 62)
    (q:R (Itr lo (hi-lo).toNat) H):wpAny (model X.prog X.w) X.A (pyIter (.ref s.heap.objs.size)) (PIE X ai σ tg R) E { s with heap:=s.heap.push { cls:=.type "range",data:=.fields #[.int lo t,.int hi u,.int 1 v] },toks:=tk }:=by
 refine wpAny_pyIter_range (IsRange.new ..) (small_one h1 h2 h3 h4) ?_
 have I1:Inv X ai σ H { s with heap:=s.heap.push { cls:=.type "range",data:=.fields #[.int lo t,.int hi u,.int 1 v] },toks:=tk }:=I.kept λb o e=>tu _ e
 refine⟨(s.heap.push { cls:=.type "range",data:=.fields #[.int lo t,.int hi u,.int 1 v] }).objs.size,[(s.heap.push { cls:=.type "range",data:=.fields #[.int lo t,.int hi u,.int 1 v] }).objs.size],_,_,H,rfl,
  I1.kept (t':=tk) λb o e=>tu _ e,zmz _ lo (hi-lo).toNat,?_,λb hb=>?_,q⟩
 ·have e1:lo+((0:Nat):Int)*1=lo:=by simp
  have e2:(((hi-lo).toNat:Nat):Int)-((0:Nat):Int)=Builtin.Range.rangeSize lo hi 1:=by rw[rangeSize_one];split<;>omega
  show IsRangeIter _ _ (lo+((0:Nat):Int)*1) ((((hi-lo).toNat:Nat):Int)-((0:Nat):Int)) 1
  rw[e1,e2]
  exact tH _ rfl
 ·have e:b=(s.heap.push { cls:=.type "range",data:=.fields #[.int lo t,.int hi u,.int 1 v] }).objs.size:=by simpa using hb
  subst e
  exact I1.fpOk (tD _) (I1.hok.fresh (tD _))
def ztT(ta:TA):TI:=λσ H R=>ta σ H λvs H1=>∃j:Int,vs=[.int j] /\ -(2 ^ 62)<=j/\j<2 ^ 62/\R (Itr 0 j.toNat) H1
theorem zhg{a:Expr}{ta:TA}{p pos:Pos}(hg:Gl X "range")(hm:X.mg "range" = none)(ha:PA X [a] ta)(hs:starEach [a] X.env=[(false,eval a X.env)]:=by rfl):PI X tg (.Call (.Name "range" p) [a] [] pos) (ztT ta):=by
 with_unfolding_all
  intro ai s σ H R I h
  refine Call_ (zgG I hg hm boot_range (sX (thn (ha pos ai s σ H _ I h) λus s1 ⟨vs,H1,I1,r1,q1⟩=>?_) hs rfl))
  obtain⟨j,e,q1,q2,q⟩:=q1
  subst e
  cases r1 with
  | cons r rr=>
    cases rr
    obtain⟨t,rfl⟩:=r
    exact call_range_1 (zpv I1 (by omega) (by omega) q1 q2 (by simpa using q))
def tFor(wi:TI)(g:TG)(tb:TS):TS:=λD σ H=>wi σ H λJ H1=>∃W:Nat->Nat->St->Hp->Prop,(∃m,W 0 m σ H1)/\∀i m σ H,W i m σ H->
 (J.stop i H/\D.nx σ H)\/(J.go i H/\∃N:St->Hp->Prop,(∀ σ' H',N σ' H'->∃m',m'<m/\W (i+1) m' σ' H')/\∀x H',J.yld i H x H'->g x σ H' λσ2 H2=>tb { D with nx:=N,ct:=N,bk:=D.nx } σ2 H2)
def ziE(fp:List Addr)(h:Heap):List (Addr × Obj):=fp.filterMap λb=>(h.get? b).map λo=>(b,o)
def zcq{fp:List Addr}{h:Heap}{b:Addr}{o:Obj}(hb:b∈fp)(e:h.get? b=some o):(b,o)∈ziE fp h:=List.mem_filterMap.mpr ⟨b,hb,by rw[e];rfl⟩
theorem znm{fp:List Addr}{h:Heap}{p:Addr × Obj}(hp:p∈ziE fp h):p.1∈fp/\h.get? p.1=some p.2:=by
 obtain⟨b,hb,e⟩:=List.mem_filterMap.mp hp
 cases q:h.get? b with
 | none=>rw[q]at e;cases e
 | some o=>
   rw[q]at e
   have e':(b,o)=p:=tF e
   subst e'
   exact⟨hb,q⟩
def Inv.pinned{ai:ae}{σ:St}{H:Hp}{s:Shared}{fp:List Addr}(I:Inv X ai σ H s)(hf:∀b∈fp,FpOk X ai H b)(ho:∀b∈fp,∃o,s.heap.get? b=some o/\∀v,o.data≠.cell v):Inv X (ai++ziE fp s.heap) σ H s:=
 I.pins_of λp hp=>(mem_append.mp hp).elim (λz=>I.pin p (tR _ z)) λz=>by
  obtain⟨hb,e⟩:=znm z
  obtain⟨f0,f1,f2,_⟩:=hf p.1 hb
  obtain⟨o,e',d⟩:=ho p.1 hb
  rw[e]at e';cases e'
  exact⟨e,f0,f1,f2,d⟩
def Inv.unpinned{ai pl:ae}{σ:St}{H:Hp}{s:Shared}(I:Inv X (ai++pl) σ H s):Inv X ai σ H s:=I.pins_of λp hp=>I.pin p (tR _ (qN _ hp))
def zcJ{iter:Expr}{body:List Stmt}{wi:TI}{g:TG}{tb:TS}{pos:Pos}(hp:PassesOwn (model X.prog X.w) X.A X.env X.xe)(hc:X.calm=true)(hi:PI X tg iter wi)(hg:PG X tg g)(hb:PSs X body tb)
    (hs:∀x,foldedSetIterable iter X.env x=pure x:=by intro _;rfl):PS X (.For tg iter body [] pos) (tFor wi g tb):=by
 with_unfolding_all
  intro ai s σ H D I h
  refine wpAny_For (thn (hi ai s σ H _ I h) λv s1 h1=>thn h1 λitv s2 h2=>?_) hs
  obtain⟨it,fp,tn,J,H2,e,I2,T,st2,f2,W,⟨m0,w0⟩,turn⟩:=h2
  subst e
  have stat:∀{H':Hp},(∀b∈fp,H' b=none)->∀b∈fp,FpOk X ai H' b:=λhn b hb=>⟨hn b hb,(f2 b hb).2⟩
  refine codeAny_forLoop_any (λn s'=>∃i σ' H',Inv X ai σ' H' s'/\tn i s'.heap/\(∀b∈fp,H' b=none)/\W i n σ' H') ?_ m0 ⟨0,σ,H2,I2,st2,λb hb=>(f2 b hb).1,w0⟩
  rintro n s3 ⟨i,σ3,H3,I3,st3,fr3,w3⟩
  rcases turn i n σ3 H3 w3 with⟨stop,qn⟩ | ⟨go,N,hN,step⟩
  ·refine rf hp (thn (T.done X rfl rfl rfl hc i ai s3 σ3 H3 X.xe I3 (stat fr3) st3 stop) λr s4 ⟨hr,I4⟩=>?_)
   subst hr
   exact qO ⟨σ3,H3,I4,qn⟩
  ·refine rf hp (thn (T.item X rfl rfl rfl hc i ai s3 σ3 H3 X.xe I3 (stat fr3) st3 go) λr s4 ⟨u,hr,h4⟩=>?_)
   subst hr
   refine rf hp (thn h4 λ_ s5 ⟨x,H5,I5,r5,y5,st5,fr5⟩=>?_)
   have I5':=I5.pinned (stat fr5) (T.obj _ _ st5)
   refine rf hp (thn (hg _ s5 σ3 H5 x u _ I5' r5 (step x H5 y5)) λ_ s6 ⟨σ6,H6,I6,q6⟩=>?_)
   refine rf hp (thn (hb _ s6 σ6 H6 _ I6 q6) λf s7 q7=>?_)
   have again:∀{σ7:St}{H7:Hp},Inv X (ai++ziE fp s5.heap) σ7 H7 s7->N σ7 H7->∃m,m<n/\∃i σ' H',Inv X ai σ' H' s7/\tn i s7.heap/\(∀b∈fp,H' b=none)/\W i m σ' H':=λ{σ7 H7} I7 n7=>by
    obtain⟨m',hm,w7⟩:=hN σ7 H7 n7
    refine⟨m',hm,i+1,σ7,H7,I7.unpinned,T.keep _ _ _ st5 λb hb o e=>(I7.pin (b,o) (tR _ (tR _ (zcq hb e)))).1,λb hb=>?_,w7⟩
    obtain⟨o,e,d⟩:=T.obj _ _ st5 b hb
    exact(I7.pin (b,o) (tR _ (tR _ (zcq hb e)))).2.1
   cases f with
   | next=>obtain⟨σ7,H7,I7,n7⟩:=q7;exact again I7 n7
   | cont=>obtain⟨σ7,H7,I7,n7⟩:=q7;exact again I7 n7
   | brk=>obtain⟨σ7,H7,I7,q7⟩:=q7;exact⟨σ7,H7,I7.unpinned,q7⟩
   | ret v=>obtain⟨x7,σ7,H7,I7,r7,q7⟩:=q7;exact⟨x7,σ7,H7,I7.unpinned,r7,q7⟩
end
def zcK{K:PySem.W.Frag}{a:Addr}{xs:List V}{g:TG}{tb:TS}{D:Ends}{σ:St}{H:Hp}(Pv:Nat->St->Hp->Prop)(h0:Pv 0 σ H)(hl:∀i σ H,i<=xs.length->Pv i σ H->SqL K H a xs)
    (hs:∀i x σ H,xs[i]?=some x->Pv i σ H->g x σ H λσ2 H2=>tb { D with nx:=Pv (i+1),ct:=Pv (i+1),bk:=D.nx } σ2 H2) (hd:∀ σ H,Pv xs.length σ H->D.nx σ H):
    ∃W:Nat->Nat->St->Hp->Prop,(∃m,W 0 m σ H)/\∀i m σ H,W i m σ H->
     ((Itl K a).stop i H/\D.nx σ H)\/((Itl K a).go i H/\∃N:St->Hp->Prop,(∀ σ' H',N σ' H'->∃m',m'<m/\W (i+1) m' σ' H')/\∀x H',(Itl K a).yld i H x H'->g x σ H' λσ2 H2=>tb { D with nx:=N,ct:=N,bk:=D.nx } σ2 H2):=by
 refine⟨λi m σ H=>m=xs.length-i/\i<=xs.length/\Pv i σ H,⟨xs.length,by simp,tU _,h0⟩,?_⟩
 rintro i m σ H ⟨rfl,hi,p⟩
 have q:=hl i σ H hi p
 by_cases hlt:i<xs.length
 ·refine .inr ⟨⟨xs,xs[i],q,by simp[hlt]⟩,Pv (i+1),λσ' H' p'=>⟨xs.length-(i+1),by omega,rfl,hlt,p'⟩,λx H' y=>?_⟩
  obtain⟨e,y⟩:=y
  subst e
  exact hs i x σ _ (y xs q) p
 ·have e:i=xs.length:=by omega
  subst e
  exact .inl ⟨⟨xs,q,tD _⟩,hd σ H p⟩
def zrp{K:PySem.W.Frag}{a:Addr}{xs:List V}{g:TG}{tb:TS}{D:Ends}{σ:St}{H:Hp}(Pv:Nat->St->Hp->Prop)(h0:Pv 0 σ H)(hl:∀i σ H,i<=xs.length->Pv i σ H->SqT K H a xs)
    (hs:∀i x σ H,xs[i]?=some x->Pv i σ H->g x σ H λσ2 H2=>tb { D with nx:=Pv (i+1),ct:=Pv (i+1),bk:=D.nx } σ2 H2) (hd:∀ σ H,Pv xs.length σ H->D.nx σ H):
    ∃W:Nat->Nat->St->Hp->Prop,(∃m,W 0 m σ H)/\∀i m σ H,W i m σ H->
     ((Itt K a).stop i H/\D.nx σ H)\/((Itt K a).go i H/\∃N:St->Hp->Prop,(∀ σ' H',N σ' H'->∃m',m'<m/\W (i+1) m' σ' H')/\∀x H',(Itt K a).yld i H x H'->g x σ H' λσ2 H2=>tb { D with nx:=N,ct:=N,bk:=D.nx } σ2 H2):=by
 refine⟨λi m σ H=>m=xs.length-i/\i<=xs.length/\Pv i σ H,⟨xs.length,by simp,tU _,h0⟩,?_⟩
 rintro i m σ H ⟨rfl,hi,p⟩
 have q:=hl i σ H hi p
 by_cases hlt:i<xs.length
 ·refine .inr ⟨⟨xs,xs[i],q,by simp[hlt]⟩,Pv (i+1),λσ' H' p'=>⟨xs.length-(i+1),by omega,rfl,hlt,p'⟩,λx H' y=>?_⟩
  obtain⟨e,y⟩:=y
  subst e
  exact hs i x σ _ (y xs q) p
 ·have e:i=xs.length:=by omega
  subst e
  exact .inl ⟨⟨xs,q,tD _⟩,hd σ H p⟩
def zjN{lo:Int}{n:Nat}{g:TG}{tb:TS}{D:Ends}{σ:St}{H:Hp}(Pv:Nat->St->Hp->Prop)(h0:Pv 0 σ H)
    (hs:∀i σ H,i<n->Pv i σ H->g (.int (lo+i)) σ H λσ2 H2=>tb { D with nx:=Pv (i+1),ct:=Pv (i+1),bk:=D.nx } σ2 H2) (hd:∀ σ H,Pv n σ H->D.nx σ H):
    ∃W:Nat->Nat->St->Hp->Prop,(∃m,W 0 m σ H)/\∀i m σ H,W i m σ H->
     ((Itr lo n).stop i H/\D.nx σ H)\/((Itr lo n).go i H/\∃N:St->Hp->Prop,(∀ σ' H',N σ' H'->∃m',m'<m/\W (i+1) m' σ' H')/\∀x H',(Itr lo n).yld i H x H'->g x σ H' λσ2 H2=>tb { D with nx:=N,ct:=N,bk:=D.nx } σ2 H2):=by
 refine⟨λi m σ H=>m=n-i/\i<=n/\Pv i σ H,⟨n,by simp,tU _,h0⟩,?_⟩
 rintro i m σ H ⟨rfl,hi,p⟩
 by_cases hlt:i<n
 ·refine .inr ⟨hlt,Pv (i+1),λσ' H' p'=>⟨n-(i+1),by omega,rfl,hlt,p'⟩,λx H' y=>?_⟩
  obtain⟨e,y⟩:=y
  subst e y
  exact hs i σ _ hlt p
 ·have e:i=n:=by omega
  subst e
  exact .inl ⟨tD _,hd σ H p⟩
theorem bz{c:TT}{tb:TS}{D:Ends}{σ:St}{H:Hp}(Pv:St->Hp->Prop)(μ:St->Hp->Nat)(h0:Pv σ H)
  (hs:∀ σ H,Pv σ H->c σ H λb H1=>if b=true then tb { D with nx:=λσ' H'=>Pv σ' H' /\ μ σ' H' < μ σ H,ct:=λσ' H'=>Pv σ' H' /\ μ σ' H' < μ σ H,bk:=D.nx } σ H1 else D.nx σ H1)
  (mono:∀ σ H Q Q',(∀b H1,Q b H1->Q' b H1)->c σ H Q->c σ H Q'):zqq c tb D σ H:=by
 refine⟨λm σ H=>m = μ σ H/\Pv σ H,⟨_,rfl,h0⟩,?_⟩
 rintro m σ H ⟨rfl,p⟩
 refine mono σ H _ _ (λb H1 q=>?_) (hs σ H p)
 cases b with
 | true=>exact⟨_,λσ' H' ⟨p',l⟩=>⟨_,l,rfl,p'⟩,q⟩
 | false=>exact q
abbrev R2:=V->V->Hp->VK->Prop
def OpR(X:Cx)(f:Value->Value->Sem Value)(r:R2):Prop:=
 ∀(ai:ae)(s:Shared)(σ:St)(H:Hp)(x y:V)(v u:Value)(Q:VK),Inv X ai σ H s->RelV x v->RelV y u->r x y H Q->
  wpAny (model X.prog X.w) X.A (f v u) (EP X ai σ Q) X.xe s
def UnR(X:Cx)(f:Value->Sem Value)(r:V->Hp->VK->Prop):Prop:=
 ∀(ai:ae)(s:Shared)(σ:St)(H:Hp)(x:V)(v:Value)(Q:VK),Inv X ai σ H s->RelV x v->r x H Q->
  wpAny (model X.prog X.w) X.A (f v) (EP X ai σ Q) X.xe s
def zda(X:Cx)(f:Value)(r:List V->Hp->VK->Prop):Prop:=
 ∀(ai:ae)(s:Shared)(σ:St)(H:Hp)(xs:List V)(us:ah)(Q:VK),Inv X ai σ H s->Vals xs us->r xs H Q->
  wpAny (model X.prog X.w) X.A (call f us) (EP X ai σ Q) X.xe s
def tOp(r:R2)(ta tb:TE):TE:=λσ H Q=>ta σ H λx H1=>tb σ H1 λy H2=>r x y H2 Q
def tUn(r:V->Hp->VK->Prop)(ta:TE):TE:=λσ H Q=>ta σ H λx H1=>r x H1 Q
inductive EI(C:Int->Int->Prop)(g:Int->Int->V)(x y:V)(H:Hp)(Q:VK):Prop
 | mk (i j:Int) (hx:x=.int i) (hy:y=.int j) (c:C i j) (q:Q (g i j) H):EI C g x y H Q
def rI(C:Int->Int->Prop)(g:Int->Int->V):R2:=EI C g
inductive EI0(g:Int->Int->V)(x y:V)(H:Hp)(Q:VK):Prop
 | mk (i j:Int) (hx:x=.int i) (hy:y=.int j) (q:Q (g i j) H):EI0 g x y H Q
def rI0(g:Int->Int->V):R2:=EI0 g
def rU(g:Int->V):V->Hp->VK->Prop:=λx H Q=>∃i,x=.int i/\Q (g i) H
section
variable{X:Cx}{a b c:Expr}{ta tb tc:TE}{pos:Pos}
def binT(ha:PE X a ta)(hb:PE X b tb){ai:ae}{s:Shared}{σ:St}{H:Hp}{R:V->V->Hp->Prop}(I:Inv X ai σ H s)
    (h:ta σ H λx H1=>tb σ H1 λy H2=>R x y H2) {Q:ac} {f:Value->Value->Sem Value}
    (hf:∀v u s2 x y H2,Inv X ai σ H2 s2->RelV x v->RelV y u->R x y H2->wpAny (model X.prog X.w) X.A (f v u) Q X.xe s2):
    wpAny (model X.prog X.w) X.A (eval a X.env) (λv s₁=>wpAny (model X.prog X.w) X.A (eval b X.env) (λu s₂=>wpAny (model X.prog X.w) X.A (f v u) Q X.xe s₂) X.xe s₁) X.xe s:=by
 with_unfolding_all
  refine thn (ha ai s σ H _ I h) λv s1 ⟨x,H1,I1,r1,q1⟩=>?_
  refine thn (hb ai s1 σ H1 _ I1 q1) λu s2 ⟨y,H2,I2,r2,q2⟩=>?_
  exact hf v u s2 x y H2 I2 r1 r2 q2
def zaz{op:Operator}{r:R2}(ho:OpR X (binaryOp op) r)(ha:PE X a ta)(hb:PE X b tb):PE X (.BinOp a op b pos) (tOp r ta tb):=by
 with_unfolding_all
  intro ai s σ H Q I h
  exact wpAny_BinOp (binT ha hb I h λv u s2 x y H2 I2 rx ry q=>ho ai s2 σ H2 x y v u Q I2 rx ry q)
def zsy{op:UnaryOp}{r:V->Hp->VK->Prop}(ho:UnR X (unaryOp op) r)(ha:PE X a ta):PE X (.UnaryOp op a pos) (tUn r ta):=by
 with_unfolding_all
  intro ai s σ H Q I h
  exact UnaryOp_ (thn (ha ai s σ H _ I h) λv s1 ⟨x,H1,I1,r1,q1⟩=>ho ai s1 σ H1 x v Q I1 r1 q1)
def opI{f:Value->Value->Sem Value}{C:Int->Int->Prop}{g:Int->Int->Int}
    (rule:∀(i j:Int)(t u:Tok)(s:Shared)(Q:ac)(E:ac),C i j->Q (.int (g i j) s.toks) { s with toks:=s.toks+1 }->wpAny (model X.prog X.w) X.A (f (.int i t) (.int j u)) Q E s):
    OpR X f (rI C λi j=>.int (g i j)):=by
 intro ai s σ H x y v u Q I rx ry h
 obtain⟨i,j,rfl,rfl,hc,q⟩:=h
 obtain⟨t,rfl⟩:=rx
 obtain⟨t',rfl⟩:=ry
 exact rule i j t t' s _ _ hc ⟨.int (g i j),H,I.tok _,⟨_,rfl⟩,q⟩
def opI0{f:Value->Value->Sem Value}{g:Int->Int->Int}
    (rule:∀(i j:Int)(t u:Tok)(s:Shared)(Q:ac)(E:ac),Q (.int (g i j) s.toks) { s with toks:=s.toks+1 }->wpAny (model X.prog X.w) X.A (f (.int i t) (.int j u)) Q E s):
    OpR X f (rI0 λi j=>.int (g i j)):=by
 intro ai s σ H x y v u Q I rx ry h
 obtain⟨i,j,rfl,rfl,q⟩:=h
 obtain⟨t,rfl⟩:=rx
 obtain⟨t',rfl⟩:=ry
 exact rule i j t t' s _ _ ⟨.int (g i j),H,I.tok _,⟨_,rfl⟩,q⟩
def opB0{f:Value->Value->Sem Value}{g:Int->Int->Bool}
    (rule:∀(i j:Int)(t u:Tok)(s:Shared)(Q:ac)(E:ac),Q (.bool (g i j)) s->wpAny (model X.prog X.w) X.A (f (.int i t) (.int j u)) Q E s):
    OpR X f (rI0 λi j=>.bl (g i j)):=by
 intro ai s σ H x y v u Q I rx ry h
 obtain⟨i,j,rfl,rfl,q⟩:=h
 obtain⟨t,rfl⟩:=rx
 obtain⟨t',rfl⟩:=ry
 exact rule i j t t' s _ _ ⟨.bl (g i j),H,I,rfl,q⟩
def CPow(i j:Int):Prop:=0<=j/\j<=1000000/\i.natAbs<2 ^ 64
def CMul(i j:Int):Prop:=(-(2 ^ 64)<i/\i<2 ^ 64)\/(-(2 ^ 64)<j/\j<2 ^ 64)
def CMul.ok{i j:Int}(h:CMul i j):IntMulOk i j:=by
 rcases h with⟨h1,h2⟩ | ⟨h1,h2⟩
 ·exact .of_left (intBits_le_64 h1 h2)
 ·exact .of_right (intBits_le_64 h1 h2)
def zmA(k:Nat):(0:Int)<=2 ^ k:=by
 rw[two_pow_cast]
 exact Int.natCast_nonneg _
def ay:OpR X (binaryOp .Add) (rI0 λi j=>.int (i+j)):=opI0 λ_ _ _ _ _ _ _ q=>add_int q
def zgI:OpR X (binaryOp .Sub) (rI0 λi j=>.int (i-j)):=opI0 λ_ _ _ _ _ _ _ q=>sub_int q
def zbJ:OpR X (binaryOp .Mult) (rI CMul λi j=>.int (i*j)):=opI λ_ _ _ _ _ _ _ hc q=>mul_int q hc.ok
def zcL:OpR X (binaryOp .Mod) (rI (λ_ j=>0<j) λi j=>.int (i % j)):=opI λi j _ _ _ _ _ hc q=>by
 have h1:(0:Int)<j:=hc
 exact mod_int' (by omega) (by rw[Int.fmod_eq_emod_of_nonneg i (by omega)];exact q)
def zlG:OpR X (binaryOp .Pow) (rI CPow λi j=>.int (i ^ j.toNat)):=opI λ_ _ _ _ _ _ _ hc q=>pow_int_small hc.1 hc.2.1 hc.2.2 q
def zqr:OpR X (binaryOp .RShift) (rI (λ_ j=>0<=j) λi j=>.int (i / 2 ^ j.toNat)):=opI λi j _ _ _ _ _ hc q=>
 rshift_int hc (by rw[Int.fdiv_eq_ediv_of_nonneg i (zmA _)];exact q)
def unI{f:Value->Sem Value}{g:Int->Int}
    (rule:∀(i:Int)(t:Tok)(s:Shared)(Q:ac)(E:ac),Q (.int (g i) s.toks) { s with toks:=s.toks+1 }->wpAny (model X.prog X.w) X.A (f (.int i t)) Q E s):
    UnR X f (rU λi=>.int (g i)):=by
 intro ai s σ H x v Q I rx h
 obtain⟨i,rfl,q⟩:=h
 obtain⟨t,rfl⟩:=rx
 exact rule i t s _ _ ⟨.int (g i),H,I.tok _,⟨_,rfl⟩,q⟩
def zqs:UnR X (unaryOp .USub) (rU λi=>.int (-i)):=unI λ_ _ _ _ _ q=>neg_int q
end
def scal:V->V->Bool
 | .non,.non=>true | .non,.int _=>true | .int _,.non=>true | .non,.bl _=>true | .bl _,.non=>true | .non,.str _=>true | .str _,.non=>true
 | .int _,.int _=>true | .bl _,.bl _=>true | .str _,.str _=>true | .byt _,.byt _=>true
 | .int _,.str _=>true | .str _,.int _=>true | .bl _,.str _=>true | .str _,.bl _=>true
 | _,_=>false
def rEq:R2:=λx y H Q=>scal x y=true/\Q (.bl (decide (x=y))) H
def rNe:R2:=λx y H Q=>scal x y=true/\Q (.bl (!decide (x=y))) H
def znn{i j:Int}:decide (V.int i=V.int j)=(i==j):=by
 rw[sw]
 simp
def zqt{i j:Bool}:decide (V.bl i=V.bl j)=(i==j):=by
 rw[sw]
 simp
def zno{i j:Str}:decide (V.str i=V.str j)=(i==j):=by
 rw[sw]
 simp
def znp{i j:Array UInt8}:decide (V.byt i=V.byt j)=(i.toList==j.toList):=by
 rw[sw]
 cases i
 cases j
 simp
section
variable{X:Cx}{a b c:Expr}{ta tb tc:TE}{pos:Pos}
def zaX{ai:ae}{σ:St}{H:Hp}{s:Shared}{Q:VK}{k k':Bool}(I:Inv X ai σ H s)(q:Q (.bl k) H)(e:k=k'):EP X ai σ Q (.bool k') s:=by
 subst e
 exact⟨.bl k,H,I,rfl,q⟩
theorem zdk:OpR X (compareOp .Eq) rEq:=by
 intro ai s σ H x y v u Q I rx ry h
 obtain⟨hs,q⟩:=h
 cases x with
 | non=>
   cases rx
   cases y with
   | non=>cases ry;exact PySem.EqNone.eq_none_none (zaX I q (by simp))
   | bl j=>cases ry;exact PySem.EqNone.eq_none_bool (zaX I q (by simp))
   | int j=>obtain⟨t',rfl⟩:=ry;exact PySem.EqNone.eq_none_int (zaX I q (by simp))
   | str j=>obtain⟨t',rfl⟩:=ry;exact PySem.EqNone.eq_none_str (zaX I q (by simp))
   | _=>exact absurd (show false=true from hs) tE
 | bl i=>
   cases rx
   cases y with
   | non=>cases ry;exact PySem.EqNone.eq_bool_none (zaX I q (by simp))
   | bl j=>cases ry;exact eq_bool (zaX I q zqt)
   | str j=>obtain⟨t',rfl⟩:=ry;exact PySem.EqMixed.eq_bool_str (zaX I q (by simp))
   | _=>exact absurd (show false=true from hs) tE
 | int i=>
   obtain⟨t,rfl⟩:=rx
   cases y with
   | non=>cases ry;exact PySem.EqNone.eq_int_none (zaX I q (by simp))
   | int j=>obtain⟨t',rfl⟩:=ry;exact eq_int (zaX I q znn)
   | str j=>obtain⟨t',rfl⟩:=ry;exact PySem.EqMixed.eq_int_str (zaX I q (by simp))
   | _=>exact absurd (show false=true from hs) tE
 | str i=>
   obtain⟨t,rfl⟩:=rx
   cases y with
   | non=>cases ry;exact PySem.EqNone.eq_str_none (zaX I q (by simp))
   | bl j=>cases ry;exact PySem.EqMixed.eq_str_bool (zaX I q (by simp))
   | int j=>obtain⟨t',rfl⟩:=ry;exact PySem.EqMixed.eq_str_int (zaX I q (by simp))
   | str j=>obtain⟨t',rfl⟩:=ry;exact eq_str (zaX I q zno)
   | _=>exact absurd (show false=true from hs) tE
 | byt i=>
   obtain⟨t,rfl⟩:=rx
   cases y with
   | byt j=>obtain⟨t',rfl⟩:=ry;exact W.eq_bytes (zaX I q znp)
   | _=>exact absurd (show false=true from hs) tE
 | _=>cases y<;>exact absurd (show false=true from hs) tE
theorem znq:OpR X (compareOp .NotEq) rNe:=by
 intro ai s σ H x y v u Q I rx ry h
 obtain⟨hs,q⟩:=h
 cases x with
 | non=>
   cases rx
   cases y with
   | non=>cases ry;exact PySem.EqNone.ne_none_none (zaX I q (by simp))
   | bl j=>cases ry;exact PySem.EqNone.ne_none_bool (zaX I q (by simp))
   | int j=>obtain⟨t',rfl⟩:=ry;exact PySem.EqNone.ne_none_int (zaX I q (by simp))
   | str j=>obtain⟨t',rfl⟩:=ry;exact PySem.EqNone.ne_none_str (zaX I q (by simp))
   | _=>exact absurd (show false=true from hs) tE
 | bl i=>
   cases rx
   cases y with
   | non=>cases ry;exact PySem.EqNone.ne_bool_none (zaX I q (by simp))
   | bl j=>cases ry;exact ne_bool (zaX I q (tS not zqt))
   | str j=>obtain⟨t',rfl⟩:=ry;exact PySem.EqMixed.ne_bool_str (zaX I q (by simp))
   | _=>exact absurd (show false=true from hs) tE
 | int i=>
   obtain⟨t,rfl⟩:=rx
   cases y with
   | non=>cases ry;exact PySem.EqNone.ne_int_none (zaX I q (by simp))
   | int j=>obtain⟨t',rfl⟩:=ry;exact ne_int (zaX I q (tS not znn))
   | str j=>obtain⟨t',rfl⟩:=ry;exact PySem.EqMixed.ne_int_str (zaX I q (by simp))
   | _=>exact absurd (show false=true from hs) tE
 | str i=>
   obtain⟨t,rfl⟩:=rx
   cases y with
   | non=>cases ry;exact PySem.EqNone.ne_str_none (zaX I q (by simp))
   | bl j=>cases ry;exact PySem.EqMixed.ne_str_bool (zaX I q (by simp))
   | int j=>obtain⟨t',rfl⟩:=ry;exact PySem.EqMixed.ne_str_int (zaX I q (by simp))
   | str j=>obtain⟨t',rfl⟩:=ry;exact ne_str (zaX I q (tS not zno))
   | _=>exact absurd (show false=true from hs) tE
 | byt i=>
   obtain⟨t,rfl⟩:=rx
   cases y with
   | byt j=>obtain⟨t',rfl⟩:=ry;exact W.ne_bytes (zaX I q (tS not znp))
   | _=>exact absurd (show false=true from hs) tE
 | _=>cases y<;>exact absurd (show false=true from hs) tE
def zrq:OpR X (compareOp .Lt) (rI0 λi j=>.bl (decide (i<j))):=opB0 λ_ _ _ _ _ _ _ q=>lt_int q
def zjO:OpR X (compareOp .LtE) (rI0 λi j=>.bl (decide (i<=j))):=opB0 λ_ _ _ _ _ _ _ q=>le_int q
def zes:OpR X (compareOp .Gt) (rI0 λi j=>.bl (decide (j<i))):=opB0 λ_ _ _ _ _ _ _ q=>gt_int q
def zsz:OpR X (compareOp .GtE) (rI0 λi j=>.bl (decide (j<=i))):=opB0 λ_ _ _ _ _ _ _ q=>ge_int q
theorem zqu:OpR X (compareOp .Is) (λx y H Q=>y=.non/\Q (.bl (decide (x=.non))) H):=by
 intro ai s σ H x y v u Q I rx ry h
 obtain⟨rfl,q⟩:=h
 cases ry
 refine is_none_gen (zaX I q ?_)
 cases x<;>first
  | (cases rx;rfl)
  | (obtain⟨t,rfl⟩:=rx;rfl)
theorem znr:OpR X (compareOp .IsNot) (λx y H Q=>y=.non/\Q (.bl (!decide (x=.non))) H):=by
 intro ai s σ H x y v u Q I rx ry h
 obtain⟨rfl,q⟩:=h
 cases ry
 refine isnot_none_gen (zaX I q ?_)
 cases x<;>first
  | (cases rx;rfl)
  | (obtain⟨t,rfl⟩:=rx;rfl)
def zaB(b:Expr){op:CmpOp}(h:op ≠ .In:=by decide)(h2:op ≠ .NotIn:=by decide):behindInMarks op b=false:=by
 have e1:(op==CmpOp.In)=false:=by cases op<;>first | rfl | exact absurd rfl h
 have e2:(op==CmpOp.NotIn)=false:=by cases op<;>first | rfl | exact absurd rfl h2
 cases b<;>simp[behindInMarks,e1,e2]
def zcv{op:CmpOp}{r:R2}(ho:OpR X (compareOp op) r)(ha:PE X a ta)(hb:PE X b tb)(hm:behindInMarks op b=false):PE X (.Compare a [op] [b] pos) (tOp r ta tb):=by
 with_unfolding_all
  intro ai s σ H Q I h
  exact wpAny_Compare1 (binT ha hb I h λv u s2 x y H2 I2 rx ry q=>ho ai s2 σ H2 x y v u Q I2 rx ry q) hm
def zsA(t:TE):TT:=λσ H Q=>t σ H (EBl Q)
def zas{op:CmpOp}{r:R2}(ho:OpR X (compareOp op) r)(ha:PE X a ta)(hb:PE X b tb)(hm:behindInMarks op b=false):PT X (.Compare a [op] [b] pos) (zsA (tOp r ta tb)):=by
 with_unfolding_all
  intro ai s σ H Q I h
  refine wpAny_isTrue_Compare1 (thn (ha ai s σ H _ I h) λv s1 ⟨x,H1,I1,r1,q1⟩=>thn (hb ai s1 σ H1 _ I1 q1) λu s2 ⟨y,H2,I2,r2,q2⟩=>
   thn (ho ai s2 σ H2 x y v u _ I2 r1 r2 q2) λc s3 ⟨z,H3,I3,r3,k,e,q3⟩=>?_) hm
  subst e
  cases r3
  exact sI ⟨H3,I3,q3⟩
def zqv(r r':R2)(ta tb tc:TE):TE:=λσ H Q=>ta σ H λx H1=>tb σ H1 λy H2=>r x y H2 λz H3=>∃k,z=.bl k/\
 (if k=true then tc σ H3 λw' H4=>r' y w' H4 Q else Q (.bl false) H3)
theorem bA{op op':CmpOp}{r r':R2}(ho:OpR X (compareOp op) r)(ho':OpR X (compareOp op') r')(ha:PE X a ta)(hb:PE X b tb)(hc:PE X c tc)
  (hm:lastMarks [op,op'] [b,c]=false:=by with_unfolding_all rfl):PE X (.Compare a [op,op'] [b,c] pos) (zqv r r' ta tb tc):=by
 with_unfolding_all
  intro ai s σ H Q I h
  refine Compare_chain (thn (ha ai s σ H _ I h) λv s1 ⟨x,H1,I1,r1,q1⟩=>chain_link (thn (hb ai s1 σ H1 _ I1 q1) λu s2 ⟨y,H2,I2,r2,q2⟩=>
   thn (ho ai s2 σ H2 x y v u _ I2 r1 r2 q2) λd s3 ⟨z,H3,I3,r3,k,e,q3⟩=>?_)) hm
  subst e
  cases r3
  refine sI ?_
  cases k with
  | false=>exact ite_ff ⟨.bl false,H3,I3,rfl,q3⟩
  | true=>exact ite_tt (chain_last (thn (hc ai s3 σ H3 _ I3 q3) λw' s4 ⟨z',H4,I4,r4,q4⟩=>ho' ai s4 σ H4 y z' u w' Q I4 r2 r4 q4))
theorem zpw{op op':CmpOp}{r r':R2}(ho:OpR X (compareOp op) r)(ho':OpR X (compareOp op') r')(ha:PE X a ta)(hb:PE X b tb)(hc:PE X c tc)
  (hm:lastMarks [op,op'] [b,c]=false:=by with_unfolding_all rfl):PT X (.Compare a [op,op'] [b,c] pos) (zsA (zqv r r' ta tb tc)):=by
 with_unfolding_all
  intro ai s σ H Q I h
  refine isTrue_chain (thn (ha ai s σ H _ I h) λv s1 ⟨x,H1,I1,r1,q1⟩=>test_link (thn (hb ai s1 σ H1 _ I1 q1) λu s2 ⟨y,H2,I2,r2,q2⟩=>
   thn (ho ai s2 σ H2 x y v u _ I2 r1 r2 q2) λd s3 ⟨z,H3,I3,r3,k,e,q3⟩=>?_)) hm
  subst e
  cases r3
  refine sI ?_
  cases k with
  | false=>
    obtain⟨k',e',q'⟩:=q3
    cases e'
    exact ite_ff ⟨H3,I3,q'⟩
  | true=>
    refine ite_tt (test_last (thn (hc ai s3 σ H3 _ I3 q3) λw' s4 ⟨z',H4,I4,r4,q4⟩=>thn (ho' ai s4 σ H4 y z' u w' _ I4 r2 r4 q4) λd' s5 ⟨z2,H5,I5,r5,k2,e2,q5⟩=>?_))
    subst e2
    cases r5
    exact sI ⟨H5,I5,q5⟩
def ziF:(sizeLine:Nat)<2 ^ 63:=by rw[sizeLine_eq];decide
def zfD:OpR X (binaryOp .Add) (λx y H Q=>∃i j,x=.str i/\y=.str j/\i.length+j.length<=sizeLine/\Q (.str (i++j)) H):=by
 intro ai s σ H x y v u Q I rx ry h
 obtain⟨i,j,rfl,rfl,hz,q⟩:=h
 obtain⟨t,rfl⟩:=rx
 obtain⟨t',rfl⟩:=ry
 exact add_str (λt' tk=>⟨.str (i++j),H,I.tok _,⟨_,rfl⟩,q⟩) hz
theorem zdR{x:V}{us:ah}(r:Vals [x] us):∃u,us=[u]/\RelV x u:=by
 cases r with
 | cons r1 r2=>cases r2;exact⟨_,rfl,r1⟩
theorem zrr{x y:V}{us:ah}(r:Vals [x,y] us):∃u w',us=[u,w']/\RelV x u/\RelV y w':=by
 cases r with
 | cons r1 r2=>
   cases r2 with
   | cons r3 r4=>cases r4;exact⟨_,_,rfl,r1,r3⟩
def zpx:zda X (.builtin "abs") (λxs H Q=>∃i,xs=[.int i]/\Q (.int (if i<0 then -i else i)) H):=by
 intro ai s σ H xs us Q I r h
 obtain⟨i,rfl,q⟩:=h
 obtain⟨u,rfl,t,rfl⟩:=zdR r
 exact call_abs_int λu tk=>⟨.int (if i<0 then -i else i),H,I.tok _,⟨_,rfl⟩,q⟩
def zhh:zda X (.type "int") (λxs H Q=>(∃i,xs=[.int i]/\Q (.int i) H)\/∃k,xs=[.bl k]/\Q (.int (if k then 1 else 0)) H):=by
 intro ai s σ H xs us Q I r h
 rcases h with⟨i,rfl,q⟩ | ⟨k,rfl,q⟩
 ·obtain⟨u,rfl,t,rfl⟩:=zdR r
  exact call_int_int ⟨.int i,H,I,⟨_,rfl⟩,q⟩
 ·obtain⟨u,rfl,r1⟩:=zdR r
  cases r1
  exact call_int_bool ⟨.int (if k then 1 else 0),H,I.tok _,⟨_,rfl⟩,q⟩
end
structure ObjM(h:Heap)(x dx C:Addr)(mA:af):Prop where
 obj:h.get? x=some (W.instObj C dx)
 ns:h.Ns1 dx mA
 ne:dx≠x
def zns{h:Heap}{dx:Addr}{mA:af}(n:h.Ns1 dx mA):∃od,h.get? dx=some od/\∀name,W.lookIn name od=some (mA name):=by
 obtain⟨o,es,ep,ho,hd,hk,_,hm⟩:=n
 refine⟨o,ho,λname=>?_⟩
 have e:=hm name
 unfold nsFind findBy at e
 rw[<-Array.find?_toList]at e
 unfold W.lookIn
 rw[hd]
 dsimp only
 split
 ·rename_i y q
  rw[q]at e
  exact tS some e
 ·rename_i q
  rw[q]at e
  have a:es.toList.any (·.refKey)=false:=by
   rw[List.any_eq_false]
   intro y hy
   obtain⟨z,t,hkey⟩:=hk y (Array.mem_toList_iff.mp hy)
   simp[DictEntry.refKey,hkey]
  have a':¬es.toList.any (·.refKey)=true:=by rw[a];exact tE
  rw[if_neg a']
  exact tS some e
def ObjM.look{h:Heap}{x dx C:Addr}{mA:af}(I:ObjM h x dx C mA):∃od,W.InstAt h x (W.instObj C dx) C (some od)/\∀name,W.lookIn name od=some (mA name):=
 let ⟨od,ho,hl⟩:=zns I.ns
 ⟨od,⟨I.obj,rfl,rfl,ho⟩,hl⟩
section
variable{prog:Program}{w:World}{A:Around}{E:ac}{s:Shared}{K:am}{x dx C f:Addr}{mA:af}{name:Str}{v:Value}
def zrs{expr:Bool}{Q:ac}(X:K.In s.heap)(I:ObjM s.heap x dx C mA)(hg:W.plainGet K C name=true)(hh:W.hasDictIn K C=true)
    (ha:W.findIn K (.ref C) name=some none) (hv:mA name=some v) (hv':W.handedIn v=true) (h:Q v { s with toks:=s.toks+1 }):
    wpAny (model prog w) A (getAttr (.ref x) name expr) Q E s:=by
 obtain⟨od,J,hl⟩:=I.look
 exact W.get_value X J (W.plainGet_of hg).1 (W.findObj_own hh ha rfl (by rw[hl,hv])) hv' h
def zpy{pl:Sem Bool}{Q:Value × List Value->Shared->Prop}(X:K.In s.heap)(I:ObjM s.heap x dx C mA)(hg:W.plainGet K C name=true)
    (hf:W.findIn K (.ref C) name=some (some (.ref f))) (ht:W.isFn K (.ref f)=true) (hv:mA name=none) (h:Q (.ref f,[.ref x]) s):
    wpAny (model prog w) A (getMethod (.ref x) name pl) Q E s:=by
 obtain⟨od,J,hl⟩:=I.look
 exact W.method_fn X J (W.plainGet_of hg).1 (W.plainGet_of hg).2 hf (beq_iff_eq.mp ht) (by show(W.lookIn name od).map (·.isSome)=some false;rw[hl,hv];rfl) h
def zrt{ns:List Str}{Q:aq}(X:K.In s.heap)(I:ObjM s.heap x dx C mA)
    (hs:W.findIn K (.ref C) "__setattr__" = some (some (.builtin "object.__setattr__"))) (hp:W.plainOver K C=true) (ht:W.takerIn K C name=some none) (hh:W.hasDictIn K C=true)
    (hw:PySem.Within mA ns) (hsz:ns.length<=sizeLine)
    (h:∀h',ObjM h' x dx C (λy=>if y=name then some v else mA y)->Heap.SameBut dx s.heap h'->Q () { s with heap:=h',toks:=s.toks+2 }):
    wpAny (model prog w) A (setAttr (.ref x) name v) Q E s:=by
 obtain⟨od,J,hl⟩:=I.look
 refine W.set_plain X J hs (W.osa_open (s := { s with toks:=s.toks+1 }) (r:=none) X J hp ht λb=>?_)
 obtain⟨cd,hc,hd'⟩:=W.any_some hh
 have hx:s.heap.get? x=some ⟨.ref C,some dx,.plain,#[]⟩:=I.obj
 refine tw (tI (tw (tw (wpAny_loadPart hx (tw (W.Looks.here (s := { s with toks:=s.toks+1 }) (W.looks_clsIn X hc) ?_))))))
 rw[hd']
 refine tI (a:=some dx) (tw (tI (tw ?_)))
 refine wpAny_nsSet1 (s := { s with toks:=s.toks+1 }) I.ns λh' hn2 hs2=>?_
 obtain⟨oD,esD,epD,hoD,hdD,hcD⟩:=hn2.count (PySem.Within.cons name v hw)
 refine tw (wpAny_lookBehind hoD (by rw[hdD];exact pastItsLine_dict (tM hcD (by rw[length_cons];omega))) ?_)
 exact tI (h _ ⟨(hs2.2 _ (Ne.symm I.ne)).trans I.obj,hn2,I.ne⟩ hs2)
def zlH{R:Result->Shared->Prop}{vs:ah}{kw:List (Str × Value)}(X:K.In s.heap)(hm:W.makesIn K C=true)
    (hi:W.findIn K (.ref C) "__init__" = some (some (.ref f))) (hf:W.typeIn K (.ref f)=some (.type "function"))
    (h:codeAny (model prog w) (A.under (.builtin "type.__call__" ⟨.ref C::vs,kw⟩)) (.call (.ref f) ⟨.ref (s.heap.objs.size+1)::vs,kw⟩) (W.InitBack (s.heap.objs.size+1) R)
      { s with heap:=(s.heap.push W.emptyDict).push (W.instObj C s.heap.objs.size) }):
    codeAny (model prog w) A (.call (.ref C) ⟨vs,kw⟩) R s:=by
 obtain⟨hh,g,d,t,os⟩:=s
 exact W.make_core (W.makes_of X hm) (W.looks_findIn X hi) (λself=>W.bind_fn X self hf) (.inl rfl) h
end
def putF(f:Str)(v:V):List (Str × V)->List (Str × V)
 | []=>[(f,v)]
 | (g,x)::r=>if g=f then(g,v)::r else(g,x)::putF f v r
theorem zhi(f g:Str)(v:V):∀fs:List (Str × V),(putF f v fs).lookup g=if g=f then some v else fs.lookup g
 | []=>by
   show List.lookup g [(f,v)]=_
   by_cases h:g=f
   ·have hb:(g==f)=true:=beq_iff_eq.mpr h
    simp only[List.lookup,hb,if_pos h]
   ·have hb:(g==f)=false:=beq_eq_false_iff_ne.mpr h
    simp only[List.lookup,hb,if_neg h]
 | (k,x)::r=>by
   have ih:=zhi f g v r
   rw[show putF f v ((k,x)::r)=(if k=f then(k,v)::r else(k,x)::putF f v r)from rfl]
   by_cases hk:k=f
   ·rw[if_pos hk]
    by_cases h:g=k
    ·have hb:(g==k)=true:=beq_iff_eq.mpr h
     simp only[List.lookup,hb,if_pos (h.trans hk)]
    ·have hb:(g==k)=false:=beq_eq_false_iff_ne.mpr h
     simp only[List.lookup,hb,if_neg (λe:g=f=>h (e.trans hk.symm))]
   ·rw[if_neg hk]
    by_cases h:g=k
    ·have hb:(g==k)=true:=beq_iff_eq.mpr h
     simp only[List.lookup,hb,if_neg (λe:g=f=>hk (h.symm.trans e))]
    ·have hb:(g==k)=false:=beq_eq_false_iff_ne.mpr h
     simp only[List.lookup,hb]
     exact ih
theorem zhj(f:Str)(v:V):∀fs:List (Str × V),f∈(putF f v fs).map (·.1)/\∀g,g∈fs.map (·.1)->g∈(putF f v fs).map (·.1)
 | []=>⟨by simp[putF],λg h=>by simp at h⟩
 | (k,x)::r=>by
   obtain⟨i1,i2⟩:=zhj f v r
   rw[show putF f v ((k,x)::r)=(if k=f then(k,v)::r else(k,x)::putF f v r)from rfl]
   by_cases hk:k=f
   ·rw[if_pos hk]
    subst hk
    exact⟨by simp,λg h=>by simpa using h⟩
   ·rw[if_neg hk]
    refine⟨?_,λg h=>?_⟩
    ·rw[sf]
     exact tO _ i1
    ·rw[sf]at h ⊢
     rcases mem_cons.mp h with e | e
     ·exact mem_cons.mpr (.inl e)
     ·exact tO _ (i2 g e)
theorem zhk(f:Str)(v:V):∀fs:List (Str × V),(putF f v fs).length<=fs.length+1
 | []=>by simp[putF]
 | (k,x)::r=>by
   have ih:=zhk f v r
   rw[show putF f v ((k,x)::r)=(if k=f then(k,v)::r else(k,x)::putF f v r)from rfl]
   by_cases hk:k=f
   ·rw[if_pos hk,length_cons,length_cons];omega
   ·rw[if_neg hk,length_cons,length_cons];omega
theorem RelO.some_of{v:V}{o:Option Value}(r:RelO (some v) o):∃u,o=some u/\RelV v u:=by
 cases o with
 | none=>exact(show False from r).elim
 | some u=>exact⟨u,rfl,r⟩
theorem RelO.none_of{o:Option Value}(r:RelO none o):o=none:=by
 cases o with
 | none=>rfl
 | some u=>exact(show False from r).elim
theorem znt{v:V}{u:Value}(r:RelV v u):W.handedIn u=true:=by
 cases v with
 | non=>cases(show u=Value.none from r);rfl
 | bl b=>cases(show u=Value.bool b from r);rfl
 | int i=>obtain⟨t,e⟩:=(show ∃t,u=Value.int i t from r);cases e;rfl
 | str x=>obtain⟨t,e⟩:=(show ∃t,u=Value.str x t from r);cases e;rfl
 | byt b=>obtain⟨t,e⟩:=(show ∃t,u=Value.bytes b t from r);cases e;rfl
 | flt b=>obtain⟨t,e⟩:=(show ∃t,u=Value.float b t from r);cases e;rfl
 | ref a=>cases(show u=Value.ref a from r);rfl
 | ty n=>cases(show u=Value.type n from r);rfl
section
variable{P:Program}{w:World}{H H':Hp}{h h':Heap}{a C dx:Addr}{fs fs':List (Str × V)}
def aX(hok:HOk P w H h)(e:H a=some (.ins C dx fs)):∃mA,ObjM h a dx C mA/\(∀f,RelO (fs.lookup f) (mA f))/\PySem.Within mA (fs.map (·.1))/\fs.length<=1000/\H dx=some (.own a):=by
 obtain⟨d,z,ne,ob,mA,n,r,q⟩:=(show zbw P w H h a (.ins C dx fs)from hok a _ e)
 exact⟨mA,⟨ob,n,ne⟩,r,q,z,d⟩
end
structure Cls(K:am)(C:Addr):Prop where
 pg:W.plainGet K C Str.empty=true
 hd:W.hasDictIn K C=true
 po:W.plainOver K C=true
 sa:W.findIn K (.ref C) "__setattr__" = some (some (.builtin "object.__setattr__"))
def Cls.get{K:am}{C:Addr}(c:Cls K C)(f:Str):W.plainGet K C f=true:=c.pg
def zak(K:am)(C:Addr)(f:Str):Prop:=W.findIn K (.ref C) f=some none
def zak.taker{K:am}{C:Addr}{f:Str}(n:zak K C f):W.takerIn K C f=some none:=by
 unfold W.takerIn
 rw[show W.findIn K (.ref C) f=some none from n]
 rfl
structure Con(K:am)(C:Addr)(f:Str)(v:V)(u:Value):Prop where
 at_:W.findIn K (.ref C) f=some (some u)
 rel:RelV v u
 get:W.specialIn K u "__get__" = some none
 cp:W.copiedNames.contains f=false
structure Meth(K:am)(C:Addr)(m:Str)(f:Addr):Prop where
 at_:W.findIn K (.ref C) m=some (some (.ref f))
 fn:W.isFn K (.ref f)=true
 kp:W.keepIn K (.ref f)=true
section
variable{X:Cx}{ai:ae}{σ:St}{H:Hp}{s:Shared}{a C dx:Addr}{fs:List (Str × V)}{f:Str}{v:V}{A:Around}{E:ac}
def ziG{b:Bool}{Q:ac}(I:Inv X ai σ H s)(e:H a=some (.ins C dx fs))(c:Cls X.K C)(n:zak X.K C f)(l:fs.lookup f=some v)
    (h:∀u s',Inv X ai σ H s'->RelV v u->Q u s'):wpAny (model X.prog X.w) A (getAttr (.ref a) f b) Q E s:=by
 obtain⟨mA,O,r,_,_,_⟩:=aX I.hok e
 obtain⟨u,hu,ru⟩:=RelO.some_of (v:=v) (o:=mA f) (by rw[<-l];exact r f)
 exact zrs I.kIn O (c.get f) c.hd n hu (znt ru) (h u _ (I.tok _) ru)
def zfE{m:Str}{g:Addr}{pl:Sem Bool}{Q:Value × List Value->Shared->Prop}(I:Inv X ai σ H s)(e:H a=some (.ins C dx fs))(c:Cls X.K C)(k:Meth X.K C m g)(l:fs.lookup m=none)
    (h:Q (.ref g,[.ref a]) s):wpAny (model X.prog X.w) A (getMethod (.ref a) m pl) Q E s:=by
 obtain⟨mA,O,r,_,_,_⟩:=aX I.hok e
 have hn:mA m=none:=RelO.none_of (by rw[<-l];exact r m)
 exact zpy I.kIn O (c.get m) k.at_ k.fn hn h
def ziH{y:V}{u:Value}{Q:aq}(I:Inv X ai σ H s)(e:H a=some (.ins C dx fs))(c:Cls X.K C)(n:zak X.K C f)(hl:fs.length<1000)(ry:RelV y u)
    (h:∀s',Inv X ai σ (upd H a (.ins C dx (putF f y fs))) s'->Q () s'):wpAny (model X.prog X.w) A (setAttr (.ref a) f u) Q E s:=by
 obtain⟨mA,O,r,wi,_,ho⟩:=aX I.hok e
 have hz:(fs.map (·.1)).length<=sizeLine:=by rw[tq,sizeLine_eq];omega
 refine zrt I.kIn O c.sa c.po n.taker c.hd wi hz λh' O' sb=>h _ ?_
 have hd:∃o,h'.get? dx=some o:=let ⟨o,_,_,e',_⟩:=O'.ns;⟨o,e'⟩
 refine I.write (x:=a) (e:=dx) (by rw[e];exact True.intro) (.inr ho) (λb q hb z=>(sb.2 b hb).trans z) hd ?_
 refine⟨by rw[zau O.ne];exact ho,?_,O.ne,O'.obj,_,O'.ns,λg=>?_,λg hg=>?_⟩
 ·have:=zhk f y fs;omega
 ·show RelO ((putF f y fs).lookup g) (if g=f then some u else mA g)
  rw[zhi]
  by_cases q:g=f
  ·rw[if_pos q,if_pos q];exact ry
  ·rw[if_neg q,if_neg q];exact r g
 ·by_cases q:g=f
  ·rw[q];exact(zhj f y fs).1
  ·refine(zhj f y fs).2 g (wi g λz=>hg ?_)
   show(if g=f then some u else mA g)=none
   rw[if_neg q];exact z
def Inv.made(I:Inv X ai σ H s):Inv X ai σ (upd (upd H s.heap.objs.size (.own (s.heap.objs.size+1))) (s.heap.objs.size+1) (.ins C s.heap.objs.size []))
    { s with heap:=(s.heap.push W.emptyDict).push (W.instObj C s.heap.objs.size) }:=by
 have e1:(s.heap.push W.emptyDict).get? s.heap.objs.size=some W.emptyDict:=tH s.heap rfl
 have e2:((s.heap.push W.emptyDict).push (W.instObj C s.heap.objs.size)).get? (s.heap.objs.size+1)=some (W.instObj C s.heap.objs.size):=by
  have:=tH (s.heap.push W.emptyDict) (o:=W.instObj C s.heap.objs.size) rfl
  rwa [qy]at this
 have e3:(s.heap.push W.emptyDict).Ns s.heap.objs.size (λ_=>none):=⟨W.emptyDict,#[],_,e1,rfl,(λe he=>absurd he (by simp)),λ_=>rfl⟩
 have I1:=I.laid (a:=s.heap.objs.size) (o:=.own (s.heap.objs.size+1)) (h':=s.heap.push W.emptyDict) (t':=s.toks) (λb u q=>tu _ q) (tD _) ⟨_,e1⟩
 refine I1.laid (a:=s.heap.objs.size+1) (o:=.ins C s.heap.objs.size []) (t':=s.toks) (λb u q=>tu _ q) (pG (qy _ _)) ?_
 have ne:s.heap.objs.size≠s.heap.objs.size+1:=tJ (ss _)
 refine⟨by rw[zau ne,zan],tU _,ne,e2,λ_=>none,(Heap.Ns1.of_empty e3).at λo q=>tu _ q,λ_=>True.intro,λy hy=>absurd rfl hy⟩
def zru{prog:Program}{w:World}{env:Env}{e:Expr}{f:Str}{pos:Pos}{s:Shared}{Q:ac}(hb:attributeBase e f env (eval e env)=eval e env)
    (h:wpAny (model prog w) A (eval e env) (λo s₁=>wpAny (model prog w) A (getAttr o f true) Q E s₁) E s):wpAny (model prog w) A (eval (.Attribute e f pos) env) Q E s:=
 Attribute_any_ h (by rw[arm_eval_Attribute,hb])
end
inductive EFld(K:am)(f:Str)(Q:VK)(x:V)(H:Hp):Prop
 | mk (a C dx:Addr) (fs:List (Str × V)) (v:V) (hx:x=.ref a) (h:H a=some (.ins C dx fs)) (c:Cls K C) (n:zak K C f) (l:fs.lookup f=some v) (q:Q v H):EFld K f Q x H
def tFld(K:am)(ta:TE)(f:Str):TE:=λσ H Q=>ta σ H (EFld K f Q)
def InOp(X:Cx)(op:Operator)(rd:V->V->Hp->VK->Prop):Prop:=
 ∀(ai:ae)(s:Shared)(σ:St)(H:Hp)(x y:V)(u v:Value)(Q:VK),Inv X ai σ H s->RelV x u->RelV y v->rd x y H Q->wpAny (model X.prog X.w) X.A (inplaceOp op u v) (EP X ai σ Q) X.xe s
def zrv(K:am)(ta tv:TE)(rd:V->V->Hp->VK->Prop)(f:Str):TS:=λD σ H=>ta σ H λx H1=>∃a C dx fs v,x=.ref a/\H1 a=some (.ins C dx fs)/\Cls K C/\zak K C f/\fs.lookup f=some v/\
 tv σ H1 λy H2=>rd v y H2 λz H3=>∃dx' fs',H3 a=some (.ins C dx' fs')/\fs'.length<1000/\D.nx σ (upd H3 a (.ins C dx' (putF f z fs')))
section
variable{X:Cx}{o e value:Expr}{f:Str}{pos pos' tpos:Pos}{ta tv:TE}
def zai(he:PE X e ta)(hb:attributeBase e f X.env (eval e X.env)=eval e X.env):PE X (.Attribute e f pos) (tFld X.K ta f):=by
 with_unfolding_all
  intro ai s σ H Q I h
  refine zru hb (thn (he ai s σ H _ I h) λu s1 ⟨x,H1,I1,rx,a,C,dx,fs,v,ex,ea,c,n,l,q⟩=>?_)
  subst ex
  obtain rfl:u=Value.ref a:=rx
  exact ziG I1 ea c n l λu' s2 I2 ru=>⟨v,H1,I2,ru,q⟩
def znu{op:Operator}{rd:V->V->Hp->VK->Prop}(ha:PE X o ta)(hv:PE X value tv)(hop:InOp X op rd):PS X (.AugAssign (.Attribute o f tpos) op value pos) (zrv X.K ta tv rd f):=by
 with_unfolding_all
  intro ai s σ H D I h
  refine wpAny_AugAssign_AttributeAny (thn (ha ai s σ H _ I h) λov s1 ⟨x,H1,I1,rx,a,C,dx,fs,v,ex,ea,c,n,l,q⟩=>?_)
  subst ex
  obtain rfl:ov=Value.ref a:=rx
  refine ziG I1 ea c n l λu s2 I2 ru=>thn (hv ai s2 σ H1 _ I2 q) λw3 s3 ⟨y,H2,I3,ry,q3⟩=>thn (hop ai s3 σ H2 v y u w3 _ I3 ru ry q3) λw4 s4 ⟨z,H3,I4,rz,dx',fs',ea',l',q4⟩=>?_
  exact ziH I4 ea' c n l' rz λs5 I5=>⟨σ,_,I5,q4⟩
def rAdd:V->V->Hp->VK->Prop:=λx y H Q=>∃i j,x=.int i/\y=.int j/\Q (.int (i+j)) H
def zsB:InOp X .Add rAdd:=by
 rintro ai s σ H x y u v Q I rx ry ⟨i,j,rfl,rfl,q⟩
 obtain⟨t,rfl⟩:=(show ∃t,u=Value.int i t from rx)
 obtain⟨t',rfl⟩:=(show ∃t',v=Value.int j t' from ry)
 exact PyProof.Rows.iadd_int ⟨.int (i+j),H,I.tok _,⟨_,rfl⟩,q⟩
end
section
variable{X:Cx}{ai:ae}{σ:St}{H:Hp}{s:Shared}{A:Around}{E:ac}{Q:ac}{c:Value}{b:Bool}
inductive TyOf(K:am)(H:Hp):V->Value->Prop where
 | non:TyOf K H .non (.type "NoneType")
 | bl (x:Bool):TyOf K H (.bl x) (.type "bool")
 | int (i:Int):TyOf K H (.int i) (.type "int")
 | str (x:Str):TyOf K H (.str x) (.type "str")
 | flt (x:UInt64):TyOf K H (.flt x) (.type "float")
 | lst {a:Addr} {xs:List V} (e:H a=some (.lst xs)):TyOf K H (.ref a) (.type "list")
 | frz {a:Addr} {o:Obj} {xs:List V} (e:H a=some (.frz o (.lst xs))):TyOf K H (.ref a) (.type "list")
 | tup {a:Addr} {xs:List V} (e:H a=some (.tup xs)):TyOf K H (.ref a) (.type "tuple")
 | dK {a:Addr} {kvs:List (Key × V)} (e:H a=some (.dK kvs)):TyOf K H (.ref a) (.type "dict")
 | dT {a:Addr} {kvs:List (List Key × V)} (e:H a=some (.dT kvs)):TyOf K H (.ref a) (.type "dict")
 | ins {a C dx:Addr} {fs:List (Str × V)} (e:H a=some (.ins C dx fs)) (cl:Cls K C) (ha:W.findIn K (.ref C) "__class__" = some (some (.builtin "object.__class__")))
    (hn:W.specialIn K (.builtin "object.__class__") "__get__" = some (some (.builtin "getset_descriptor.__get__"))) (htk:W.takesIn K (.builtin "object.__class__")=some true)
    (hm:W.mroIn K C (.type "object")=some true):TyOf K H (.ref a) (.ref C)
theorem znv{x:V}{u t:Value}(I:Inv X ai σ H s)(rx:RelV x u)(ty:TyOf X.K H x t)(e:W.kitOne X.K t c=some b)(h:∀tk,Q (.bool b) { s with toks:=tk }):
  wpAny (model X.prog X.w) A (call (.builtin "isinstance") [u,c]) Q E s:=by
 cases ty with
 | non=>cases(show u=Value.none from rx);exact rJ W.kitx_none I.kIn True.intro e (λz=>nomatch z) h
 | bl y=>cases(show u=Value.bool y from rx);exact rJ W.kitx_bool I.kIn True.intro e (λz=>nomatch z) h
 | int i=>obtain⟨t,q⟩:=(show ∃t,u=Value.int i t from rx);cases q;exact rJ W.kitx_int I.kIn True.intro e (λz=>nomatch z) h
 | str y=>obtain⟨t,q⟩:=(show ∃t,u=Value.str y t from rx);cases q;exact rJ W.kitx_str I.kIn True.intro e (λz=>nomatch z) h
 | flt y=>obtain⟨t,q⟩:=(show ∃t,u=Value.float y t from rx);cases q;exact rJ W.kitx_float I.kIn True.intro e (λz=>nomatch z) h
 | @lst a xs ea=>
   cases(show u=Value.ref a from rx)
   obtain⟨_,_,n,_,h1⟩:=(show zbw X.prog X.w H s.heap a (.lst xs)from I.hok a _ ea)
   exact rJ W.kitx_list I.kIn ⟨_,h1,rfl⟩ e (λz=>nomatch z) h
 | @frz a ob xs ea=>
   cases(show u=Value.ref a from rx)
   obtain⟨_,_,_,n,_,h1⟩:=(show zbw X.prog X.w H s.heap a (.frz ob (.lst xs))from I.hok a _ ea)
   exact rJ W.kitx_list I.kIn ⟨_,h1,rfl⟩ e (λz=>nomatch z) h
 | @tup a xs ea=>
   cases(show u=Value.ref a from rx)
   obtain⟨_,_,_,p⟩:=(show zbw X.prog X.w H s.heap a (.tup xs)from I.hok a _ ea)
   obtain⟨o,h1,h2,_⟩:=p
   exact rJ W.kitx_tuple I.kIn ⟨o,h1,h2⟩ e (λz=>nomatch z) h
 | @dK a kvs ea=>
   cases(show u=Value.ref a from rx)
   obtain⟨_,_,vs,_,p⟩:=(show zbw X.prog X.w H s.heap a (.dK kvs)from I.hok a _ ea)
   obtain⟨o,es,ep,h1,h2,_⟩:=p
   exact rJ W.kitx_dict I.kIn ⟨o,h1,h2.1⟩ e (λz=>nomatch z) h
 | @dT a kvs ea=>
   cases(show u=Value.ref a from rx)
   obtain⟨_,_,xs,_,o,es,ep,h1,h2,_⟩:=(show zbw X.prog X.w H s.heap a (.dT kvs)from I.hok a _ ea)
   exact rJ W.kitx_dict I.kIn ⟨o,h1,h2.1⟩ e (λz=>nomatch z) h
 | @ins a C dx fs ea cl ha hn htk hm=>
   cases(show u=Value.ref a from rx)
   obtain⟨mA,O,_⟩:=aX I.hok ea
   obtain⟨od,J,_⟩:=O.look
   exact rJ (W.kitx_own (cl.get _) cl.hd ha hn htk hm) I.kIn J e (λz=>nomatch z) h
end
structure Room(k:Nat)(A:Around):Prop where
 hd:A.handled=none
 dp:A.depth+3*k+5<recursionLimit
 un:A.units+16*k+200<cLine
 gd:A.guards=some []
def Room.mono{j k:Nat}{A:Around}(r:Room k A)(h:j<=k):Room j A:=⟨r.hd,by have:=r.dp;omega,by have:=r.un;omega,r.gd⟩
def Room.deeper{k:Nat}{A:Around}(r:Room (k+1) A)(env:Env):Room k (A.deeper env):=
 ⟨r.hd,by have:=r.dp;show A.depth+1+3*k+5<_;omega,by have:=r.un;show A.units+3+16*k+200<_;omega,r.gd⟩
def Room.in1{k:Nat}{A:Around}(r:Room (k+1) A):Room k A.in1:=
 ⟨r.hd,by have:=r.dp;show A.depth+3*k+5<_;omega,by have:=r.un;show A.units+1+16*k+200<_;omega,r.gd⟩
def zmB{A:Around}{C:Addr}{us:ah}{kw:List (Str × Value)}:(A.under (.builtin "type.__call__" ⟨.ref C::us,kw⟩)).depth=A.depth+1:=by
 first | rfl | simp[Around.under,Code.weight,Code.isCreation,Code.isGuard,Code.isCaller,Code.frames,Code.isFrame,guardIds]
def zmC{A:Around}{C:Addr}{us:ah}{kw:List (Str × Value)}:(A.under (.builtin "type.__call__" ⟨.ref C::us,kw⟩)).units=A.units+1:=by
 first | rfl | simp[Around.under,Code.cUnits,Code.frames,Code.isFrame]
def zkR{A:Around}{C:Addr}{us:ah}{kw:List (Str × Value)}:(A.under (.builtin "type.__call__" ⟨.ref C::us,kw⟩)).guards=A.guards:=by
 first | rfl | simp[Around.under,Code.guards,Code.isGuard,guardIds,pushGuards]
def Room.make{k:Nat}{A:Around}(r:Room (k+1) A)(C:Addr)(us:ah)(kw:List (Str × Value)):Room k (A.under (.builtin "type.__call__" ⟨.ref C::us,kw⟩)):=
 ⟨r.hd,by have:=r.dp;rw[zmB];omega,by have:=r.un;rw[zmC];omega,by rw[zkR];exact r.gd⟩
def Room.depth{k:Nat}{A:Around}(r:Room k A):A.depth<recursionLimit:=by have:=r.dp;omega
def Room.units0{k:Nat}{A:Around}(r:Room k A):A.units<cLine:=by have:=r.un;omega
def tNil:TA:=λ_ H Q=>Q [] H
def zrw(ta:TE)(tr:TA):TA:=λσ H Q=>ta σ H λx H1=>tr σ H1 λxs H2=>Q (x::xs) H2
section
variable{X:Cx}{e:Expr}{es:List Expr}{te:TE}{t:TA}{pos:Pos}
theorem zaf:PA X [] tNil:=by
 with_unfolding_all
  exact λ_ _ _ _ H Q I h=>qt ⟨[],H,I,.nil,h⟩
def zaa(ha:PE X e te)(hr:PA X es t)(hs:starEach (e::es) X.env=(false,eval e X.env)::starEach es X.env:=by rfl):PA X (e::es) (zrw te t):=by
 with_unfolding_all
  intro pos ai s σ H Q I h
  rw[hs]
  show wpAny _ _ (spliced ((false,eval e X.env)::backTo pos (starEach es X.env))) _ _ s
  refine rG (thn (ha ai s σ H _ I h) λu s1 ⟨x,H1,I1,r1,q1⟩=>?_)
  exact thn (hr pos ai s1 σ H1 _ I1 q1) λus s2 ⟨xs,H2,I2,r2,q2⟩=>⟨x::xs,H2,I2,.cons r1 r2,q2⟩
end
abbrev Sp:=List V->Hp->VK->XK->Prop
abbrev CXT:=List Env->Hp->Shared->XK->Value->Shared->Prop
structure Env0(P:Program)(w:World)(K:am)(mg:af)(bf:Heap)(A:Around)(outer:List Env)(s:Shared)(H:Hp):Prop where
 frames:A.frames=some outer
 mod:Mod K mg bf
 bs:∀b o,bf.get? b=some o->s.heap.get? b=some o/\H b=none
 bsz:bf.objs.size<=s.heap.objs.size
 funs:s.heap.FunFrames bf outer
 frf:∀b∈frs outer,H b=none
 hok:HOk P w H s.heap
 bare:AllBare s.gens
def CE(outer:List Env)(P:Program)(w:World)(H:Hp)(s:Shared)(Q:VK)(u:Value)(s':Shared):Prop:=
 ∃v H',s'.os=s.os/\AllBare s'.gens/\Un (frs outer) [] H H' s.heap s'.heap/\HOk P w H' s'.heap/\RelV v u/\Q v H'
def CR(CX:CXT)(outer:List Env)(P:Program)(w:World)(H:Hp)(s:Shared)(Q:VK)(E:XK)(r:Result)(s':Shared):Prop:=
 match r with
 | .ok (.ret u)=>CE outer P w H s Q u s'
 | .ok _=>False
 | .error e=>CX outer H s E e s'
structure FnOk(P:Program)(w:World)(K:am)(mg:af)(bf:Heap)(CX:CXT)(k:Nat)(f:Addr)(fd:FuncData)(ps:List Str)(sp:Sp):Prop where
 len:∀vs H Q E,sp vs H Q E->vs.length=ps.length
 run:∀(A:Around)(outer:List Env)(s:Shared)(H:Hp)(args:Args)(us:ah)(vs:List V)(Q:VK)(E:XK),Room k A->Env0 P w K mg bf A outer s H->BindsTo s fd args (ps.zip us)->Vals vs us->sp vs H Q E->
  codeAny (model P w) A (.call (.ref f) args) (CR CX outer P w H s Q E) s
def FnOk.mono{P:Program}{w:World}{K:am}{mg:af}{bf:Heap}{CX:CXT}{j k:Nat}{f:Addr}{fd:FuncData}{ps:List Str}{sp:Sp}(F:FnOk P w K mg bf CX j f fd ps sp)(h:j<=k):
    FnOk P w K mg bf CX k f fd ps sp:=⟨F.len,λA outer s H args us vs Q E hr=>F.run A outer s H args us vs Q E (hr.mono h)⟩
def FnOk.imp{P:Program}{w:World}{K:am}{mg:af}{bf:Heap}{CX:CXT}{k:Nat}{f:Addr}{fd:FuncData}{ps:List Str}{sp sp':Sp}(F:FnOk P w K mg bf CX k f fd ps sp)
    (h:∀vs H Q E,sp' vs H Q E->sp vs H Q E):FnOk P w K mg bf CX k f fd ps sp':=
 ⟨λvs H Q E q=>F.len vs H Q E (h _ _ _ _ q),λA outer s H args us vs Q E hr he hb hv hs=>F.run A outer s H args us vs Q E hr he hb hv (h _ _ _ _ hs)⟩
def Env0.make{P:Program}{w:World}{K:am}{mg:af}{bf:Heap}{A:Around}{outer:List Env}{s:Shared}{H:Hp}(e:Env0 P w K mg bf A outer s H)(C:Addr)(us:ah)(kw:List (Str × Value)):
    Env0 P w K mg bf (A.under (.builtin "type.__call__" ⟨.ref C::us,kw⟩)) outer s H:=⟨by first | exact e.frames | (simpa[Around.under,Code.envs,Code.isFrame,pushEnvs]using e.frames),e.mod,e.bs,e.bsz,e.funs,e.frf,e.hok,e.bare⟩
section
variable{X:Cx}{ai:ae}{σ:St}{H:Hp}{s s':Shared}
def Inv.env0(I:Inv X ai σ H s):Env0 X.prog X.w X.K X.mg X.bf X.A X.stack s H:=
 ⟨I.ok.frames,I.ok.mod,I.bs,tM I.ok.bsz I.sz,I.stack,I.stkFree,I.hok,I.bare⟩
def Inv.after{Q:VK}{u:Value}(I:Inv X ai σ H s)(h:CE X.stack X.prog X.w H s Q u s'):EP X ai σ Q u s':=by
 obtain⟨v,H',os,bare,un,hok,r,q⟩:=h
 obtain⟨hh,g,d,t,os'⟩:=s'
 obtain rfl:os'=s.os:=os
 exact⟨v,H',I.call (h':=hh) (g':=g) (d':=d) (t':=t) (ch:=[]) un hok bare (λb z=>absurd z (by simp)),r,q⟩
end
def zrx(sp:Sp)(dvs:List V)(E:XK)(t:TA):TE:=λσ H Q=>t σ H λvs H1=>sp (vs++dvs) H1 Q E
def zbp(K:am)(fd:FuncData)(ps:List Str)(ds:ah):Prop:=
 ∀(s:Shared)(us:ah),K.In s.heap->(us++ds).length=ps.length->BindsTo s fd ⟨us,[]⟩ (ps.zip (us++ds))
def zbp.all{K:am}{fd:FuncData}{ps:List Str}(h:∀us:List Value,us.length=ps.length->bindArgs fd ⟨us,[]⟩=pure (ps.zip us)):zbp K fd ps []:=λs us _ hl=>by
 rw[sM]at hl ⊢
 exact .of_eq (h us hl)
def zdS(CX:CXT)(X:Cx)(E:XK):Prop:=∀(ai:ae)(σ:St)(H:Hp)(s:Shared)(e:Value)(s':Shared),Inv X ai σ H s->CX X.stack H s E e s'->X.xe e s'
section
variable{X:Cx}{CX:CXT}{k:Nat}{f C:Addr}{fd:FuncData}{ps:List Str}{sp:Sp}{dvs:List V}{ds:ah}{E:XK}{x m:Str}{p pos apos:Pos}{e o:Expr}{es:List Expr}{ta:TE}{t:TA}
theorem zlI{ai:ae}{σ:St}{H:Hp}{s:Shared}{Q:VK}{us:ah}{vs:List V}(F:FnOk X.prog X.w X.K X.mg X.bf CX k f fd ps sp)(hr:Room k X.A)(hb:zbp X.K fd ps ds)(hd:Vals dvs ds)(hx:zdS CX X E)
  (I:Inv X ai σ H s) (r:Vals vs us) (h:sp (vs++dvs) H Q E):wpAny (model X.prog X.w) X.A (call (.ref f) us) (EP X ai σ Q) X.xe s:=by
 have r2:Vals (vs++dvs) (us++ds):=r.append hd
 have hl:(us++ds).length=ps.length:=by rw[<-r2.length];exact F.len _ _ _ _ h
 refine qK (rj (F.run X.A X.stack s H ⟨us,[]⟩ (us++ds) (vs++dvs) Q E hr I.env0 (hb s us I.kIn hl) r2 h) λr s' hq=>?_)
 cases r with
 | error e=>exact hx ai σ H s e s' I hq
 | ok fl=>
   cases fl with
   | ret u=>exact I.after hq
   | next=>exact False.elim hq
   | brk=>exact False.elim hq
   | cont=>exact False.elim hq
def znw(F:FnOk X.prog X.w X.K X.mg X.bf CX k f fd ps sp)(hr:Room k X.A)(hg:Gl X x)(hm:X.mg x=some (.ref f))(hk:W.keepIn X.K (.ref f)=true)(hb:zbp X.K fd ps ds)(hd:Vals dvs ds)(hx:zdS CX X E)
    (ha:PA X (e::es) t) (hdb:(x==("__debug__" : Str))=false:=by decide) (he:starEach (e::es) X.env=(false,eval e X.env)::starEach es X.env:=by rfl) (hpl:(backTo pos (starEach es X.env)).any (·.1)=false:=by rfl):
    PE X (.Call (.Name x p) (e::es) [] pos) (zrx sp dvs E t):=by
 with_unfolding_all
  intro ai s σ H Q I h
  refine sO (zhd I hg hm ?_ hdb)
  refine qX (h₀:=X.bf) I.ok.mod.kin hk (thn (ha pos ai s σ H _ I h) λus s1 ⟨vs,H1,I1,r,q⟩=>⟨I1.kIn,?_⟩) he hpl
  exact zlI F hr hb hd hx I1 r q
structure Mk(K:am)(C f:Addr):Prop where
 makes:W.makesIn K C=true
 init:W.findIn K (.ref C) "__init__" = some (some (.ref f))
 fn:W.isFn K (.ref f)=true
 kp:W.keepIn K (.ref C)=true
theorem zlJ{ai:ae}{σ:St}{H:Hp}{s:Shared}{Q:VK}{us:ah}{vs:List V}(M:Mk X.K C f)(F:FnOk X.prog X.w X.K X.mg X.bf CX k f fd ps sp)(hr:Room (k+1) X.A)(hb:zbp X.K fd ps ds)(hd:Vals dvs ds)
  (hx:zdS CX X E) (I:Inv X ai σ H s) (r:Vals vs us)
  (h:∀x dx,H x=none->H dx=none->dx≠x->sp (.ref x::(vs++dvs)) (upd (upd H dx (.own x)) x (.ins C dx [])) (λv H2=>v=.non/\Q (.ref x) H2) E):
  wpAny (model X.prog X.w) X.A (call (.ref C) us) (EP X ai σ Q) X.xe s:=by
 have hq:=h (s.heap.objs.size+1) s.heap.objs.size (I.hok.fresh (sj _)) (I.hok.fresh (tD _)) (tJ (ss _))
 have I2:=Inv.made (C:=C) I
 have r2:Vals (V.ref (s.heap.objs.size+1)::(vs++dvs)) (Value.ref (s.heap.objs.size+1)::(us++ds)):=.cons rfl (r.append hd)
 have hl:(Value.ref (s.heap.objs.size+1)::us++ds).length=ps.length:=by
  have e:=r2.length
  rw[F.len _ _ _ _ hq]at e
  exact e.symm
 refine qK (zlH (f:=f) I.kIn M.makes M.init (beq_iff_eq.mp M.fn) (rj (F.run _ X.stack _ _ ⟨Value.ref (s.heap.objs.size+1)::us,[]⟩ (Value.ref (s.heap.objs.size+1)::(us++ds)) _ _ E (hr.make C us [])
  (I2.env0.make C us []) (hb _ (Value.ref (s.heap.objs.size+1)::us) I2.kIn hl) r2 hq) λr s' hq'=>?_))
 cases r with
 | error e=>exact hx ai σ _ _ e s' I2 hq'
 | ok fl=>
   cases fl with
   | ret u=>
     obtain⟨v,H',I3,rv,ev,q3⟩:=I2.after hq'
     subst ev
     exact⟨rv,⟨V.ref (s.heap.objs.size+1),H',I3,rfl,q3⟩⟩
   | next=>exact False.elim hq'
   | brk=>exact False.elim hq'
   | cont=>exact False.elim hq'
end
section
variable{X:Cx}{CX:CXT}{k:Nat}{f C:Addr}{fd:FuncData}{ps ks:List Str}{sp:Sp}{E:XK}{x m:Str}{p pos apos kpos:Pos}{e o:Expr}{es:List Expr}{kws:List Keyword}{te ta:TE}{t tk:TA}{nm:Option Str}
structure KBinds(K:am)(fd:FuncData)(ps ks:List Str)(g:List Value->List Value->List Value)(gV:List V->List V->List V):Prop where
 to:∀(s:Shared)(us ws:ah),K.In s.heap->(g us ws).length=ps.length->BindsTo s fd ⟨us,ks.zip ws⟩ (ps.zip (g us ws))
 rel:∀{vs:List V}{us:ah}{zs:List V}{ws:ah},Vals vs us->Vals zs ws->Vals (gV vs zs) (g us ws)
variable{g:List Value->List Value->List Value}{gV:List V->List V->List V}
end
structure FnScope(N P:List Str)(sc:Scope):Prop where
 kind:sc.kind=.function
 co:sc.isCoroutine=false
 gen:sc.isGenerator=false
 nd:N.Nodup
 pre:N.take P.length=P
 par:∀x∈P,sc.names.lookup x=some .local\/sc.names.lookup x=some .cell
 nofree:∀y∈sc.names,y.2≠.free
theorem zjP{kindOf:Str->Option NameKind}{x:Str}:∀{binds:List (Str × Value)}{m:af},(∀v,(x,v)∉binds)->bindL kindOf binds m x=m x
 | [],_,_=>rfl
 | (n,v)::r,m,h=>by
   unfold bindL
   rw[zjP λw hw=>h w (tO _ hw)]
   split
   ·have:x≠n:=by rintro rfl;exact h v tP
    simp[this]
   ·rfl
theorem zjQ{kindOf:Str->Option NameKind}{x:Str}:∀{binds:List (Str × Value)}{m:af},(∀v,(x,v)∉binds)->bindC kindOf binds m x=m x
 | [],_,_=>rfl
 | (n,v)::r,m,h=>by
   unfold bindC
   rw[zjQ λw hw=>h w (tO _ hw)]
   split
   ·rfl
   ·have:x≠n:=by rintro rfl;exact h v tP
    simp[this]
theorem zjR{kindOf:Str->Option NameKind}{x:Str}{v:Value}:∀{P:List Str}{vs:ah}{i:Nat}{m:af},P.Nodup->P[i]?=some x->vs[i]?=some v->kindOf x=some .local->
  bindL kindOf (P.zip vs) m x=some v
 | [],_,_,_,_,h,_,_=>by simp at h
 | _::_,[],_,_,_,_,h,_=>by simp at h
 | p::P,w::vs,0,m,nd,h1,h2,hk=>by
   simp at h1 h2;subst h1;subst h2
   show bindL kindOf ((p,w)::P.zip vs) m p=_
   unfold bindL
   rw[zjP λv hv=>(nodup_cons.mp nd).1 (List.of_mem_zip hv).1,if_pos hk]
   simp
 | p::P,w::vs,i+1,m,nd,h1,h2,hk=>by
   show bindL kindOf ((p,w)::P.zip vs) m x=_
   unfold bindL
   exact zjR (i:=i) (nodup_cons.mp nd).2 (by simpa using h1) (by simpa using h2) hk
theorem zjS{kindOf:Str->Option NameKind}{x:Str}{v:Value}:∀{P:List Str}{vs:ah}{i:Nat}{m:af},P.Nodup->P[i]?=some x->vs[i]?=some v->kindOf x≠some .local->
  bindC kindOf (P.zip vs) m x=some v
 | [],_,_,_,_,h,_,_=>by simp at h
 | _::_,[],_,_,_,_,h,_=>by simp at h
 | p::P,w::vs,0,m,nd,h1,h2,hk=>by
   simp at h1 h2;subst h1;subst h2
   show bindC kindOf ((p,w)::P.zip vs) m p=_
   unfold bindC
   rw[zjQ λv hv=>(nodup_cons.mp nd).1 (List.of_mem_zip hv).1,if_neg hk]
   simp
 | p::P,w::vs,i+1,m,nd,h1,h2,hk=>by
   show bindC kindOf ((p,w)::P.zip vs) m x=_
   unfold bindC
   exact zjS (i:=i) (nodup_cons.mp nd).2 (by simpa using h1) (by simpa using h2) hk
def zgP(N:List Str)(vs:List V):St:=vs.map some++List.replicate (N.length-vs.length) none
def cxOf(CX:CXT)(P:Program)(w:World)(K:am)(mg:af)(bf:Heap)(N:List Str)(qual:Str)(scope:Scope)(f:Addr)(cd:Value)(A:Around)(outer:List Env)(s:Shared)(H:Hp)(E:XK):Cx where
 prog:=P
 w:=w
 K:=K
 mg:=mg
 bf:=bf
 A:=A.deeper (envOfC qual scope s.heap.objs.size f cd)
 N:=N
 s₀:=s
 H₀:=H
 env:=envOfC qual scope s.heap.objs.size f cd
 outer:=outer
 stack:=envOfC qual scope s.heap.objs.size f cd::outer
 ex:=[]
 calm:=true
 fn:=λ_=>true
 pn:=[]
 xe:=λe s'=>wpAny (model P w) (A.deeper (envOfC qual scope s.heap.objs.size f cd)) (leaving (envOfC qual scope s.heap.objs.size f cd) e) (λ_ s''=>CX outer H s E e s'') (λe' s''=>CX outer H s E e' s'') s'
def zlK{sc:Scope}{n:Nat}{x:Str}(h:sc.names.lookup x=some .cell):∃c,(cellsFrom n sc.names []).lookup x=some c:=by
 have q:=W.cellsFrom_some sc.names n [] (.inl h)
 exact Option.isSome_iff_exists.mp q
def znx{CX:CXT}{P:Program}{w:World}{K:am}{mg:af}{bf:Heap}{N ps:List Str}{qual:Str}{scope:Scope}{f:Addr}{cd:Value}{A:Around}{outer:List Env}{s s1:Shared}{H:Hp}{E:XK}{us:ah}{vs:List V}
    (S:FnScope N ps scope) (hd:A.handled=none) (e0:Env0 P w K mg bf A outer s H) (hl:vs.length=ps.length) (r:Vals vs us)
    (x:InCallC s s.heap.objs.size (bindL (envOfC qual scope s.heap.objs.size f cd).kindOf (ps.zip us) λ_=>none) (cellsFrom (s.heap.objs.size+1) scope.names []) (bindC (envOfC qual scope s.heap.objs.size f cd).kindOf (ps.zip us) λ_=>none) s1):
    Inv (cxOf CX P w K mg bf N qual scope f cd A outer s H E) [] (zgP N vs) H s1:=by
 have hpl:ps.length<=N.length:=by have:=tS List.length S.pre;rw[su]at this;omega
 obtain⟨h1,tk,rfl,hk⟩:=x.done
 have noA:∀b:Addr,b∉(cxOf CX P w K mg bf N qual scope f cd A outer s H E).ex:=λb z=>absurd (show b∈([]:List Addr)from z) (by simp)
 refine⟨⟨e0.mod,S.kind,rfl,rfl,tD _,λy z c h1 h2=>?_,λy hy=>?_,λy c _ h=>?_,λ_=>hd,Around.frames_deeper e0.frames,.inr ⟨rfl,rfl⟩,λb z=>absurd z (noA b),e0.bs,e0.bsz,λb _ _=>noA b,λb z=>absurd z (noA b),e0.funs,e0.frf⟩,
  rfl,e0.bare,Un.kept hk,⟨_,x.toInCall.ns,λi y v h1 h2 h3=>?_⟩,λy c h=>⟨_,x.cell y c h⟩,e0.hok.fresh (tD _),λy c h=>?_,λp hp=>absurd (show p∈([]:ae)from hp) (by simp),e0.hok.kept hk,?_⟩
 ·exact name_of_addr x.apart (sg h1) (sg h2)
 ·have hy:scope.names.lookup y=some .cell\/scope.names.lookup y=some .free:=hy
  rcases hy with hy | hy
  ·exact zlK hy
  ·exact absurd rfl (S.nofree _ (sg hy))
 ·exact qV (x.above y c (sg h))
 ·have hi:i<vs.length:=by
   unfold zgP at h2
   by_cases hi:i<vs.length
   ·exact hi
   ·rw[t7 (by simpa using hi)]at h2
    rw[qd]at h2
    split at h2<;>cases h2
  have ha:vs[i]?=some v:=by
   unfold zgP at h2
   rw[si (by simpa using hi),getElem?_map]at h2
   cases e:vs[i]? with
   | none=>rw[e]at h2;cases h2
   | some a=>rw[e]at h2;cases h2;rfl
  obtain⟨u,hu,rv⟩:=r.get ha
  have hp:ps[i]?=some y:=by
   rw[<-S.pre,List.getElem?_take_of_lt (by omega)];exact h1
  have ndP:ps.Nodup:=by rw[<-S.pre];exact S.nd.sublist (List.take_sublist _ _)
  refine⟨u,rv,?_⟩
  rcases S.par y (tz hp)with k | k
  ·exact .inl ⟨k,zjR ndP hp hu k⟩
  ·obtain⟨c,e⟩:=zlK (n:=s.heap.objs.size+1) k
   refine .inr ⟨.inl k,c,e,?_⟩
   have q:=x.cell y c e
   rw[zjS ndP hp hu (by show scope.names.lookup y≠_;rw[k];decide)]at q
   exact q
 ·exact e0.hok.fresh (qV (x.above y c (sg h)))
 ·unfold zgP
  show _=N.length
  rw[tQ,tq,qF]
  omega
theorem zny{CX:CXT}{P:Program}{w:World}{K:am}{mg:af}{bf:Heap}{k:Nat}{f:Addr}{name qual:Str}{params:Arguments}{body:List Stmt}{scope:Scope}{dV kV doc pm cdv ct oc:Value}{an od:aj}
  {osl:ap} {N ps:List Str} {sp:Sp} (lk:K.lookup f=some ⟨oc,od,.func (W.fnOf name qual params body scope dV kV doc pm an cdv ct),osl⟩) (hcd:W.codeIn K cdv qual=true) (S:FnScope N ps scope)
  (len:∀vs H Q E,sp vs H Q E->vs.length=ps.length)
  (hbody:∀(A:Around)(outer:List Env)(s:Shared)(H:Hp)(vs:List V)(Q:VK)(E:XK),Room k (A.deeper (envOfC qual scope s.heap.objs.size f cdv))->sp vs H Q E->
    ∃t,PSs (cxOf CX P w K mg bf N qual scope f cdv A outer s H E) body t/\t { nx:=λ_ H'=>Q .non H',rt:=Q } (zgP N vs) H):
  FnOk P w K mg bf CX (k+1) f (W.fnOf name qual params body scope dV kV doc pm an cdv ct) ps sp:=by
 with_unfolding_all
  refine⟨len,λA outer s H args us vs Q E hr e0 hb r hsp=>?_⟩
  have hl:=len _ _ _ _ hsp
  have KX:K.In s.heap:=e0.mod.kin.keeps λb o e=>(e0.bs b o e).1
  have lim:s.heap.NoLimit:=e0.mod.nolimit.keeps λb o e=>(e0.bs b o e).1
  have hkind:∀y∈ps.zip us,scope.names.lookup y.1=some .local\/(scope.names.lookup y.1=some .cell/\((cellsFrom (s.heap.objs.size+1) scope.names []).lookup y.1).isSome=true):=λ⟨n,v⟩ hy=>by
   rcases S.par n (List.of_mem_zip hy).1 with q | q
   ·exact .inl q
   ·exact .inr ⟨q,W.cellsFrom_some _ _ _ (.inl q)⟩
  refine codeAny_call_function hr.depth (KX _ _ lk) rfl S.co S.gen rfl (W.codeRec_of KX hcd) (hb _ _ _ _ ?_)
  refine wpAny_newFunctionEnv_cells S.kind hkind λenv he s1 x=>?_
  subst he
  refine⟨lim.keeps x.toInCall.keep,codeAny_func ?_⟩
  obtain⟨t,ht,hq⟩:=hbody A outer s H vs Q E (hr.deeper _) hsp
  have I:Inv (cxOf CX P w K mg bf N qual scope f cdv A outer s H E) [] (zgP N vs) H s1:=znx S hr.hd e0 hl r x
  refine so (ht [] s1 (zgP N vs) H _ I hq) (λfl s' hs=>?_) λe s' hs=>hs
  have fin:∀{σ':St}{H':Hp}{v:V}{u:Value},Inv (cxOf CX P w K mg bf N qual scope f cdv A outer s H E) [] σ' H' s'->RelV v u->Q v H'->CE outer P w H s Q u s':=
   λ{σ' H' v u} J rv q=>⟨v,H',J.os,J.bare,J.bf,J.hok,rv,q⟩
  cases fl with
  | ret u=>
    obtain⟨v,σ',H',J,rv,q⟩:=hs
    exact fin J rv q
  | next=>
    obtain⟨σ',H',J,q⟩:=hs
    exact fin (v:=V.non) (u:=Value.none) J rfl q
  | brk=>
    obtain⟨_,_,_,q⟩:=hs
    exact False.elim q
  | cont=>
    obtain⟨_,_,_,q⟩:=hs
    exact False.elim q
section
variable{X:Cx}{x:Str}{p pos:Pos}{e:Expr}{es:List Expr}{t:TA}{id T:String}{r:List V->Hp->VK->Prop}
def tCB(r:List V->Hp->VK->Prop)(t:TA):TE:=λσ H Q=>t σ H λvs H1=>r vs H1 Q
def zay(hc:zda X (.builtin id) r)(hg:Gl X x)(hm:X.mg x=none)(hv:bootBuiltins x=some (.builtin id))(ha:PA X (e::es) t)(hn:x ≠ "__name__" := by decide)(hdb:(x==("__debug__" : Str))=false:=by decide)
    (he:starEach (e::es) X.env=(false,eval e X.env)::starEach es X.env:=by rfl) (hpl:(backTo pos (starEach es X.env)).any (·.1)=false:=by rfl):PE X (.Call (.Name x p) (e::es) [] pos) (tCB r t):=by
 with_unfolding_all
  intro ai s σ H Q I h
  refine sO (zgG I hg hm hv ?_ hn hdb)
  exact qD (thn (ha pos ai s σ H _ I h) λus s1 ⟨vs,H1,I1,r1,q1⟩=>hc ai s1 σ H1 vs us Q I1 r1 q1) he hpl
def zbK(hc:zda X (.type T) r)(hg:Gl X x)(hm:X.mg x=none)(hv:bootBuiltins x=some (.type T))(ha:PA X (e::es) t)(hn:x ≠ "__name__" := by decide)(hdb:(x==("__debug__" : Str))=false:=by decide)
    (he:starEach (e::es) X.env=(false,eval e X.env)::starEach es X.env:=by rfl) (hpl:(backTo pos (starEach es X.env)).any (·.1)=false:=by rfl):PE X (.Call (.Name x p) (e::es) [] pos) (tCB r t):=by
 with_unfolding_all
  intro ai s σ H Q I h
  refine sO (zgG I hg hm hv ?_ hn hdb)
  exact sX (thn (ha pos ai s σ H _ I h) λus s1 ⟨vs,H1,I1,r1,q1⟩=>hc ai s1 σ H1 vs us Q I1 r1 q1) he hpl
end
section
variable{κ:Type} [DecidableEq κ]
def valV(kvs:List (κ × V))(k : κ):Option V:=(kvs.find? λkv=>decide (kv.1=k)).map (·.2)
def putK(kvs:List (κ × V))(k : κ)(v:V):List (κ × V):=
 if(kvs.any λkv=>decide (kv.1=k))=true then kvs.map (λkv=>if kv.1=k then(kv.1,v)else kv)else kvs++[(k,v)]
def aY{k : κ}:valV ([]:List (κ × V)) k=none:=rfl
def zbf{p : κ × V}{r:List (κ × V)}{k : κ}(e:p.1=k):valV (p::r) k=some p.2:=by simp[valV,find?_cons,e]
def zaY{p : κ × V}{r:List (κ × V)}{k : κ}(e:¬p.1=k):valV (p::r) k=valV r k:=by simp[valV,find?_cons,e]
theorem zdl(k : κ):∀kvs:List (κ × V),(kvs.any λkv=>decide (kv.1=k))=(valV kvs k).isSome
 | []=>rfl
 | p::r=>by
   rw[qJ]
   by_cases e:p.1=k
   ·simp only[zbf e,decide_eq_true e,Bool.true_or,Option.isSome_some]
   ·rw[zaY e,tL e,Bool.false_or];exact zdl k r
theorem zlL(k j : κ)(y:V):∀kvs:List (κ × V),valV (kvs.map λkv=>if kv.1=k then(kv.1,y)else kv) j=(valV kvs j).map λx=>if j=k then y else x
 | []=>rfl
 | p::r=>by
   have ih:=zlL k j y r
   rw[sf]
   by_cases h:p.1=k
   ·rw[if_pos h]
    by_cases e:p.1=j
    ·rw[zbf (p:=(p.1,y)) e,zbf e,Option.map_some,if_pos (e.symm.trans h)]
    ·rw[zaY (p:=(p.1,y)) e,zaY e,ih]
   ·rw[if_neg h]
    by_cases e:p.1=j
    ·rw[zbf (p:=p) e,zbf e,Option.map_some,if_neg (λz=>h (e.trans z))]
    ·rw[zaY (p:=p) e,zaY e,ih]
theorem zjT(k j : κ)(y:V):∀kvs:List (κ × V),valV kvs k=none->valV (kvs++[(k,y)]) j=if j=k then some y else valV kvs j
 | [],_=>by
   by_cases e:k=j
   ·rw[if_pos e.symm];exact zbf (p:=(k,y)) e
   ·rw[if_neg (λz=>e z.symm)];exact zaY (p:=(k,y)) e
 | p::r,hn=>by
   rw[List.cons_append]
   have hk:¬p.1=k:=λz=>by rw[zbf z]at hn;cases hn
   rw[zaY hk]at hn
   have ih:=zjT k j y r hn
   by_cases e:p.1=j
   ·rw[zbf e,zbf e,if_neg (λz=>hk (e.trans z))]
   ·rw[zaY e,zaY e,ih]
theorem zbz(kvs:List (κ × V))(k j : κ)(y:V):valV (putK kvs k y) j=if j=k then some y else valV kvs j:=by
 unfold putK
 by_cases a:(kvs.any λkv=>decide (kv.1=k))=true
 ·rw[if_pos a,zlL]
  rw[zdl]at a
  by_cases e:j=k
  ·obtain⟨x,hx⟩:=Option.isSome_iff_exists.mp a
   rw[if_pos e,e,hx,Option.map_some,if_pos rfl]
  ·rw[if_neg e]
   cases valV kvs j with
   | none=>rfl
   | some x=>rw[Option.map_some,if_neg e]
 ·rw[if_neg a]
  refine zjT k j y kvs ?_
  rw[zdl]at a
  cases q:valV kvs k with
  | none=>rfl
  | some x=>rw[q]at a;exact(a rfl).elim
def zet(kvs:List (κ × V))(k : κ)(v:V):(putK kvs k v).length<=kvs.length+1:=by
 unfold putK
 split
 ·rw[tq];omega
 ·rw[tQ,length_cons,length_nil];omega
def aM{kvs:List (κ × V)}{k : κ}(v:V)(h:valV kvs k=none):putK kvs k v=kvs++[(k,v)]:=by
 unfold putK
 rw[zdl,h]
 exact if_neg (by decide)
theorem RelO.isSome_eq{o:Option V}{u:Option Value}(r:RelO o u):o.isSome=u.isSome:=by
 cases o with
 | none=>cases u with
   | none=>rfl
   | some _=>exact(show False from r).elim
 | some _=>cases u with
   | none=>exact(show False from r).elim
   | some _=>rfl
theorem RelO.getD{o:Option V}{u:Option Value}{d:V}{d':Value}(r:RelO o u)(rd:RelV d d'):RelV (o.getD d) (u.getD d'):=by
 cases o with
 | none=>cases u with
   | none=>exact rd
   | some _=>exact(show False from r).elim
 | some _=>cases u with
   | none=>exact(show False from r).elim
   | some _=>exact r
theorem KV.val{kvs:List (κ × V)}{vs:List (κ × Value)}(r:KV kvs vs)(k : κ):RelO (valV kvs k) (valueAt vs k):=by
 unfold KV at r
 induction r with
 | nil=>exact True.intro
 | @cons p q ps qs h t ih=>
   obtain⟨h1,h2⟩:=h
   by_cases e:p.1=k
   ·have e':q.1=k:=h1.symm.trans e
    have b:valueAt (q::qs) k=some q.2:=by simp[valueAt,find?_cons,e']
    rw[zbf e,b];exact h2
   ·have e':¬q.1=k:=λz=>e (h1.trans z)
    have b:valueAt (q::qs) k=valueAt qs k:=by simp[valueAt,find?_cons,e']
    rw[zaY e,b];exact ih
theorem KV.any{kvs:List (κ × V)}{vs:List (κ × Value)}(r:KV kvs vs)(k : κ):(kvs.any λkv=>decide (kv.1=k))=vs.any λkv=>decide (kv.1=k):=by
 unfold KV at r
 induction r with
 | nil=>rfl
 | cons h t ih=>rw[qJ,qJ,ih,h.1]
theorem KV.repl{kvs:List (κ × V)}{vs:List (κ × Value)}(r:KV kvs vs)(k : κ){y:V}{u:Value}(ry:RelV y u):
  KV (kvs.map λkv=>if kv.1=k then(kv.1,y)else kv) (vs.map λkv=>if kv.1=k then(kv.1,u)else kv):=by
 unfold KV at r ⊢
 induction r with
 | nil=>exact .nil
 | @cons p q ps qs h t ih=>
   rw[sf,sf]
   refine .cons ?_ ih
   obtain⟨h1,h2⟩:=h
   by_cases e:p.1=k
   ·rw[if_pos e,if_pos (h1.symm.trans e)];exact⟨h1,ry⟩
   ·rw[if_neg e,if_neg (λz=>e (h1.trans z))];exact⟨h1,h2⟩
def KV.put{kvs:List (κ × V)}{vs:List (κ × Value)}(r:KV kvs vs)(k : κ){y:V}{u:Value}(ry:RelV y u):KV (putK kvs k y) (stored vs k u):=by
 unfold putK stored
 rw[r.any k]
 by_cases e:(vs.any λkv=>decide (kv.1=k))=true
 ·rw[if_pos e,if_pos e];exact r.repl k ry
 ·rw[if_neg e,if_neg e];exact Paired.snoc r ⟨rfl,ry⟩
theorem KV.keys{kvs:List (κ × V)}{vs:List (κ × Value)}(r:KV kvs vs):kvs.map (·.1)=vs.map (·.1):=by
 unfold KV at r
 induction r with
 | nil=>rfl
 | cons h t ih=>rw[sf,sf,ih,h.1]
def KV.length{kvs:List (κ × V)}{vs:List (κ × Value)}(r:KV kvs vs):kvs.length=vs.length:=Paired.length r
end
theorem zkS{P:Program}{w:World}{k:Key}{u:Value}(r:RelV (kV k) u):(zaG P w).is k u=true:=by
 cases k with
 | inl i=>obtain⟨t,e⟩:=(show ∃t,u=Value.int i t from r);subst e;exact zkP P w i t
 | inr x=>obtain⟨t,e⟩:=(show ∃t,u=Value.str x t from r);subst e;exact zkQ P w x t
theorem zjU{P:Program}{w:World}:∀{ks:List Key}{us:ah},Vals (ks.map kV) us->ItemsAre (zaG P w) ks us
 | [],_,r=>by rw[map_nil]at r;cases r;exact .nil
 | k::ks,_,r=>by
   rw[sf]at r
   cases r with
   | cons h t=>exact .cons (zkS h) (zjU t)
abbrev KT(H:Hp):List (List Key × V)->List (List Key × Addr × Value)->Prop:=Paired λp q=>p.1=q.1/\H q.2.1=some (.tup (p.1.map kV))/\RelV p.2 q.2.2
theorem KT.val{H:Hp}{kvs:List (List Key × V)}{xs:List (List Key × Addr × Value)}(r:KT H kvs xs)(k:List Key):RelO (valV kvs k) ((atKey xs k).map (·.2)):=by
 induction r with
 | nil=>exact True.intro
 | @cons p q ps qs h t ih=>
   obtain⟨h1,_,h2⟩:=h
   by_cases e:p.1=k
   ·have e':q.1=k:=h1.symm.trans e
    have b:atKey (q::qs) k=some q.2:=by simp[atKey,find?_cons,e']
    rw[zbf e,b];exact h2
   ·have e':¬q.1=k:=λz=>e (h1.trans z)
    have b:atKey (q::qs) k=atKey qs k:=by simp[atKey,find?_cons,e']
    rw[zaY e,b];exact ih
theorem KT.repl{H:Hp}{kvs:List (List Key × V)}{xs:List (List Key × Addr × Value)}(r:KT H kvs xs)(k:List Key){y:V}{u:Value}(ry:RelV y u):
  KT H (kvs.map λkv=>if kv.1=k then(kv.1,y)else kv) (xs.map (putAt k u)):=by
 induction r with
 | nil=>exact .nil
 | @cons p q ps qs h t ih=>
   rw[sf,sf]
   refine .cons ?_ ih
   obtain⟨h1,h2,h3⟩:=h
   unfold putAt
   by_cases e:p.1=k
   ·rw[if_pos e,if_pos (h1.symm.trans e)];exact⟨h1,h2,ry⟩
   ·rw[if_neg e,if_neg (λz=>e (h1.trans z))];exact⟨h1,h2,h3⟩
def KT.put{H:Hp}{kvs:List (List Key × V)}{xs:List (List Key × Addr × Value)}(r:KT H kvs xs)(k:List Key){b:Addr}{y:V}{u:Value}(hb:H b=some (.tup (k.map kV)))(ry:RelV y u):
    KT H (putK kvs k y) (storedH xs k b u):=by
 have e:(kvs.any λkv=>decide (kv.1=k))=(atKey xs k).isSome:=by
  rw[zdl,(r.val k).isSome_eq,Option.isSome_map]
 unfold putK storedH
 rw[e]
 by_cases q:(atKey xs k).isSome=true
 ·rw[if_pos q,if_pos q];exact r.repl k ry
 ·rw[if_neg q,if_neg q];exact Paired.snoc r ⟨rfl,hb,ry⟩
def KT.keeps{H H':Hp}{kvs:List (List Key × V)}{xs:List (List Key × Addr × Value)}(r:KT H kvs xs)(ht:∀b ys,H b=some (.tup ys)->H' b=some (.tup ys)):KT H' kvs xs:=
 Paired.mapP r λ_ _ z=>⟨z.1,ht _ _ z.2.1,z.2.2⟩
section
variable{P:Program}{w:World}{H:Hp}{h:Heap}{a:Addr}
def zsC{u:HO}(ok:HOk P w H h)(e:Rd H a u):zbw P w H h a u:=e.ok ok
def zgQ{kvs:List (Key × V)}(ok:HOk P w H h)(e:Rd H a (.dK kvs)):kvs.length<=sizeLine/\(a==sysModules)=false/\∃vs,KV kvs vs/\h.DictOf (zaG P w) a vs:=
 show zbw P w H h a (.dK kvs)from zsC ok e
def zsD{kvs:List (Key × V)}(ok:HOk P w H h)(e:H a=some (.dK kvs)):kvs.length<=sizeLine/\(a==sysModules)=false/\∃vs,KV kvs vs/\h.DictOf (zaG P w) a vs:=zgQ ok (.inl e)
def ziI{ks:List Key}(ok:HOk P w H h)(e:H a=some (.tup (ks.map kV))):(tupleKind (zaG P w)).is h ks a:=by
 obtain⟨_,its,r,o,h1,h2,n,h3⟩:=(show zbw P w H h a (.tup (ks.map kV))from ok a _ e)
 exact⟨o,its.toArray,n,h1,h2,h3,by simpa using zjU r⟩
theorem zkT{kvs:List (List Key × V)}(ok:HOk P w H h)(e:Rd H a (.dT kvs)):kvs.length<=sizeLine/\(a==sysModules)=false/\
  ∃xs,KT H kvs xs/\h.DictOfH (tupleKind (zaG P w)) a xs:=by
 obtain⟨z,y,xs,r,o,es,ep,h1,h2,h3,h4,h5⟩:=(show zbw P w H h a (.dT kvs)from zsC ok e)
 refine⟨z,y,xs,r,o,es,ep,h1,h2,h3,h4,λx hx=>?_,h5⟩
 have all:∀{l:List (List Key × V)}{m:List (List Key × Addr × Value)},KT H l m->∀x∈m,(tupleKind (zaG P w)).is h x.1 x.2.1:=by
  intro l m q
  induction q with
  | nil=>intro x hx;exact nomatch hx
  | @cons p q ps qs hq t ih=>
    intro x hx
    rcases mem_cons.mp hx with e | hx
    ·subst e
     exact ziI ok (by rw[<-hq.1];exact hq.2.1)
    ·exact ih x hx
 exact all r x hx
def ztU{kvs:List (List Key × V)}(ok:HOk P w H h)(e:H a=some (.dT kvs)):kvs.length<=sizeLine/\(a==sysModules)=false/\
    ∃xs,KT H kvs xs/\h.DictOfH (tupleKind (zaG P w)) a xs:=zkT ok (.inl e)
end
def DGet(H:Hp)(a:Addr)(y:V)(r:Option V):Prop:=
 (∃kvs k,Rd H a (.dK kvs)/\y=kV k/\r=valV kvs k)\/∃kvs k b,Rd H a (.dT kvs)/\y=.ref b/\H b=some (.tup (k.map kV))/\r=valV kvs k
def DPut(H:Hp)(a:Addr)(y v:V)(H':Hp):Prop:=
 (∃kvs k,H a=some (.dK kvs)/\y=kV k/\kvs.length<sizeLine/\H'=upd H a (.dK (putK kvs k v))) \/
 ∃kvs k b,H a=some (.dT kvs)/\y=.ref b/\H b=some (.tup (k.map kV))/\kvs.length<sizeLine/\H'=upd H a (.dT (putK kvs k v))
def DGet.k{H:Hp}{a:Addr}{kvs:List (Key × V)}{k:Key}(e:H a=some (.dK kvs)):DGet H a (kV k) (valV kvs k):=.inl ⟨kvs,k,.inl e,rfl,rfl⟩
def DPut.k{H:Hp}{a:Addr}{kvs:List (Key × V)}{k:Key}{v:V}(e:H a=some (.dK kvs))(hl:kvs.length<sizeLine):DPut H a (kV k) v (upd H a (.dK (putK kvs k v))):=.inl ⟨kvs,k,e,rfl,hl,rfl⟩
section
variable{X:Cx}{ai:ae}{σ:St}{H:Hp}{s:Shared}{a:Addr}{y v:V}{u r:Value}{o:Option V}{A:Around}{E:ac}
def Inv.big(I:Inv X ai σ H s):sysModules<s.heap.objs.size:=by
 have h:mainGlobals<s.heap.objs.size:=(I.mod.glob.keeps I.bk).lt
 exact qZ (by decide) h
def znz{Q:ac}(hu:A.units+1<cLine)(I:Inv X ai σ H s)(g:DGet H a y (some v))(ry:RelV y u)(h:∀w' s',Inv X ai σ H s'->RelV v w'->Q w' s'):
    wpAny (model X.prog X.w) A (getItem (.ref a) u) Q E s:=by
 rcases g with⟨kvs,k,e,ey,l⟩ | ⟨kvs,k,b,e,ey,eb,l⟩
 ·subst ey
  obtain⟨z,hd,vs,rel,dd⟩:=zgQ I.hok e
  obtain⟨w',hw,rw'⟩:=RelO.some_of (v:=v) (o:=valueAt vs k) (by rw[l];exact rel.val k)
  exact wpAny_getItem_of (zkS ry) dd.mapOf hw (h w' _ (I.tok _) rw')
 ·subst ey
  cases(show u=Value.ref b from ry)
  obtain⟨z,hd,xs,rel,dd⟩:=zkT I.hok e
  obtain⟨w',hw,rw'⟩:=RelO.some_of (v:=v) (o:=(atKey xs k).map (·.2)) (by rw[l];exact rel.val k)
  obtain⟨p,hp,hp2⟩:=Option.map_eq_some_iff.mp hw
  refine wpAny_getItem_heap (rH hu) (ziI I.hok eb) dd hp ?_
  rw[hp2]
  exact h w' _ (I.tok _) rw'
def d_in{Q:ac}(hu:A.units+1<cLine)(I:Inv X ai σ H s)(g:DGet H a y o)(ry:RelV y u)(h:∀s',Inv X ai σ H s'->Q (.bool o.isSome) s'):
    wpAny (model X.prog X.w) A (compareOp .In u (.ref a)) Q E s:=by
 rcases g with⟨kvs,k,e,ey,l⟩ | ⟨kvs,k,b,e,ey,eb,l⟩
 ·subst ey
  obtain⟨z,hd,vs,rel,dd⟩:=zgQ I.hok e
  refine wpAny_in_of (zkS ry) hd dd.mapOf ?_
  rw[<-(rel.val k).isSome_eq,<-l]
  exact h _ (I.tok _)
 ·subst ey
  cases(show u=Value.ref b from ry)
  obtain⟨z,hd,xs,rel,dd⟩:=zkT I.hok e
  refine wpAny_in_heap (rH hu) (ziI I.hok eb) hd dd ?_
  have q:=(rel.val k).isSome_eq
  rw[Option.isSome_map]at q
  rw[<-q,<-l]
  exact h _ (I.tok _)
def zkU{h':Heap}{t':Nat}{ob:HO}(I:Inv X ai σ H s)(mu:Mut (H a))(hs:Heap.SameBut a s.heap h')(he:∃q,h'.get? a=some q)(new:zbw X.prog X.w (upd H a ob) h' a ob):
    Inv X ai σ (upd H a ob) { s with heap:=h',toks:=t' }:=
 I.write (x:=a) (e:=a) mu (.inl rfl) (λb q hb z=>(hs.2 b hb).trans z) he new
def znA{P:Program}{w:World}{H':Hp}{h':Heap}{kvs:List (Key × V)}{vs:List (Key × Value)}(z:kvs.length<=sizeLine)(hd:(a==sysModules)=false)(rel:KV kvs vs)(dd:h'.DictOf (zaG P w) a vs):
    zbw P w H' h' a (.dK kvs):=⟨z,hd,vs,rel,dd⟩
def znB{H':Hp}{Q:aq}(hu:A.units+1<cLine)(I:Inv X ai σ H s)(g:DPut H a y v H')(ry:RelV y u)(rv:RelV v r)(h:∀s',Inv X ai σ H' s'->Q () s'):
    wpAny (model X.prog X.w) A (setItem (.ref a) u r) Q E s:=by
 rcases g with⟨kvs,k,e,ey,l,eH⟩ | ⟨kvs,k,b,e,ey,eb,l,eH⟩
 ·subst ey eH
  obtain⟨z,hd,vs,rel,dd⟩:=zsD I.hok e
  have hz:vs.length<=sizeLine:=by rw[<-rel.length];exact z
  have hl:(putK kvs k v).length<=sizeLine:=by have:=zet kvs k v;omega
  refine wpAny_setItem_pairs (hsz:=hz) (zkS ry) dd λh' dd' hs=>h _ ?_
  have he:∃q,h'.get? a=some q:=let ⟨q,_,_,hq,_⟩:=dd';⟨q,hq⟩
  exact zkU I (by rw[e];exact True.intro) hs he (znA hl hd (rel.put k rv) dd')
 ·subst ey eH
  cases(show u=Value.ref b from ry)
  obtain⟨z,hd,xs,rel,dd⟩:=ztU I.hok e
  have hz:xs.length<=sizeLine:=by rw[<-Paired.length rel];exact z
  have hl:(putK kvs k v).length<=sizeLine:=by have:=zet kvs k v;omega
  refine wpAny_setItem_heap (hsz:=hz) (rH hu) (ziI I.hok eb) dd λh' dd' hs=>h _ ?_
  obtain⟨q,es,ep,hq,h2,h3,h4,_,h5⟩:=dd'
  refine zkU I (by rw[e];exact True.intro) hs ⟨q,hq⟩ ⟨hl,hd,_,(rel.put k eb rv).keeps λc ys ec=>?_,q,es,ep,hq,h2,h3,h4,h5⟩
  rw[zau (zpt ec e (λz=>nomatch z))]
  exact ec
end
section
variable{X:Cx}{ai:ae}{σ:St}{H:Hp}{s:Shared}{a:Addr}{kvs:List (Key × V)}{k:Key}{u:Value}{A:Around}{E:ac}
def ztV{Q:ac}(I:Inv X ai σ H s)(e:Rd H a (.dK kvs))(h:∀t s',Inv X ai σ H s'->Q (.int kvs.length t) s'):wpAny (model X.prog X.w) A (call (.builtin "len") [.ref a]) Q E s:=by
 obtain⟨z,hd,vs,rel,dd⟩:=zgQ I.hok e
 refine call_len_dict hd dd (by rw[<-rel.length];rw[sizeLine_eq]at z;omega) ?_
 rw[<-rel.length]
 exact h _ _ (I.tok _)
end
def NoSl(i:Expr):Prop:=∀ov iv,subscripted i false ov iv=operate [ov,iv] (getItem ov iv)
theorem zry{prog:Program}{w:World}{A:Around}{E:ac}{s:Shared}{env:Env}{value slice:Expr}{pos:Pos}{T id:String}{Q:ac}
  (hl:typeLookup (.type T) "__getitem__" = pure (some (.builtin id))) (hs:NoSl slice)
  (h:wpAny (model prog w) A (eval value env) (λo s₁=>wpAny (model prog w) A (eval slice env) (λi s₂=>s₂.TypeIs o T/\wpAny (model prog w) A (getItem o i) Q E s₂) E s₁) E s):
  wpAny (model prog w) A (eval (.Subscript value slice pos) env) Q E s:=by
 refine Subscript_ (so h (λo s₁ h₁=>so h₁ (λi s₂ h₂=>?_) λ_ _ x=>x) λ_ _ x=>x)
 obtain⟨hT,h₂⟩:=h₂
 unfold subscriptTail
 refine tw ?_
 rw[getitemInPython_of_ne hT.not_modules]
 refine tw (wpAny_specialOf hT hl ?_)
 have fin:wpAny (model prog w) A (subscripted slice false o i) (λr s₃=>wpAny (model prog w) A (letTemporaryGo value o r >>= λ_=>pure r) Q E s₃) E s₂:=by
  rw[hs o i]
  exact wpAny_operating (so h₂ (λr s₃ h₃=>tw (wpAny_letTemporaryGo (tI h₃))) λ_ _ x=>x)
 first
  | exact tI (tw fin)
  | exact tw (tI (tw fin))
  | exact tw fin
def zkV{X:Cx}{ai:ae}{σ:St}{H:Hp}{s:Shared}{a:Addr}{y:V}{o:Option V}(I:Inv X ai σ H s)(g:DGet H a y o):s.TypeIs (.ref a) "dict" := by
 rcases g with⟨kvs,k,e,_,_⟩ | ⟨kvs,k,b,e,_,_,_⟩
 ·obtain⟨_,_,vs,_,dd⟩:=zgQ I.hok e
  exact dd.typeIs
 ·obtain⟨_,_,xs,_,dd⟩:=zkT I.hok e
  exact dd.typeIs
def ztW(td ty:TE):TE:=λσ H Q=>td σ H λx H1=>ty σ H1 λy H2=>∃a v,x=.ref a/\DGet H2 a y (some v)/\Q v H2
def ztX(td ty tv:TE):TS:=λD σ H=>tv σ H λv H1=>td σ H1 λx H2=>ty σ H2 λy H3=>∃a H4,x=.ref a/\DPut H3 a y v H4/\D.nx σ H4
section
variable{X:Cx}{o i e value:Expr}{pos pos' tpos:Pos}{td ty tv:TE}
def zaN(hu:X.A.units+1<cLine)(ho:PE X o td)(hi:PE X i ty)(hs:NoSl i):PE X (.Subscript o i pos) (ztW td ty):=by
 with_unfolding_all
  intro ai s σ H Q I h
  refine zry PySem.F.slot_dict_getitem.lookup hs (thn (ho ai s σ H _ I h) λu s1 ⟨x,H1,I1,rx,q1⟩=>thn (hi ai s1 σ H1 _ I1 q1) λiv s2 ⟨y,H2,I2,ry,a,v,ex,g,q2⟩=>?_)
  subst ex
  obtain rfl:u=Value.ref a:=rx
  exact⟨zkV I2 g,znz hu I2 g ry λw' s3 I3 rw'=>⟨v,H2,I3,rw',q2⟩⟩
def zdT(hu:X.A.units+1<cLine)(ho:PE X o td)(hi:PE X i ty)(hv:PE X value tv)(hs:swapsWith value (some (.Subscript o i pos')) pos.line X.env=pure false):
    PS X (.Assign [.Subscript o i pos'] value pos) (ztX td ty tv):=by
 with_unfolding_all
  intro ai s σ H D I h
  refine wpAny_Assign_Subscript (thn (hv ai s σ H _ I h) λr s1 ⟨v,H1,I1,rv,q1⟩=>thn (ho ai s1 σ H1 _ I1 q1) λu s2 ⟨x,H2,I2,rx,q2⟩=>thn (hi ai s2 σ H2 _ I2 q2) λiv s3 ⟨y,H3,I3,ry,a,H4,ex,g,q3⟩=>?_) hs
  subst ex
  obtain rfl:u=Value.ref a:=rx
  exact znB hu I3 g ry rv λs4 I4=>⟨σ,H4,I4,q3⟩
end
def zlM{P:Program}{w:World}{H:Hp}(h:Heap)(hb:sysModules<h.objs.size):zbw P w H (h.push { cls:=.type "dict",data:=.dict #[] }) h.objs.size (.dK []):=
 ⟨tU _,beq_eq_false_iff_ne.mpr (Ne.symm (tJ hb)),[],.nil,Heap.DictOf.new h⟩
def zsE:TE:=λ_ H Q=>∀p,H p=none->Q (.ref p) (upd H p (.dK []))
section
variable{X:Cx}{pos:Pos}
theorem zpz:PE X (.Dict [] [] pos) zsE:=by
 with_unfolding_all
  exact λai s σ H Q I h=>
   wpAny_Dict_empty ⟨.ref s.heap.objs.size,_,I.laid (a:=s.heap.objs.size) (o:=.dK []) (t':=s.toks) (λ_ _ q=>tu _ q) (tD _) (zlM s.heap I.big),rfl,h _ (I.hok.fresh (tD _))⟩
end
def znC:List (TE × TE)->St->Hp->(List (V × V)->Hp->Prop)->Prop
 | [],_,H,Q=>Q [] H
 | (tk,tv)::r,σ,H,Q=>tk σ H λx H1=>tv σ H1 λy H2=>znC r σ H2 λps H3=>Q ((x,y)::ps) H3
abbrev VV:List (V × V)->List (Value × Value)->Prop:=Paired λp q=>RelV p.1 q.1/\RelV p.2 q.2
def PPs(X:Cx)(pos:Pos)(keys:List (Option Expr))(values:List Expr)(trs:List (TE × TE)):Prop:=
 ∀(ai:ae)(s:Shared)(σ:St)(H:Hp)(Q:List (V × V)->Hp->Prop),Inv X ai σ H s->znC trs σ H Q->
  wpAny (model X.prog X.w) X.A (evalPairs (pairTrees keys values X.env pos)) (λvs s'=>∃ps H',Inv X ai σ H' s'/\VV ps vs/\Q ps H') X.xe s
def zrz{X:Cx}{pos:Pos}:PPs X pos [] [] []:=λai s σ H Q I h=>pairTrees_nil_walk ⟨[],H,I,.nil,h⟩
theorem bB{X:Cx}{pos:Pos}{k v:Expr}{ks:List (Option Expr)}{vs:List Expr}{tk tv:TE}{trs:List (TE × TE)}(hk:PE X k tk)(hv:PE X v tv)(hr:PPs X pos ks vs trs):
  PPs X pos (some k::ks) (v::vs) ((tk,tv)::trs):=by
 with_unfolding_all
  exact λai s σ H Q I h=>
   pairTrees_cons_walk (thn (hk ai s σ H _ I h) λu s1 ⟨x,H1,I1,rx,q1⟩=>thn (hv ai s1 σ H1 _ I1 q1) λw2 s2 ⟨y,H2,I2,ry,q2⟩=>
    thn (hr ai s2 σ H2 _ I2 q2) λws s3 ⟨ps,H3,I3,rel,q3⟩=>⟨(x,y)::ps,H3,I3,.cons ⟨rx,ry⟩ rel,q3⟩)
def zhl(kvs more:List (Key × V)):List (Key × V):=more.foldl (λacc kv=>putK acc kv.1 kv.2) kvs
theorem KV.merge:∀{more:List (Key × V)}{rs:List (Key × Value)}{kvs:List (Key × V)}{vs:List (Key × Value)},KV more rs->KV kvs vs->KV (zhl kvs more) (merged vs rs):=by
 intro more rs kvs vs r
 unfold KV at r
 induction r generalizing kvs vs with
 | nil=>intro q;exact q
 | @cons p q ps qs h t ih=>
   intro r0
   have e:KV (putK kvs p.1 p.2) (stored vs q.1 q.2):=by
    have:=r0.put p.1 h.2
    rw[<-h.1];exact this
   exact ih e
theorem ee:∀(more kvs:List (Key × V)),(zhl kvs more).length<=kvs.length+more.length
 | [],kvs=>by show kvs.length<=kvs.length+0;omega
 | p::r,kvs=>by
   have h1:=ee r (putK kvs p.1 p.2)
   have h2:=zet kvs p.1 p.2
   show(zhl (putK kvs p.1 p.2) r).length<=_
   rw[length_cons];omega
theorem ziJ{P:Program}{w:World}:∀{kvs:List (Key × V)}{ws:List (Value × Value)},VV (kvs.map λkv=>(kV kv.1,kv.2)) ws->∃rs,Carries (zaG P w) ws rs/\KV kvs rs
 | [],_,r=>by rw[map_nil]at r;cases r;exact⟨[],True.intro,.nil⟩
 | p::kvs,_,r=>by
   rw[sf]at r
   cases r with
   | @cons a b as bs h t=>
     obtain⟨rs,c,q⟩:=ziJ (P:=P) (w:=w) t
     obtain⟨b1,b2⟩:=b
     exact⟨(p.1,b2)::rs,⟨zkS h.1,rfl,c⟩,.cons ⟨rfl,h.2⟩ q⟩
structure M1(X:Cx)(o:Expr)(m:Str)(apos:Pos)(e:Expr)(cpos:Pos):Prop where
 bf:attributeBase o m X.env (eval o X.env)=eval o X.env
 few:((backTo cpos (starEach [e] X.env)).all (λx => !x.1)&&(backToKw cpos (keywordEach [] X.env)).all (λx=>x.1.isSome)
  && decide (([e]:List Expr).length+([]:List Keyword).length+(if([]:List Keyword).isEmpty then 0 else 1)<30))=true
 line:(apos.endLine==cpos.line)=true
 trees:backTo cpos (starEach [e] X.env)=[(false,eval e X.env)]
structure M2(X:Cx)(o:Expr)(m:Str)(apos:Pos)(e f:Expr)(cpos:Pos):Prop where
 bf:attributeBase o m X.env (eval o X.env)=eval o X.env
 few:((backTo cpos (starEach [e,f] X.env)).all (λx => !x.1)&&(backToKw cpos (keywordEach [] X.env)).all (λx=>x.1.isSome)
  && decide (([e,f]:List Expr).length+([]:List Keyword).length+(if([]:List Keyword).isEmpty then 0 else 1)<30))=true
 line:(apos.endLine==cpos.line)=true
 trees:backTo cpos (starEach [e,f] X.env)=[(false,eval e X.env),(false,eval f X.env)]
def IsD(H:Hp)(a:Addr):Prop:=(∃kvs,Rd H a (.dK kvs))\/∃kvs,Rd H a (.dT kvs)
def zqw{X:Cx}{ai:ae}{σ:St}{H:Hp}{s:Shared}{a:Addr}(I:Inv X ai σ H s)(d:IsD H a):
    s.TypeIs (.ref a) "dict" /\ (∀b,Value.ref a=.ref b->∃ob,s.heap.get? b=some ob/\ob.dict=none)/\(a==sysModules)=false:=by
 rcases d with⟨kvs,e⟩ | ⟨kvs,e⟩
 ·obtain⟨_,hd,vs,_,dd⟩:=zgQ I.hok e
  refine⟨dd.typeIs,λb q=>?_,hd⟩
  cases q
  obtain⟨ob,_,_,h1,h2,_⟩:=dd
  exact⟨ob,h1,h2.2.1⟩
 ·obtain⟨_,hd,xs,_,dd⟩:=zkT I.hok e
  refine⟨dd.typeIs,λb q=>?_,hd⟩
  cases q
  obtain⟨ob,_,_,h1,h2,_⟩:=dd
  exact⟨ob,h1,h2.2.1⟩
section
variable{X:Cx}{ai:ae}{σ:St}{H:Hp}{s:Shared}{a:Addr}{y d:V}{u r:Value}{o:Option V}{A:Around}{E:ac}
def zsF{Q:ac}(hu:A.units+1<cLine)(I:Inv X ai σ H s)(g:DGet H a y o)(ry:RelV y u)(h:∀w' s',Inv X ai σ H s'->RelV (o.getD .non) w'->Q w' s'):
    wpAny (model X.prog X.w) A (call (.builtin "dict.get") [.ref a,u]) Q E s:=by
 rcases g with⟨kvs,k,e,ey,l⟩ | ⟨kvs,k,b,e,ey,eb,l⟩
 ·subst ey
  obtain⟨z,hd,vs,rel,dd⟩:=zgQ I.hok e
  refine pH sL dd.typeIs rF (PySem.F.args_dict_get_2 _ _) (meets_dict_get (zaG X.prog X.w) a (zkS ry) hd) ⟨_,dd.mapOf,h _ _ (I.tok _) ?_⟩
  rw[l]
  exact(rel.val k).getD rfl
 ·subst ey
  cases(show u=Value.ref b from ry)
  obtain⟨z,hd,xs,rel,dd⟩:=zkT I.hok e
  refine pH sL dd.typeIs rF (PySem.F.args_dict_get_2 _ _) (meetsH_dict_get (tupleKind (zaG X.prog X.w)) a b hd) ⟨rH hu,k,xs,ziI I.hok eb,dd,h _ _ (I.tok _) ?_⟩
  rw[l]
  exact(rel.val k).getD rfl
def zsG{Q:ac}(hu:A.units+1<cLine)(I:Inv X ai σ H s)(g:DGet H a y o)(ry:RelV y u)(rd:RelV d r)(h:∀w' s',Inv X ai σ H s'->RelV (o.getD d) w'->Q w' s'):
    wpAny (model X.prog X.w) A (call (.builtin "dict.get") [.ref a,u,r]) Q E s:=by
 rcases g with⟨kvs,k,e,ey,l⟩ | ⟨kvs,k,b,e,ey,eb,l⟩
 ·subst ey
  obtain⟨z,hd,vs,rel,dd⟩:=zgQ I.hok e
  refine pH sL dd.typeIs rF (PySem.F.args_dict_get_3 _ _ _) (meets_dict_get_default (zaG X.prog X.w) a (zkS ry) hd r) ⟨_,dd.mapOf,h _ _ (I.tok _) ?_⟩
  rw[l]
  exact(rel.val k).getD rd
 ·subst ey
  cases(show u=Value.ref b from ry)
  obtain⟨z,hd,xs,rel,dd⟩:=zkT I.hok e
  refine pH sL dd.typeIs rF (PySem.F.args_dict_get_3 _ _ _) (meetsH_dict_get_default (tupleKind (zaG X.prog X.w)) a b hd r) ⟨rH hu,k,xs,ziI I.hok eb,dd,h _ _ (I.tok _) ?_⟩
  rw[l]
  exact(rel.val k).getD rd
end
def zsH(td ty:TE):TE:=λσ H Q=>td σ H λx H1=>∃a,x=.ref a/\IsD H1 a/\ty σ H1 λy H2=>∃o,DGet H2 a y o/\Q (o.getD .non) H2
def zsI(td ty tx:TE):TE:=λσ H Q=>td σ H λx H1=>∃a,x=.ref a/\IsD H1 a/\ty σ H1 λy H2=>tx σ H2 λz H3=>∃o,DGet H3 a y o/\Q (o.getD z) H3
section
variable{X:Cx}{o e f:Expr}{apos cpos:Pos}{td ty tx:TE}
def zpA(hu:X.A.units+1<cLine)(ho:PE X o td)(he:PE X e ty)(m:M1 X o "get" apos e cpos):PE X (.Call (.Attribute o "get" apos) [e] [] cpos) (zsH td ty):=by
 with_unfolding_all
  intro ai s σ H Q I h
  refine wpAny_Call_method m.bf m.few m.line PySem.F.plainAttrs_dict sL PySem.F.type_dict_get (thn (ho ai s σ H _ I h) λu s1 ⟨x,H1,I1,rx,a,ex,d,q1⟩=>?_)
  subst ex
  obtain rfl:u=Value.ref a:=rx
  obtain⟨t1,t2,_⟩:=zqw I1 d
  refine⟨t1,t2,?_⟩
  rw[m.trees]
  refine qm rfl (qH (rG (thn (he ai s1 σ H1 _ I1 q1) λiv s2 ⟨y,H2,I2,ry,ov,g,q2⟩=>qt ?_)))
  exact zsF hu I2 g ry λw' s3 I3 rw'=>⟨_,H2,I3,rw',q2⟩
def zlN(hu:X.A.units+1<cLine)(ho:PE X o td)(he:PE X e ty)(hf:PE X f tx)(m:M2 X o "get" apos e f cpos):PE X (.Call (.Attribute o "get" apos) [e,f] [] cpos) (zsI td ty tx):=by
 with_unfolding_all
  intro ai s σ H Q I h
  refine wpAny_Call_method m.bf m.few m.line PySem.F.plainAttrs_dict sL PySem.F.type_dict_get (thn (ho ai s σ H _ I h) λu s1 ⟨x,H1,I1,rx,a,ex,d,q1⟩=>?_)
  subst ex
  obtain rfl:u=Value.ref a:=rx
  obtain⟨t1,t2,_⟩:=zqw I1 d
  refine⟨t1,t2,?_⟩
  rw[m.trees]
  refine qm rfl (qH (rG (thn (he ai s1 σ H1 _ I1 q1) λiv s2 ⟨y,H2,I2,ry,q2⟩=>
   rG (thn (hf ai s2 σ H2 _ I2 q2) λfv s3 ⟨z,H3,I3,rz,ov,g,q3⟩=>qt ?_))))
  exact zsG hu I3 g ry rz λw' s4 I4 rw'=>⟨_,H3,I4,rw',q3⟩
end
section
variable{X:Cx}{ai:ae}{σ:St}{H:Hp}{s:Shared}{a:Addr}{kvs:List (Key × V)}{A:Around}{E:ac}
end
section
variable{X:Cx}{ai:ae}{σ:St}{H:Hp}{s:Shared}{a:Addr}{y:V}{u:Value}{A:Around}{E:ac}
end
end L2
namespace HT
open PySem PyProof.Rows
def lexLt:List Int->List Int->Bool
 | [],[]=>false
 | [],_::_=>true
 | _::_,[]=>false
 | x::xs,y::ys=>if x=y then lexLt xs ys else decide (x<y)
def lexLt_cons(x y:Int)(xs ys:List Int):lexLt (x::xs) (y::ys)=if x=y then lexLt xs ys else decide (x<y):=rfl
def lexLt_nil_nil:lexLt [] []=false:=rfl
section
open PySem.SeqAt
open PySem.AutoSeq1 (wpAny_loadPart')
open PySem.MeetsSeq PySem.MeetsSeq2 PySem.MeetsSeq3
end
section
variable{prog:Program}{w:World}{A:Around}{E:ac}{s:Shared}
def sIx(n d:Nat):Option Int->Nat
 | none=>d
 | some v=>if v<0 then(v+(n:Int)).toNat else min v.toNat n
def sIx_none(n d:Nat):sIx n d none=d:=rfl
def sIx_nat(n d k:Nat):sIx n d (some (k:Int))=min k n:=by
 show(if(k:Int)<0 then((k:Int)+(n:Int)).toNat else min (k:Int).toNat n)=min k n
 rw[if_neg (by omega),pf]
end
end HT
namespace L2
open PySem PySem.Spec PyProof.Rows
abbrev TO:=St->Hp->(Option Int->Hp->Prop)->Prop
def PO(X:Cx)(e:Option Expr)(t:TO):Prop:=
 ∀(ai:ae)(s:Shared)(σ:St)(H:Hp)(Q:Option Int->Hp->Prop),Inv X ai σ H s->t σ H Q->
  wpAny (model X.prog X.w) X.A (evalPart e X.env) (λu s'=>∃o H',Inv X ai σ H' s'/\IsPart u o/\Q o H') X.xe s
def zrA:TO:=λ_ H Q=>Q none H
def ztY(t:TE):TO:=λσ H Q=>t σ H λx H1=>∃i,x=.int i/\Q (some i) H1
theorem ziK{ns:List Int}:∀{us:ah},Vals (ns.map V.int) us->IntsAre us ns:=by
 induction ns with
 | nil=>intro us r;rw[map_nil]at r;cases r;exact .nil
 | cons n ns ih=>
   intro us r
   rw[sf]at r
   cases r with
   | cons r1 r2=>
     obtain⟨t,e⟩:=r1
     subst e
     exact .cons n t (ih r2)
section
variable{X:Cx}{e:Expr}{te:TE}{lo hi:Option Expr}{tl th:TO}{pos p2:Pos}
def zfF:PO X none zrA:=by
 intro ai s σ H Q I h
 rw[evalPart_none]
 exact tI ⟨none,H,I,.none,h⟩
def zdU(h:PE X e te):PO X (some e) (ztY te):=by
 with_unfolding_all
  intro ai s σ H Q I hw
  rw[evalPart_some]
  refine thn (h ai s σ H _ I hw) λu s1 ⟨x,H1,I1,r1,q1⟩=>?_
  obtain⟨i,rfl,q⟩:=q1
  obtain⟨t,rfl⟩:=r1
  exact⟨some i,H1,I1,.int i t,q⟩
def SlR(X:Cx)(r:V->Option Int->Option Int->Hp->VK->Prop):Prop:=
 ∀(ai:ae)(s:Shared)(σ:St)(H:Hp)(x:V)(v vl vu:Value)(lo hi:Option Int)(sl:Addr)(Q:VK),Inv X ai σ H s->RelV x v->s.heap.IsSliceOf sl vl vu .none->IsPart vl lo->IsPart vu hi->r x lo hi H Q->
  ∃T id,typeLookup (.type T) "__getitem__" = pure (some (.builtin id))/\s.TypeIs v T/\wpAny (model X.prog X.w) X.A (getItem v (.ref sl)) (EP X ai σ Q) X.xe s
def tSl(r:V->Option Int->Option Int->Hp->VK->Prop)(te:TE)(tl th:TO):TE:=λσ H Q=>te σ H λx H1=>tl σ H1 λl H2=>th σ H2 λu H3=>r x l u H3 Q
def zdm{r:V->Option Int->Option Int->Hp->VK->Prop}(hr:SlR X r)(he:PE X e te)(hl:PO X lo tl)(hu:PO X hi th):PE X (.Subscript e (.Slice lo hi none p2) pos) (tSl r te tl th):=by
 with_unfolding_all
  intro ai s σ H Q I h
  refine Subscript_ (thn (he ai s σ H _ I h) λv s1 ⟨x,H1,I1,r1,q1⟩=>?_)
  refine wpAny_Slice (thn (hl ai s1 σ H1 _ I1 q1) λvl s2 ⟨l,H2,I2,pl,q2⟩=>thn (hu ai s2 σ H2 _ I2 q2) λvu s3 ⟨u,H3,I3,pu,q3⟩=>?_)
  rw[evalPart_none]
  refine tI ?_
  have I4:Inv X ai σ H3 { s3 with heap:=s3.heap.push { cls:=.type "slice",data:=.fields #[vl,vu,.none] } }:=I3.kept (t':=s3.toks) λb ob q=>tu _ q
  obtain⟨T,id,hT,ht,hg⟩:=hr ai { s3 with heap:=s3.heap.push { cls:=.type "slice",data:=.fields #[vl,vu,.none] } } σ H3 x v vl vu l u s3.heap.objs.size Q I4 r1 (Heap.IsSliceOf.new ..) pl pu q3
  show wpAny (model X.prog X.w) X.A (subscriptTail e (.Slice lo hi none p2) v (.ref s3.heap.objs.size)) (EP X ai σ Q) X.xe { s3 with heap:=s3.heap.push { cls:=.type "slice",data:=.fields #[vl,vu,.none] } }
  exact tail_any (ops:=[.ref s3.heap.objs.size,v]) ht hT hg (by with_unfolding_all rfl)
def cutV(xs:List V)(lo hi:Option Int):List V:=(xs.drop (HT.sIx xs.length 0 lo)).take (HT.sIx xs.length xs.length hi-HT.sIx xs.length 0 lo)
def zkW(xs:List V)(lo hi:Option Int):(cutV xs lo hi).length<=xs.length:=by
 unfold cutV
 rw[su,pj]
 omega
end
def ixN(n:Nat)(i:Int):Option Nat:=if 0<=i then(if i<n then some i.toNat else none)else if -(n:Int)<=i then some (i+n).toNat else none
def atI{α:Type}(xs:List α)(i:Int):Option α:=(ixN xs.length i).bind λj=>xs[j]?
def znD{n:Nat}{i:Int}{j:Nat}(h:ixN n i=some j):seqIndex? i n=some j/\j<n /\ -(n:Int)<=i/\i<n:=by
 unfold ixN at h
 by_cases h0:0<=i
 ·rw[if_pos h0]at h
  by_cases h1:i<n
  ·rw[if_pos h1]at h
   have e:i.toNat=j:=tF h
   exact⟨by rw[seqIndex_of h0 h1,e],by omega,by omega,h1⟩
  ·rw[if_neg h1]at h;cases h
 ·rw[if_neg h0]at h
  by_cases h1 : -(n:Int)<=i
  ·rw[if_pos h1]at h
   have e:(i+n).toNat=j:=tF h
   exact⟨by rw[seqIndex_neg (by omega) h1,e],by omega,h1,by omega⟩
  ·rw[if_neg h1]at h;cases h
theorem zkX{α:Type}{xs:List α}{i:Int}{v : α}(h:atI xs i=some v):∃j,seqIndex? i xs.length=some j/\xs[j]?=some v/\j<xs.length /\ -(xs.length:Int)<=i/\i<xs.length:=by
 unfold atI at h
 cases e:ixN xs.length i with
 | none=>rw[e]at h;cases h
 | some j=>
   rw[e]at h
   obtain⟨h1,h2,h3,h4⟩:=znD e
   exact⟨j,h1,h,h2,h3,h4⟩
def zcT{α:Type}{xs:List α}{j:Nat}{v : α}(h:xs[j]?=some v):atI xs (j:Int)=some v:=by
 have hj:j<xs.length:=(List.getElem?_eq_some_iff.mp h).1
 have e:ixN xs.length (j:Int)=some j:=by
  unfold ixN
  rw[if_pos (by omega),if_pos (by omega)];simp
 unfold atI;rw[e];exact h
def zrB(b:Expr):Prop:=∀o i,subscripted b false o i=operate [o,i] (getItem o i)
def IxR(X:Cx)(r:R2):Prop:=
 ∀(value slice:Expr)(ai:ae)(s:Shared)(σ:St)(H:Hp)(x y:V)(v u:Value)(Q:VK),Inv X ai σ H s->RelV x v->RelV y u->r x y H Q->
  subscripted slice false v u=operate [v,u] (getItem v u)->wpAny (model X.prog X.w) X.A (subscriptTail value slice v u) (EP X ai σ Q) X.xe s
def MtR(X:Cx)(id:String)(r:V->List V->Hp->VK->Prop):Prop:=
 ∀(ai:ae)(s:Shared)(σ:St)(H:Hp)(x:V)(xs:List V)(v:Value)(us:ah)(Q:VK),Inv X ai σ H s->RelV x v->Vals xs us->r x xs H Q->
  wpAny (model X.prog X.w) X.A (call (.builtin id) (v::us)) (EP X ai σ Q) X.xe s
section
variable{X:Cx}{a b:Expr}{ta tb:TE}{pos:Pos}
def zaq{r:R2}(hr:IxR X r)(ha:PE X a ta)(hb:PE X b tb)(hs:zrB b):PE X (.Subscript a b pos) (tOp r ta tb):=by
 with_unfolding_all
  intro ai s σ H Q I h
  exact Subscript_ (binT ha hb I h λv u s2 x y H2 I2 rx ry q=>hr a b ai s2 σ H2 x y v u Q I2 rx ry q (hs _ _))
inductive EIxL(K:am)(x y:V)(H:Hp)(Q:VK):Prop
 | mk (p:Addr) (xs:List V) (i:Int) (v:V) (hx:x=.ref p) (hy:y=.int i) (s:SqL K H p xs) (h:atI xs i=some v) (q:Q v H):EIxL K x y H Q
def rIxL(K:am):R2:=EIxL K
inductive EIxT(K:am)(x y:V)(H:Hp)(Q:VK):Prop
 | mk (p:Addr) (xs:List V) (i:Int) (v:V) (hx:x=.ref p) (hy:y=.int i) (s:SqT K H p xs) (h:atI xs i=some v) (q:Q v H):EIxT K x y H Q
def rIxT(K:am):R2:=EIxT K
def rIxS:R2:=λx y H Q=>∃z i c,x=.str z/\y=.int i/\z.length<=sizeLine/\atI z.cps.toList i=some c/\Q (.str ⟨#[c]⟩) H
def zbC:IxR X (rIxL X.K):=by
 intro value slice ai s σ H x y v u Q I rx ry h hs
 obtain⟨p,xs,i,z,rfl,rfl,hq,he,q⟩:=h
 cases rx
 obtain⟨t,rfl⟩:=ry
 obtain⟨its,r,pl,hz⟩:=I.list hq
 obtain⟨j,h1,h2,h3,h4,h5⟩:=zkX he
 obtain⟨w,ew,rw'⟩:=r.get h2
 have hl:=r.length
 have hn:=ziF
 have fin:EP X ai σ Q w s:=⟨z,H,I,rw',q⟩
 by_cases h0:0<=i
 ·have hj:i.toNat=j:=by
   rw[seqIndex_of h0 h5]at h1
   exact tF h1
  exact item_listR pl.isList h0 (by omega) (by rw[hj];simpa using ew) fin hs
 ·have hj:(i+(its.toArray.size:Int)).toNat=j:=by
   rw[seqIndex_neg (by omega) h4]at h1
   rw[size_toArray,<-hl]
   exact tF h1
  exact subscriptTail_builtinR (x:=w) pl.isList.typeIs slot_list_getitem.lookup
   (wpAny_getItem_list_neg (Q:=λr s'=>r=w/\EP X ai σ Q r s') pl.isList (by omega) (by rw[size_toArray]<;>omega) (by omega) (by rw[hj];simpa using ew) ⟨rfl,fin⟩) hs
def zal:IxR X (rIxT X.K):=by
 intro value slice ai s σ H x y v u Q I rx ry h hs
 obtain⟨p,xs,i,z,rfl,rfl,hq,he,q⟩:=h
 cases rx
 obtain⟨t,rfl⟩:=ry
 obtain⟨its,r,pl,hz⟩:=I.tuple hq
 obtain⟨j,h1,h2,h3,h4,h5⟩:=zkX he
 obtain⟨w,ew,rw'⟩:=r.get h2
 have hl:=r.length
 have hn:=ziF
 have fin:EP X ai σ Q w s:=⟨z,H,I,rw',q⟩
 exact subscriptTail_builtinR (x:=w) pl.typeIs slot_tuple_getitem.lookup
  (getItem_tuple (j:=j) (Q:=λr s'=>r=w/\EP X ai σ Q r s') pl (by omega) (by omega) (by rw[size_toArray,<-hl];exact h1) (by simpa using ew) ⟨rfl,fin⟩) hs
def zqx:IxR X rIxS:=by
 intro value slice ai s σ H x y v u Q I rx ry h hs
 obtain⟨z,i,c,rfl,rfl,hz,he,q⟩:=h
 obtain⟨t,rfl⟩:=rx
 obtain⟨t',rfl⟩:=ry
 obtain⟨j,h1,h2,h3,h4,h5⟩:=zkX he
 have hl:z.cps.toList.length=z.length:=by simp[Str.length]
 rw[hl]at h1 h4 h5
 have hn:=ziF
 exact tail_any (pL s z t) slot_str_getitem.lookup (getItem_str (c:=c) (by
  have e1:decide (i < -(2 ^ 63:Int))=false:=tL (by omega)
  have e2:decide (i ≥ 2 ^ 63)=false:=tL (by omega)
  rw[e1,e2,Bool.or_false]) (by rw[h1];simpa using h2) ⟨.str ⟨#[c]⟩,H,I.tok _,⟨_,rfl⟩,q⟩) hs
def zmD(its:ah)(n j:Nat)(u:Value):Obj.mapSeq (·.setIfInBounds j u) { cls:=.type "list",data:=.seq its.toArray n } = { cls:=.type "list",data:=.seq (its.set j u).toArray n }:=by
 simp[Obj.mapSeq]
def Inv.lst{ai:ae}{σ:St}{H:Hp}{s:Shared}{p:Addr}{xs:List V}(I:Inv X ai σ H s)(h:H p=some (.lst xs)):
    ∃(its:ah)(n:Nat),Vals xs its/\s.heap.get? p=some { cls:=.type "list",data:=.seq its.toArray n }/\xs.length<=sizeLine:=by
 obtain⟨z,its,n,r,e⟩:=I.hok p _ h
 exact⟨its,n,r,e,z⟩
def Inv.lstUpd{ai:ae}{σ:St}{H:Hp}{s:Shared}{p:Addr}{xs ys:List V}{its its':ah}{n n':Nat}{f:Obj->Obj}(I:Inv X ai σ H s)(h:H p=some (.lst xs))
    (ho:s.heap.get? p=some { cls:=.type "list",data:=.seq its.toArray n }) (hf:f { cls:=.type "list",data:=.seq its.toArray n } = { cls:=.type "list",data:=.seq its'.toArray n' }) (r:Vals ys its') (hz:ys.length<=sizeLine) (t:Nat):
    Inv X ai σ (upd H p (.lst ys)) { s with heap:=s.heap.update p f,toks:=t }:=by
 have e:(s.heap.update p f).get? p=some { cls:=.type "list",data:=.seq its'.toArray n' }:=by
  rw[Heap.get?_update_self f ho (by rw[hf]<;>rfl),hf]
 refine I.write (x:=p) (e:=p) (by rw[h];trivial) (.inl rfl) (λb u hb q=>(Heap.get?_update_other _ _ (Ne.symm hb)).trans q) ⟨_,e⟩ ?_
 exact⟨hz,its',n',r,e⟩
def ztZ:V->V->V->Hp->(Hp->Prop)->Prop:=λo i v H Q=>∃p xs k j,o=.ref p/\i=.int k/\H p=some (.lst xs)/\ixN xs.length k=some j/\Q (upd H p (.lst (xs.set j v)))
def zpB:PSet X ztZ:=by
 intro ai s σ H o i v ov iv u Q I ro ri rv h
 obtain⟨p,xs,k,j,rfl,rfl,hp,hj,q⟩:=h
 cases ro
 obtain⟨t,rfl⟩:=ri
 obtain⟨its,n,r,ho,hz⟩:=I.lst hp
 obtain⟨h1,h2,h3,h4⟩:=znD hj
 have hl:=r.length
 have hn:=ziF
 have I':Inv X ai σ (upd H p (.lst (xs.set j v))) { s with heap:=s.heap.update p (Obj.mapSeq (·.setIfInBounds j u)) }:=
  I.lstUpd hp ho (zmD its n j u) (r.set rv j) (by rw[pM];exact hz) s.toks
 by_cases h0:0<=k
 ·have hk:k.toNat=j:=by
   rw[seqIndex_of h0 h4]at h1
   exact tF h1
  exact W.ki_setAt ho h0 (by omega) (by rw[size_toArray,<-hl];exact h4) (by rw[hk];exact⟨_,I',q⟩)
 ·have hk:(k+(its.toArray.size:Int)).toNat=j:=by
   rw[seqIndex_neg (by omega) h3]at h1
   rw[size_toArray,<-hl]
   exact tF h1
  exact W.ki_setBack ho (by omega) (by rw[size_toArray,<-hl];exact h3) (by omega) (by rw[hk];exact⟨_,I',q⟩)
theorem zjV(lo hi:Option Int)(n:Nat):(sliceBounds lo hi none n).1=((HT.sIx n 0 lo:Nat):Int)/\(sliceBounds lo hi none n).2.1=((HT.sIx n n hi:Nat):Int)/\(sliceBounds lo hi none n).2.2=1:=by
 refine⟨?_,?_,rfl⟩
 ·cases lo with
  | none=>simp[sliceBounds,HT.sIx]
  | some i=>
    simp only[sliceBounds,HT.sIx,Option.getD_none,show(1:Int) > 0 by decide,if_true]
    by_cases h:i<0
    ·simp only[h,if_true]<;>omega
    ·simp only[h,if_false]<;>omega
 ·cases hi with
  | none=>simp[sliceBounds,HT.sIx]
  | some i=>
    simp only[sliceBounds,HT.sIx,Option.getD_none,show(1:Int) > 0 by decide,if_true]
    by_cases h:i<0
    ·simp only[h,if_true]<;>omega
    ·simp only[h,if_false]<;>omega
def fm(its:ah)(lo hi:Option Int):slicePick its.toArray lo hi none=((its.drop (HT.sIx its.length 0 lo)).take (HT.sIx its.length its.length hi-HT.sIx its.length 0 lo)).toArray:=by
 obtain⟨h1,h2,h3⟩:=zjV lo hi its.toArray.size
 unfold slicePick
 rw[h1,h2,h3]
 simp only[sliceRange_one,pick_run,size_toArray]<;>rfl
def rSlL(K:am):V->Option Int->Option Int->Hp->VK->Prop:=λx lo hi H Q=>∃a xs,x=.ref a/\SqL K H a xs/\∀p,H p=none->Q (.ref p) (upd H p (.lst (cutV xs lo hi)))
def zrC:SlR X (rSlL X.K):=by
 intro ai s σ H x v vl vu lo hi sl Q I rx hs pl pu h
 obtain⟨a,xs,rfl,hx,q⟩:=h
 cases rx
 obtain⟨its,r,ht,hz⟩:=I.list hx
 have hlen:=r.length
 refine⟨"list",_,slot_list_getitem.lookup,ht.isList.typeIs,?_⟩
 refine wpAny_getItem_list_slice ht.isList hs pl pu .none (by simp) ?_ (by rw[size_toArray]<;>omega)
 rw[fm,<-hlen]
 refine⟨.ref s.heap.objs.size,_,I.laid (t':=s.toks) (o:=.lst (cutV xs lo hi)) (λb ob q=>tu _ q) (tD _) ?_,rfl,q _ (I.hok.fresh (tD _))⟩
 exact⟨tM (zkW xs lo hi) hz,_,0,(r.drop (HT.sIx xs.length 0 lo)).take (HT.sIx xs.length xs.length hi-HT.sIx xs.length 0 lo),tH _ rfl⟩
def zcc:V->Bool
 | .non=>true
 | .bl _=>true
 | .int _=>true
 | .str _=>true
 | _=>false
def eqV:V->V->Bool
 | .non,.non=>true
 | .bl a,.bl b=>a==b
 | .bl a,.int b=>(if a then 1 else 0)==b
 | .int a,.bl b=>a==(if b then 1 else 0)
 | .int a,.int b=>a==b
 | .str a,.str b=>a==b
 | _,_=>false
theorem znE{A:Around}{s:Shared}{y x:V}{u v:Value}(ry:RelV y u)(rx:RelV x v)(fy:zcc y=true)(fx:zcc x=true):SeqAt.EqAt A s u v (eqV y x):=by
 cases y with
 | non=>
   cases ry
   cases x with
   | non=>cases rx;exact qP _
   | bl b=>cases rx;exact SeqAt.EqAt.none_bool b
   | int b=>obtain⟨t,rfl⟩:=rx;exact SeqAt.EqAt.none_int b t
   | str b=>obtain⟨t,rfl⟩:=rx;exact SeqAt.EqAt.none_str b t
   | _=>exact absurd (show false=true from fx) tE
 | bl a=>
   cases ry
   cases x with
   | non=>cases rx;exact SeqAt.EqAt.bool_none a
   | bl b=>cases rx;exact SeqAt.EqAt.bool_bool a b
   | int b=>obtain⟨t,rfl⟩:=rx;exact SeqAt.EqAt.bool_int a b t
   | str b=>obtain⟨t,rfl⟩:=rx;exact SeqAt.EqAt.bool_str a b t
   | _=>exact absurd (show false=true from fx) tE
 | int a=>
   obtain⟨t',rfl⟩:=ry
   cases x with
   | non=>cases rx;exact SeqAt.EqAt.int_none a t'
   | bl b=>cases rx;exact SeqAt.EqAt.int_bool a t' b
   | int b=>obtain⟨t,rfl⟩:=rx;exact SeqAt.EqAt.int_int a t' b t
   | str b=>obtain⟨t,rfl⟩:=rx;exact SeqAt.EqAt.int_str a t' b t
   | _=>exact absurd (show false=true from fx) tE
 | str a=>
   obtain⟨t',rfl⟩:=ry
   cases x with
   | non=>cases rx;exact SeqAt.EqAt.str_none a t'
   | bl b=>cases rx;exact SeqAt.EqAt.str_bool a t' b
   | int b=>obtain⟨t,rfl⟩:=rx;exact SeqAt.EqAt.str_int a t' b t
   | str b=>obtain⟨t,rfl⟩:=rx;exact SeqAt.EqAt.str_str a t' b t
   | _=>exact absurd (show false=true from fx) tE
 | _=>exact absurd (show false=true from fy) tE
def eqU(x:V)(u:Value):Bool:=match u with
 | .none=>eqV .non x
 | .bool b=>eqV (.bl b) x
 | .int i _=>eqV (.int i) x
 | .str z _=>eqV (.str z) x
 | _=>false
theorem zqy{x y:V}{u:Value}(r:RelV y u)(f:zcc y=true):eqU x u=eqV y x:=by
 cases y with
 | non=>cases r;rfl
 | bl b=>cases r;rfl
 | int i=>obtain⟨t,rfl⟩:=r;rfl
 | str z=>obtain⟨t,rfl⟩:=r;rfl
 | _=>exact absurd (show false=true from f) tE
theorem zhm{x:V}:∀{xs:List V}{us:ah},Vals xs us->xs.all zcc=true->us.any (eqU x)=xs.any λy=>eqV y x
 | _,_,.nil,_=>rfl
 | y::xs,u::us,.cons r t,f=>by
   rw[pN,Bool.and_eq_true]at f
   rw[qJ,qJ,zqy r f.1,zhm t f.2]
theorem aO{A:Around}{s:Shared}{x:V}{v:Value}(rx:RelV x v)(fx:zcc x=true):∀{xs:List V}{us:ah},Vals xs us->xs.all zcc=true->∀u∈us,SeqAt.EqAt A s u v (eqU x u)
 | _,_,.nil,_=>λu hu=>by cases hu
 | y::xs,u::us,.cons r t,f=>λu' hu=>by
   rw[pN,Bool.and_eq_true]at f
   rcases mem_cons.mp hu with rfl | hu
   ·rw[zqy r f.1];exact znE r rx f.1 fx
   ·exact aO rx fx t f.2 u' hu
def inV(x:V)(xs:List V):Bool:=xs.any λy=>eqV y x
def rIn(K:am)(neg:Bool):R2:=λx y H Q=>∃p xs,y=.ref p/\(SqL K H p xs\/SqT K H p xs)/\zcc x=true/\xs.all zcc=true/\Q (.bl (if neg then !inV x xs else inV x xs)) H
def znF:OpR X (compareOp .In) (rIn X.K false):=by
 intro ai s σ H x y v u Q I rx ry h
 obtain⟨p,xs,rfl,hq,fx,fs,q⟩:=h
 cases ry
 rcases hq with hq | hq
 ·obtain⟨its,r,pl,hz⟩:=I.list hq
  refine SeqAt.in_listAt (eqU x) pl.isList (λw hw=>aO rx fx r fs w (by simpa using hw)) ⟨.bl _,H,I,rfl,?_⟩
  rw[show its.toArray.any (eqU x)=its.any (eqU x) by simp,zhm r fs]
  exact q
 ·obtain⟨its,r,pl,hz⟩:=I.tuple hq
  refine SeqAt.in_tupleAt (eqU x) pl (λw hw=>aO rx fx r fs w (by simpa using hw)) ⟨.bl _,H,I,rfl,?_⟩
  rw[show its.toArray.any (eqU x)=its.any (eqU x) by simp,zhm r fs]
  exact q
def zgJ:OpR X (compareOp .NotIn) (rIn X.K true):=by
 intro ai s σ H x y v u Q I rx ry h
 obtain⟨p,xs,rfl,hq,fx,fs,q⟩:=h
 cases ry
 rcases hq with hq | hq
 ·obtain⟨its,r,pl,hz⟩:=I.list hq
  refine SeqAt.notIn_listAt (eqU x) pl.isList (λw hw=>aO rx fx r fs w (by simpa using hw)) ⟨.bl _,H,I,rfl,?_⟩
  rw[show its.toArray.any (eqU x)=its.any (eqU x) by simp,zhm r fs]
  exact q
 ·obtain⟨its,r,pl,hz⟩:=I.tuple hq
  refine SeqAt.notIn_tupleAt (eqU x) pl (λw hw=>aO rx fx r fs w (by simpa using hw)) ⟨.bl _,H,I,rfl,?_⟩
  rw[show its.toArray.any (eqU x)=its.any (eqU x) by simp,zhm r fs]
  exact q
def zaF:zda X (.builtin "len") (λxs H Q=>∃p ys,xs=[.ref p]/\(SqL X.K H p ys\/SqT X.K H p ys)/\Q (.int ys.length) H):=by
 intro ai s σ H xs us Q I r h
 obtain⟨p,ys,rfl,hq,q⟩:=h
 obtain⟨u,rfl,rx⟩:=zdR r
 cases rx
 have hn:=ziF
 rcases hq with hq | hq
 ·obtain⟨its,r',pl,hz⟩:=I.list hq
  have hlen:=r'.length
  exact Calls.call_len_list pl.isList (by simp only[size_toArray]<;>omega) ⟨.int ys.length,H,I.tok _,⟨s.toks+1,by rw[size_toArray,hlen]⟩,q⟩
 ·obtain⟨its,r',pl,hz⟩:=I.tuple hq
  have hlen:=r'.length
  exact len_tuple pl (by simp only[size_toArray]<;>omega) ⟨.int ys.length,H,I.tok _,⟨s.toks+1,by rw[size_toArray,hlen]⟩,q⟩
def zgK:zda X (.builtin "len") (λxs H Q=>∃z,xs=[.str z]/\z.length<=sizeLine/\Q (.int z.length) H):=by
 intro ai s σ H xs us Q I r h
 obtain⟨z,rfl,hz,q⟩:=h
 obtain⟨u,rfl,t,rfl⟩:=zdR r
 have hn:=ziF
 exact len_str (by omega) ⟨.int z.length,H,I.tok _,⟨_,rfl⟩,q⟩
def zjW:zda X (.type "list") (λxs H Q=>∃p ys,xs=[.ref p]/\(SqL X.K H p ys\/SqT X.K H p ys)/\∀l,H l=none->Q (.ref l) (upd H l (.lst ys))):=by
 intro ai s σ H xs us Q I r h
 obtain⟨p,ys,rfl,hq,q⟩:=h
 obtain⟨u,rfl,rx⟩:=zdR r
 cases rx
 have fin:∀(its:ah),Vals ys its->ys.length<=sizeLine->∀(h':Heap)(c':Nat),(∀b o',s.heap.get? b=some o'->h'.get? b=some o')->
   h'.get? s.heap.objs.size=some { cls:=.type "list",dict:=none,data:=.seq its.toArray c',slots := #[] }->EP X ai σ Q (.ref s.heap.objs.size) { s with heap:=h' }:=λits r' hz h' c' kp e=>
  ⟨.ref s.heap.objs.size,_,I.laid (t':=s.toks) kp (tD _) (show zbw X.prog X.w _ h' _ (.lst ys)from⟨hz,its,c',r',e⟩),rfl,q _ (I.hok.fresh (tD _))⟩
 rcases hq with hq | hq
 ·obtain⟨its,r',pl,hz⟩:=I.list hq
  have hlen:=r'.length
  obtain⟨o,ho,hc,n,hd⟩:=pl.isList
  exact call_list_seq p (.inl rfl) ho hc hd (λh' c' kp e=>fin its r' hz h' c' kp e) (by simp only[size_toArray]<;>omega)
 ·obtain⟨its,r',pl,hz⟩:=I.tuple hq
  have hlen:=r'.length
  obtain⟨o,ho,hc,n,hd⟩:=pl
  exact call_list_seq p (.inr rfl) ho hc hd (λh' c' kp e=>fin its r' hz h' c' kp e) (by simp only[size_toArray]<;>omega)
def tyV(K:am)(T:String)(x:V)(H:Hp):Prop:=match x with
 | .str _=>T = "str"
 | .int _=>T = "int"
 | .ref p=>(T = "list" /\ ∃xs,SqL K H p xs)\/(T = "tuple" /\ ∃o,K.lookup p=some o/\o.cls=.type "tuple" /\ o.dict=none) \/
    (T = "dict" /\ ((∃kvs,H p=some (.dK kvs))\/∃kvs,H p=some (.dT kvs)))\/(T = "set" /\ ∃S n,H p=some (.set S n))
 | _=>False
theorem zsJ{ai:ae}{σ:St}{H:Hp}{s:Shared}{T:String}{x:V}{v:Value}(I:Inv X ai σ H s)(r:RelV x v)(ty:tyV X.K T x H):
  s.TypeIs v T/\∀a,v=.ref a->∃ob,s.heap.get? a=some ob/\ob.dict=none:=by
 cases x with
 | str z=>
   obtain⟨t,rfl⟩:=r
   cases(show T = "str" from ty)
   exact⟨pL s z t,λ_ e=>nomatch e⟩
 | int i=>
   obtain⟨t,rfl⟩:=r
   cases(show T = "int" from ty)
   exact⟨typeIs_int s i t,λ_ e=>nomatch e⟩
 | ref p=>
   cases r
   rcases ty with⟨rfl,xs,hq⟩ | ⟨rfl,o,hk,hc,hd⟩ | ⟨rfl,hk⟩ | ⟨rfl,S,n,hk⟩
   ·obtain⟨its,_,pl,_⟩:=I.list hq
    refine⟨pl.isList.typeIs,λa e=>?_⟩
    cases e
    obtain⟨o,n,e,c,hd,_⟩:=pl
    exact⟨o,e,hd⟩
   ·refine⟨⟨o,I.kIn p o hk,hc⟩,λa e=>?_⟩
    cases e
    exact⟨o,I.kIn _ o hk,hd⟩
   ·have z:∃o,s.heap.get? p=some o/\o.ExactDict:=by
     rcases hk with⟨kvs,hk⟩ | ⟨kvs,hk⟩
     ·obtain⟨_,_,_,_,o,_,_,e,ex,_⟩:=I.hok p _ hk
      exact⟨o,e,ex⟩
     ·obtain⟨_,_,_,_,o,_,_,e,ex,_⟩:=I.hok p _ hk
      exact⟨o,e,ex⟩
    obtain⟨o,e,ex⟩:=z
    refine⟨⟨o,e,ex.1⟩,λa e2=>?_⟩
    cases e2
    exact⟨o,e,ex.2.1⟩
   ·obtain⟨o,_,_,_,e,ex,_⟩:=I.hok p _ hk
    refine⟨⟨o,e,ex.1⟩,λa e2=>?_⟩
    cases e2
    exact⟨o,e,ex.2.1⟩
 | _=>exact False.elim ty
def tBM(K:am)(T:String)(r:V->List V->Hp->VK->Prop)(to:TE)(t:TA):TE:=λσ H Q=>to σ H λx H1=>tyV K T x H1/\t σ H1 λxs H2=>r x xs H2 Q
variable{o e:Expr}{es:List Expr}{to:TE}{t:TA}{name:Str}{apos cpos:Pos}{T id:String}{r:V->List V->Hp->VK->Prop}
def zpC(pa:PlainAttrs T)(slot:Slot T name id)(hty:typeOf (.builtin id)=pure (.type "method_descriptor"))(hm:MtR X id r)(ho:PE X o to)(ha:PA X (e::es) t)
    (hbase:attributeBase o name X.env (eval o X.env)=eval o X.env:=by rfl)
    (hfew:((backTo cpos (starEach (e::es) X.env)).all (λx => !x.1)&&(backToKw cpos (keywordEach [] X.env)).all (λx=>x.1.isSome)
      && decide ((e::es).length+([]:List Keyword).length+(if([]:List Keyword).isEmpty then 0 else 1)<30))=true:=by rfl)
    (hline:(apos.endLine==cpos.line)=true:=by rfl) (hs:starEach (e::es) X.env=(false,eval e X.env)::starEach es X.env:=by rfl) (hplain:(backTo cpos (starEach es X.env)).any (·.1)=false:=by rfl):
    PE X (.Call (.Attribute o name apos) (e::es) [] cpos) (tBM X.K T r to t):=by
 with_unfolding_all
  intro ai s σ H Q I h
  refine wpAny_Call_method_late hbase hfew hline rfl (thn (ho ai s σ H _ I h) λv s1 ⟨x,H1,I1,r1,ty,q1⟩=>?_)
  obtain⟨h1,h2⟩:=zsJ I1 r1 ty
  refine⟨T,id,pa,slot,hty,h1,h2,?_⟩
  have hA:=ha cpos ai s1 σ H1 _ I1 q1
  rw[hs]at hA ⊢
  refine qm (by show(false||(backTo cpos (starEach es X.env)).any (·.1))=false;rw[hplain]<;>rfl) (qH ?_)
  exact thn hA λus s2 ⟨vs,H2,I2,r2,q2⟩=>hm ai s2 σ H2 x vs v us Q I2 r1 r2 q2
/- xs.append(e),list.index on a module's tuple .. are MtR facts of 06m -/
end
def MtM(X:Cx)(id:String)(r:V->List V->Hp->VK->Prop):Prop:=
 ∀(ai:ae)(s:Shared)(σ:St)(H:Hp)(x:V)(xs:List V)(v:Value)(us:ah)(Q:VK),Inv X ai σ H s->RelV x v->Vals xs us->r x xs H Q->
  wpAny (model X.prog X.w) X.A (call (.builtin id) (v::us)) (EP X ai σ Q) X.xe s
theorem Vals.one:∀{x:V}{us:ah},Vals [x] us->∃u,us=[u]/\RelV x u
 | _,_,.cons r .nil=>⟨_,rfl,r⟩
section
variable{X:Cx}{ai:ae}{σ:St}{H:Hp}{s:Shared}{l b:Addr}{xs ys zs:List V}
def Inv.lset{its its':ah}{n:Nat}{f:Array Value->Array Value}{t':Nat}(I:Inv X ai σ H s)(hH:H l=some (.lst xs))
    (e:s.heap.get? l=some { cls:=.type "list",data:=.seq its.toArray n }) (hf:f its.toArray=its'.toArray) (hv:Vals ys its') (hz:ys.length<=sizeLine):
    Inv X ai σ (upd H l (.lst ys)) { s with heap:=s.heap.update l (Obj.mapSeq f),toks:=t' }:=by
 have q:=PySem.IsL.update e f
 rw[hf]at q
 refine I.write (x:=l) (e:=l) (by rw[hH];exact trivial) (.inl rfl) (λb' u hb hu=>(Heap.get?_update_other s.heap (Obj.mapSeq f) (Ne.symm hb)).trans hu) ⟨_,q⟩ ?_
 exact⟨hz,its',_,hv,q⟩
def Inv.lnew{its:ah}{t':Nat}(I:Inv X ai σ H s)(hv:Vals ys its)(hz:ys.length<=sizeLine):
    Inv X ai σ (upd H s.heap.objs.size (.lst ys)) { s with heap:=s.heap.push { cls:=.type "list",data:=.seq its.toArray },toks:=t' }:=
 I.laid (λ_ _ q=>tu _ q) (tD _) ⟨hz,its,0,hv,tH _ rfl⟩
def Inv.fresh(I:Inv X ai σ H s):H s.heap.objs.size=none:=I.hok.fresh (tD _)
def Inv.lstM(I:Inv X ai σ H s)(hH:H l=some (.lst xs)):xs.length<=sizeLine/\∃(its:ah)(n:Nat),Vals xs its/\xs.length=its.length/\s.heap.get? l=some { cls:=.type "list",data:=.seq its.toArray n }:=by
 obtain⟨z,its,n,r,e⟩:=I.hok l _ hH
 exact⟨z,its,n,r,r.length,e⟩
end
section
variable{X:Cx}
def zrD:V->List V->Hp->VK->Prop:=λx vs H Q=>∃l xs y,x=.ref l/\vs=[y]/\H l=some (.lst xs)/\xs.length<sizeLine/\Q .non (upd H l (.lst (xs++[y])))
def zhn:MtM X "list.append" zrD:=by
 intro ai s σ H x vs v us Q I rx rv h
 obtain⟨l,xs,y,rfl,rfl,hH,hz,q⟩:=h
 cases rx
 obtain⟨u,rfl,ru⟩:=rv.one
 obtain⟨z,its,n,r,hl,e⟩:=I.lstM hH
 refine call_meets F.slot_list_append ⟨_,e,rfl⟩ F.entry_list_append (F.args_list_append_2 _ _) (PySem.list_append l its.toArray n u (by rw[size_toArray];omega)) ⟨e,?_⟩
 refine⟨.non,_,I.lset (its':=its++[u]) hH e (by simp) (r.append (.cons ru .nil)) ?_,rfl,q⟩
 rw[tQ,List.length_singleton]
 omega
end
section
variable{prog:Program}{w:World}{A:Around}{E:ac}{s:Shared}
set_option maxRecDepth 100000 in
end
section
variable{X:Cx}
end
end L2
namespace Att
open PySem PySem.W PySem.Calls PyProof.Rows
theorem zho{P:Params}{h:Heap}:∀(ns:List Int)(vs:ah),WellAll P h vs (ns.map WData.int)->IntsAre vs ns:=by
 intro ns
 induction ns with
 | nil=>
   intro vs w
   rw[map_nil]at w
   cases w
   exact .nil
 | cons n ns ih=>
   intro vs w
   rw[sf]at w
   cases w with
   | cons a b=>
     cases a
     exact .cons _ _ (ih _ b)
theorem znG{l:OpenLaw}{n:Nat}(hn:l.most=some n){P:Params}{h:Heap}{args:List WData}{vals:ah}
  (hpre:l.row.toRowW.claim.pre args=true) (hwl:WellAll P h vals args):
  ∃a vs ns,vals=[Value.ref a]/\args=[WData.list (ns.map WData.int)]/\h.get? a=some { cls:=.type "list",data:=.seq vs.toArray }/\IntsAre vs ns/\ns.length<=n:=by
 have hsh:WShape.hasAll [] args [.list .int]=true:=(pre_splitW hpre).1
 have hc:l.pre.holds [] { args:=args }=true:=(pre_splitW hpre).2
 obtain⟨d,r,rfl,h1,h2⟩:=hasAllW_cons hsh
 obtain rfl:=hasAllW_nil h2
 obtain⟨xs,rfl,h3⟩:=hasW_list h1
 obtain⟨ns,rfl⟩:=items_int h3
 have hlen:ns.length<=n:=by
  unfold OpenLaw.pre at hc
  have h4:(WTm.not (.lt (.lit (.int (n:Int))) (.len (.arg 0)))).holds [] { args:=[.list (ns.map .int)] }=true:=by
   have h4:=(holds_andW hc).1
   rw[hn]at h4
   exact h4
  have h5:=condW_of h4 (w_not (w_lt w_lit (w_len_list (w_arg rfl))))
  rw[tq]at h5
  refine Nat.le_of_not_lt λq=>?_
  have q':(n:Int)<((ns.length:Nat):Int):=by omega
  first
   | (rw[decide_eq_true q']at h5;exact absurd h5 (by decide))
   | (simp at h5;omega)
 cases hwl with
 | cons w1 w2=>
   cases w2
   cases w1 with
   | list ho hall=>exact⟨_,_,ns,rfl,rfl,ho,zho ns _ hall,hlen⟩
def znH(l:OpenLaw)(args:List WData):l.row.toRowW.claim.post args (.bool true) args=true:=
 postW_of (r:=l.row.toRowW) (X:=(true==true))
  (show WShape.has [] (.bool true) .bool=true by first | rfl | decide | simp[WShape.has,WShape.arms,WShape.armsAll])
  (show(WTm.eq .res (.lit (.bool true))).value [] { args:=args,res:=some (.bool true),after:=args }=some (.bool (true==true))from w_eq_bool (w_res rfl) w_lit) rfl
def attach_call{l:OpenLaw}{n:Nat}{q:Program}{loose:List Str}{XP:(Str->Option Value)->Heap->Prop}{YP:World->Heap->Prop}{d:DefRec}
    (hn:l.most=some n) (hdf:d.params.defaults=[])
    (call:∀(w:World)(s₀ s₁:Shared)(mg mb:af)(fa:Addr)(o:Obj)(pm cd doc:Value)(a:Addr)(vs:ah)(ns:List Int),
      Ground q loose [] XP w s₀ mg mb s₁.heap->YP w s₁.heap->
      s₁.heap.get? fa=some o->o.data=.func (docDef d.name d.params d.body d.scope pm cd doc)->s₁.heap.CodeRec cd d.name->mg d.name=some (.ref fa)->
      s₁.heap.get? a=some { cls:=.type "list",data:=.seq vs.toArray }->IntsAre vs ns->ns.length<=n->s₁.gens = #[]->
      codeAny (model l.prog w) callerA (.call (.ref fa) ⟨[.ref a],[]⟩) (λr s'=>r=.ok (.ret (.bool true))/\OldK s₁.heap s'.heap/\s'.os=s₁.os/\AllBare s'.gens) s₁):
    WalkO q loose XP YP l.row.toRowW d [] (λf vs=>PySem.call f vs):=by
 intro w s₀ s₁ mg mb G Y fa o pm cd doc dV kV ho hd hcd hD hmg hg args vals as hpre hlay hrd hwl hlo
 obtain rfl:dV=.none:=Dflts.none hD hdf
 obtain rfl:kV=.none:=Dflts.noKw hD
 obtain⟨a,vs,ns,rfl,rfl,hobj,hints,hlen⟩:=znG hn hpre hwl
 refine enter_call (rj (call w s₀ s₁ mg mb fa o pm cd doc a vs ns G Y ho (fd_plain hd) hcd hmg hobj hints hlen hg) λr s' hq=>?_)
 obtain⟨rfl,h2,h3,h4⟩:=hq
 exact⟨.inl ⟨.bool true,.bool true,[],rfl,λ_=>rfl,.bool true,znH l _,λ_=>⟨List.Pairwise.nil,λ_ hm=>(nomatch hm)⟩⟩,h2,h3,h4⟩
section
variable{prog:Program}{w:World}{A:Around}{E:ac}{s:Shared}{K:Frag}
def zuz(h:Heap)(L d:Addr):List (Addr × Obj):=(List.range h.objs.size).filterMap λa=>if a=L\/a=d then none else(h.get? a).map λo=>(a,o)
end
end Att
namespace L2
open PySem PySem.Spec PyProof.Rows
theorem zjX:∀{vs:ah}{ns:List Int},IntsAre vs ns->Vals (ns.map V.int) vs
 | _,_,.nil=>.nil
 | _,_,.cons n t h=>.cons ⟨t,rfl⟩ (zjX h)
abbrev KOf{K:am}{h:Heap}(_:K.In h):W.Frag:=K
end L2
/- THE LAST THEOREM (shape;LID,My.* are yours):
   My.Adr: a structure of the addresses that your layer names (classes,functions);My.Txt K t: a structure (Prop) of the equations over K;
   My.txt_mk : {K} {implicit addresses ..} (e1:nsIn K mainGlobals "law" = some (some (.ref f))) (e2:K.lookup f=some ⟨oc,od,.func (fnOf "law" "law" params body scope dV kV doc pm an cdv ct),sl⟩) (e3:codeIn K cdv "law" = true) .. : ∃t,My.Txt K t
set_option maxRecDepth 100000 in
set_option maxHeartbeats 0 in
theorem PySem.Challenge.cw_LID_holds : PySem.Challenge.rw_LID.Holds := by
 w_on;o_law;k_head;(case hw=>w_witness2)
 k_fill
 refine L2.walk_of (l:=PySem.Challenge.rw_LID) (n:=63) (k:=40) (x := "script") (CX:=λw => ..) (sp:=λ_=>My.sp_law) rfl (by decide) rfl ⟨rfl,by decide,by decide⟩ (λw h Y=>PySem.W.kIn_of Y) ?F ?S ?C
 case F=>
  intro w mg fa h KX G hmg
  have T:∃t,My.Txt (L2.KOf KX) t:=by
   dsimp only[L2.KOf]
   refine' My.txt_mk ?e1 ?e2 ?e3 ..
   (case e1=>PySem.W.k_is)
   (case e2=>PySem.W.k_is)
   ..
  obtain⟨t,T⟩:=T
  have e0:=hmg.symm.trans (PySem.W.mg_of KX G T.law)
  cases e0
  exact⟨_,λs u=>.of_eq rfl,λbf kb nb=>My.law_fn T kb nb⟩
 case S=>exact λw H a ns hl hO hS => ..
 case C=>exact ..
(the tactic k_is has no namespace: write k_is) -/
namespace L2
open PySem PySem.Spec PyProof.Rows
def zax(s:Stmt)(j:Nat):Stmt:=match s with
 | .ClassDef _ _ _ body _ _ _ _ _ _ _=>body.getD j (.Pass ⟨0,0,0,0⟩)
 | _ => .Pass ⟨0,0,0,0⟩
def zat(s:Stmt):Arguments:=match s with
 | .FunctionDef _ a _ _ _ _ _ _ _ _=>a
 | _ => { posonlyargs:=[],args:=[],vararg:=none,kwonlyargs:=[],kw_defaults:=[],kwarg:=none,defaults:=[] }
def zam(s:Stmt):List Stmt:=match s with
 | .FunctionDef _ _ b _ _ _ _ _ _ _=>b
 | _=>[]
def zac(s:Stmt):Scope:=match s with
 | .FunctionDef _ _ _ _ _ _ sc _ _ _=>sc
 | _ => { kind:=.function,names:=[],isGenerator:=false,isCoroutine:=false }
abbrev CX0:CXT:=λ_ _ _ _ _ _=>False
abbrev E0:XK:=λ_ _ _=>False
def zaD{X:Cx}:zdS CX0 X E0:=λ_ _ _ _ _ _ _ h=>h.elim
structure Fun(K:am)(x qual:Str)(st:Stmt)(f:Addr)(fd:FuncData):Prop where
 ex:∃(oc:Value)(od:aj)(kV doc pm:Value)(an:aj)(cdv ct:Value)(osl:ap),
  fd=W.fnOf x qual (zat st) (zam st) (zac st) .none kV doc pm an cdv ct/\K.lookup f=some ⟨oc,od,.func fd,osl⟩/\W.codeIn K cdv qual=true
 kp:W.keepIn K (.ref f)=true
section
variable{P:Program}{w:World}{K:am}{mg:af}{bf:Heap}
def Fun.ok{x qual:Str}{st:Stmt}{f:Addr}{fd:FuncData}{N ps:List Str}{k:Nat}{sp:Sp}(F:Fun K x qual st f fd)(S:FnScope N ps (zac st))(len:∀vs H Q E,sp vs H Q E->vs.length=ps.length)
    (hbody:∀(cdv:Value)(A:Around)(outer:List Env)(s:Shared)(H:Hp)(vs:List V)(Q:VK)(E:XK),Room k (A.deeper (envOfC qual (zac st) s.heap.objs.size f cdv))->sp vs H Q E->
      ∃t,PSs (cxOf CX0 P w K mg bf N qual (zac st) f cdv A outer s H E).nox (zam st) t/\t { nx:=λ_ H'=>Q .non H',rt:=Q } (zgP N vs) H):FnOk P w K mg bf CX0 (k+1) f fd ps sp:=by
 obtain⟨oc,od,kV,doc,pm,an,cdv,ct,osl,rfl,lk,hcd⟩:=F.ex
 refine zny lk hcd S len λA outer s H vs Q E hr hsp=>?_
 obtain⟨t,h,q⟩:=hbody cdv A outer s H vs Q E hr hsp
 exact⟨t,h.nox,q⟩
def Fun.binds{x qual:Str}{st:Stmt}{f:Addr}{fd:FuncData}{ps:List Str}(F:Fun K x qual st f fd)
    (h:∀(kV doc pm:Value)(an:aj)(cdv ct:Value)(us:ah),us.length=ps.length->bindArgs (W.fnOf x qual (zat st) (zam st) (zac st) .none kV doc pm an cdv ct) ⟨us,[]⟩=pure (ps.zip us)):zbp K fd ps []:=by
 obtain⟨oc,od,kV,doc,pm,an,cdv,ct,osl,rfl,lk,hcd⟩:=F.ex
 exact .all (h kV doc pm an cdv ct)
def zbx{x qual:Str}{st:Stmt}{f:Addr}{oc:Value}{od an:aj}{osl:ap}{kV doc pm cdv ct:Value}(l:K.lookup f=some ⟨oc,od,.func (W.fnOf x qual (zat st) (zam st) (zac st) .none kV doc pm an cdv ct),osl⟩)
    (c:W.codeIn K cdv qual=true) (k:W.keepIn K (.ref f)=true):Fun K x qual st f (W.fnOf x qual (zat st) (zam st) (zac st) .none kV doc pm an cdv ct):=⟨⟨oc,od,kV,doc,pm,an,cdv,ct,osl,rfl,l,c⟩,k⟩
end
def zaC{n:Nat}(h:n<=1000):n<sizeLine:=rc h (by decide)
section
variable{X:Cx}
def pv(i:Nat){x:Str}{pos:Pos}(hN:X.N[i]?=some x:=by rfl)(hv:Vis X.env.scope x:=by first | exact Or.inl rfl | exact Or.inr (Or.inl rfl) | exact Or.inr (Or.inr rfl))(hd:(x==("__debug__" : Str))=false:=by decide)
    (hcd:(x==("__classdict__" : Str))=false:=by decide):PE X (.Name x pos) (tVar i):=zss hN hv hd hcd
def znI:zda X (.builtin "len") (λxs H Q=>∃a kvs,xs=[V.ref a]/\H a=some (.dK kvs)/\Q (.int kvs.length) H):=by
 intro ai s σ H xs us Q I r h
 obtain⟨a,kvs,rfl,ha,q⟩:=h
 obtain⟨u,rfl,ru⟩:=zdR r
 cases ru
 exact ztV I (.inl ha) λt s' I'=>⟨.int kvs.length,H,I',⟨t,rfl⟩,q⟩
end
def iteF{A B:Prop}(h:B):if false=true then A else B:=by
 rw[if_neg tE]
 exact h
def iteT{A B:Prop}(h:A):if true=true then A else B:=by
 rw[if_pos rfl]
 exact h
def ite2{c A B:Prop} [Decidable c] (h1:c->A) (h2:¬c->B):if c then A else B:=by
 by_cases h:c
 ·rw[if_pos h]
  exact h1 h
 ·rw[if_neg h]
  exact h2 h
def Same(H H':Hp):Prop:=∀b o,H b=some o->H' b=some o
def Same.refl(H:Hp):Same H H:=λ_ _ h=>h
def Same.trans{H H1 H2:Hp}(a:Same H H1)(b:Same H1 H2):Same H H2:=λc o h=>b c o (a c o h)
theorem Same.free{H H':Hp}(e:Same H H'){l:Addr}(h:H' l=Option.none):H l=Option.none:=by
 cases q:H l with
 | none=>rfl
 | some o=>
   rw[e l o q]at h
   cases h
def Same.seq{K:am}{H H':Hp}{a:Addr}{xs:List V}(e:Same H H')(h:SqL K H a xs):SqL K H' a xs:=by
 rcases h with(h | ⟨o,h⟩) | h
 ·exact .inl (.inl (e _ _ h))
 ·exact .inl (.inr ⟨o,e _ _ h⟩)
 ·exact .inr h
section
variable{κ:Type} [DecidableEq κ]
def zrE{kvs:List (κ × V)}{k : κ}{v:V}(h:valV kvs k=some v):k∈kvs.map (·.1):=by
 have q:(kvs.any λkv=>decide (kv.1=k))=true:=by
  rw[zdl,h]
  all_goals rfl
 obtain⟨p,hp,e⟩:=List.any_eq_true.mp q
 exact mem_map.mpr ⟨p,hp,t4 e⟩
end
def zsK:bootBuiltins "abs" = some (.builtin "abs"):=by decide +kernel
def zbL:bootBuiltins "len" = some (.builtin "len"):=by decide +kernel
def zsL:bootBuiltins "min" = some (.builtin "min"):=by decide +kernel
def zaS:bootBuiltins "isinstance" = some (.builtin "isinstance"):=by decide +kernel
def zlO:bootBuiltins "int" = some (.type "int"):=by decide +kernel
def zsM:bootBuiltins "str" = some (.type "str"):=by decide +kernel
def zrF:bootBuiltins "bool" = some (.type "bool"):=by decide +kernel
def zlP:bootBuiltins "tuple" = some (.type "tuple"):=by decide +kernel
def zfG:bootBuiltins "list" = some (.type "list"):=by decide +kernel
def zrG:bootBuiltins "dict" = some (.type "dict"):=by decide +kernel
def zqz:bootBuiltins "all" = some (.builtin "all"):=by decide +kernel
structure Cal(P:Program)(w:World)(K:am)(mg:af)(bf:Heap)(x:Str)(k:Nat)(ps:List Str)(sp:Sp):Prop where
 ex:∃f fd,FnOk P w K mg bf CX0 k f fd ps sp/\zbp K fd ps []/\mg x=some (.ref f)/\W.keepIn K (.ref f)=true
structure Dfn(K:am)(mg:af)(x:Str)(st:Stmt)(ps:List Str)(f:Addr)(fd:FuncData):Prop where
 F:Fun K x x st f fd
 b:zbp K fd ps []
 m:mg x=some (.ref f)
def Dfn.cal{P:Program}{w:World}{K:am}{mg:af}{bf:Heap}{x:Str}{st:Stmt}{ps:List Str}{f:Addr}{fd:FuncData}{k:Nat}{sp:Sp}
    (D:Dfn K mg x st ps f fd) (G:FnOk P w K mg bf CX0 k f fd ps sp):Cal P w K mg bf x k ps sp:=⟨⟨f,fd,G,D.b,D.m,D.F.kp⟩⟩
section
variable{X:Cx}{k:Nat}{ps:List Str}{sp:Sp}{x:Str}{p pos:Pos}{e:Expr}{es:List Expr}{t:TA}
def zaj(C:Cal X.prog X.w X.K X.mg X.bf x k ps sp)(hr:Room k X.A)(hg:Gl X x)(ha:PA X (e::es) t)(hdb:(x==("__debug__" : Str))=false:=by decide)
    (he:starEach (e::es) X.env=(false,eval e X.env)::starEach es X.env:=by rfl) (hpl:(backTo pos (starEach es X.env)).any (·.1)=false:=by rfl):
    PE X (.Call (.Name x p) (e::es) [] pos) (zrx sp [] E0 t):=by
 obtain⟨f,fd,G,b,m,kp⟩:=C.ex
 exact znw G hr hg m kp b .nil zaD ha hdb he hpl
end
section
variable{X:Cx}
def zua(_ j:Int):Prop:=0<j/\j<1000000000000000000000000000000000000000000000000000000000000
def zcn:OpR X (binaryOp .FloorDiv) (rI zua λi j=>.int (i / j)):=opI λi j _ _ _ _ _ hc q=>by
 have h1:(0:Int)<j:=hc.1
 have h2:j<1000000000000000000000000000000000000000000000000000000000000:=hc.2
 have h3:j.natAbs<2 ^ 200:=by
  have z:(1000000000000000000000000000000000000000000000000000000000000:Nat)<=2 ^ 200:=by decide
  exact tN (by omega) z
 have h4:j.natAbs.log2<200:=(Nat.log2_lt (by omega)).mpr h3
 exact floordiv_int (by omega) (by rw[Int.fdiv_eq_ediv_of_nonneg i (by omega)];exact q) (.inl (PyProof.noPylong_of_log2 (by omega)))
def eqVs:List V->List V->Bool
 | [],[]=>true
 | x::xs,y::ys=>eqV x y&&eqVs xs ys
 | _,_=>false
def eqJ(xs ys:List V)(j:Nat):Bool:=match xs[j]?,ys[j]? with
 | some x,some y=>eqV x y
 | _,_=>false
theorem zfa:∀xs ys:List V,((List.range (min xs.length ys.length)).all (eqJ xs ys)&&(xs.length==ys.length))=eqVs xs ys
 | [],[]=>rfl
 | [],y::ys=>by simp[eqVs]
 | x::xs,[]=>by simp[eqVs]
 | x::xs,y::ys=>by
   have ih:=zfa xs ys
   have hm:min (x::xs).length (y::ys).length=min xs.length ys.length+1:=by simp[length_cons]
   have h0:eqJ (x::xs) (y::ys) 0=eqV x y:=rfl
   have h1:(eqJ (x::xs) (y::ys)) ∘ Nat.succ=eqJ xs ys:=by
    funext j
    simp[eqJ,Function.comp]
   have hl:((x::xs).length==(y::ys).length)=(xs.length==ys.length):=by
    rw[sw]
    simp
   rw[hm,sW,pN,List.all_map,h0,h1,hl,Bool.and_assoc,ih]
   rfl
def znJ{A:Around}{s:Shared}{xs ys:List V}{us vs:ah}(r:Vals xs us)(q:Vals ys vs)(fx:xs.all zcc=true)(fy:ys.all zcc=true)(j:Nat)(h1:j<us.toArray.size)(h2:j<vs.toArray.size):
    SeqAt.EqAt A s us.toArray[j] vs.toArray[j] (eqJ xs ys j):=by
 have l1:j<xs.length:=by rw[r.length];simpa using h1
 have l2:j<ys.length:=by rw[q.length];simpa using h2
 obtain⟨u,eu,ru⟩:=r.get (tm l1)
 obtain⟨v,ev,rv⟩:=q.get (tm l2)
 have e1:us.toArray[j]=u:=by
  have:=(List.getElem?_eq_some_iff.mp eu).2
  simpa using this
 have e2:vs.toArray[j]=v:=by
  have:=(List.getElem?_eq_some_iff.mp ev).2
  simpa using this
 have e3:eqJ xs ys j=eqV xs[j] ys[j]:=by
  unfold eqJ
  rw[tm l1,tm l2]
 rw[e1,e2,e3]
 exact znE ru rv (all_eq_true.mp fx _ (sJ l1)) (all_eq_true.mp fy _ (sJ l2))
def rEqT(K:am):R2:=λx y H Q=>∃a b xs ys,x=.ref a/\y=.ref b/\SqT K H a xs/\SqT K H b ys/\xs.all zcc=true/\ys.all zcc=true/\Q (.bl (eqVs xs ys)) H
def znK(hu:X.A.units<cLine):OpR X (compareOp .Eq) (rEqT X.K):=by
 intro ai s σ H x y v u Q I rx ry h
 obtain⟨a,b,xs,ys,rfl,rfl,hx,hy,fx,fy,q⟩:=h
 cases rx
 cases ry
 obtain⟨its,r,pl,hz⟩:=I.tuple hx
 obtain⟨its2,r2,pl2,hz2⟩:=I.tuple hy
 refine SeqAt.eq_tupleAt (e:=eqJ xs ys) pl pl2 hu (λj h1 h2=>znJ r r2 fx fy j h1 h2) ⟨.bl _,H,I,rfl,?_⟩
 have e1:its.toArray.size=xs.length:=by simp[r.length]
 have e2:its2.toArray.size=ys.length:=by simp[r2.length]
 rw[e1,e2,zfa]
 exact q
theorem bC:∀{xs ys:List V},xs.length≠ys.length->eqVs xs ys=false
 | [],[],h=>absurd rfl h
 | [],_::_,_=>rfl
 | _::_,[],_=>rfl
 | x::xs,y::ys,h=>by
   show(eqV x y&&eqVs xs ys)=false
   rw[bC (λe=>h (by simp[e])),Bool.and_false]
def rEqL(K:am):R2:=λx y H Q=>∃a b xs ys,x=.ref a/\y=.ref b/\SqL K H a xs/\SqL K H b ys/\xs.all zcc=true/\ys.all zcc=true/\Q (.bl (eqVs xs ys)) H
def znL(hu:X.A.units<cLine):OpR X (compareOp .Eq) (rEqL X.K):=by
 intro ai s σ H x y v u Q I rx ry h
 obtain⟨a,b,xs,ys,rfl,rfl,hx,hy,fx,fy,q⟩:=h
 cases rx
 cases ry
 obtain⟨its,r,pl,hz⟩:=I.list hx
 obtain⟨its2,r2,pl2,hz2⟩:=I.list hy
 have e1:its.toArray.size=xs.length:=by simp[r.length]
 have e2:its2.toArray.size=ys.length:=by simp[r2.length]
 by_cases hl:xs.length=ys.length
 ·refine SeqAt.eq_listAt (e:=eqJ xs ys) pl.isList pl2.isList (by omega) hu (λj h1 h2=>znJ r r2 fx fy j h1 h2) ⟨.bl _,H,I,rfl,?_⟩
  have z:=zfa xs ys
  rw[<-hl,Nat.min_self]at z
  rw[e1]
  have z':(List.range xs.length).all (eqJ xs ys)=eqVs xs ys:=by
   rw[<-z]
   simp
  rw[z']
  exact q
 ·refine SeqAt.eq_list_lengthsAt pl.isList pl2.isList ?_ hu ⟨.bl _,H,I,rfl,?_⟩
  ·rw[e1,e2]
   simpa using hl
  ·rw[bC hl]at q
   exact q
end
def zbq{H:Hp}{p:Addr}(h:H p=none)(o:HO):Same H (upd H p o):=λb u q=>by rw[zau (zaA q h)];exact q
section
variable{X:Cx}{es:List Expr}{t:TA}{pos:Pos}
def zub(t:TA):TE:=λσ H Q=>t σ H λxs H1=>xs.length<=sizeLine/\∀p H2,Same H1 H2->H1 p=none->H2 p=some (.tup xs)->Q (.ref p) H2
def zuc(t:TA):TE:=λσ H Q=>t σ H λxs H1=>xs.length<=sizeLine/\∀p H2,Same H1 H2->H1 p=none->H2 p=some (.lst xs)->Q (.ref p) H2
def zaM {x1} (h:PA X es t):PE X (.Tuple es x1 pos) (zub t):=by
 with_unfolding_all
  intro ai s σ H Q I hq
  refine wpAny_Tuple_spliced (thn (h pos ai s σ H _ I hq) λus s1 ⟨xs,H1,I1,r,z,q⟩=>⟨by rw[<-r.length];exact z,?_⟩)
  have hf:H1 s1.heap.objs.size=none:=I1.hok.fresh (tD _)
  refine⟨.ref s1.heap.objs.size,upd H1 s1.heap.objs.size (.tup xs),I1.laid (t':=s1.toks) (λb u e=>tu _ e) (tD _) ?_,rfl,q _ _ (zbq hf _) hf zan⟩
  exact⟨z,us,r,⟨_,tH _ rfl,rfl,_,rfl⟩⟩
def zaO(h:PA X es t):PE X (.List es pos) (zuc t):=by
 with_unfolding_all
  intro ai s σ H Q I hq
  refine wpAny_List_spliced (thn (h pos ai s σ H _ I hq) λus s1 ⟨xs,H1,I1,r,z,q⟩=>⟨by rw[<-r.length];exact z,?_⟩)
  have hf:H1 s1.heap.objs.size=none:=I1.hok.fresh (tD _)
  refine⟨.ref s1.heap.objs.size,upd H1 s1.heap.objs.size (.lst xs),I1.laid (t':=s1.toks) (λb u e=>tu _ e) (tD _) ?_,rfl,q _ _ (zbq hf _) hf zan⟩
  exact⟨z,us,0,r,tH _ rfl⟩
end
section
variable{X:Cx}{st:Stmt}{rest:List Stmt}{t u:TS}
def tMid(t u:TS):TS:=λD σ H=>∃M:St->Hp->Prop,t { D with nx:=M } σ H/\∀ σ' H',M σ' H'->u D σ' H'
theorem zhp(h1:PS X st t)(h2:PSs X rest u):PSs X (st::rest) (tMid t u):=by
 with_unfolding_all
  intro ai s σ H D I h
  obtain⟨M,h,hm⟩:=h
  refine pD (thn (h1 ai s σ H { D with nx:=M } I h) λf s1 q=>?_)
  cases f with
  | next=>
    obtain⟨σ',H',I',q⟩:=q
    exact h2 ai s1 σ' H' D I' (hm σ' H' q)
  | ret v=>exact q
  | brk=>exact q
  | cont=>exact q
end
def sz(n:Nat)(h:n<=1000):n<=sizeLine:=qV (zaC h)
def dint(a b:Int):decide (V.int a=V.int b)=decide (a=b):=by
 rw[sw]
 simp
def zsN{a b:Int}(h:(!decide (V.int a=V.int b))=true):a≠b:=by
 rw[dint]at h
 simpa using h
def znM(K:am):Sp:=λvs H Q _=>∃(a:Addr)(ns:List Int),vs=[.ref a]/\SqL K H a (ns.map V.int)/\ns.length<=63/\∀H',Q (.bl true) H'
section
variable{X:Cx}
def zsO(trs:List (TE × TE)):TE:=λσ H Q=>∀p H1,Same H H1->H p=none->H1 p=some (.dK [])->znC trs σ H1 λps H2=>H2 p=some (.dK [])/\∃kvs:List (Key × V),ps=kvs.map (λkv=>(kV kv.1,kv.2))/\kvs.length<=15/\
 ∀H3,(∀b o,b≠p->H2 b=some o->H3 b=some o)->H3 p=some (.dK (zhl [] kvs))->Q (.ref p) H3
def zpD{pos:Pos}{keys:List (Option Expr)}{values:List Expr}{trs:List (TE × TE)}(h:PPs X pos keys values trs)(hall:keys.all (·.isSome)=true)(hl:keys.length=values.length)(h0:keys≠[])
    (h15:keys.length<=15):PE X (.Dict keys values pos) (zsO trs):=by
 with_unfolding_all
  intro ai s σ H Q I q
  have hn:=I.hok.fresh (tD s.heap.objs.size)
  have I1:=I.laid (a:=s.heap.objs.size) (o:=.dK []) (h':=s.heap.push { cls:=.type "dict",data:=.dict #[] }) (t':=s.toks) (λ_ _ q=>tu _ q) (tD _) (zlM s.heap I.big)
  refine wpAny_Dict_walk (knd:=zaG X.prog X.w) hall hl h0 h15 (thn (h ai _ σ _ _ I1 (q _ _ (zbq hn _) hn zan)) λws s2 ⟨ps,H2,I2,rel,e,kvs,ep,lk,q2⟩=>?_)
  subst ep
  obtain⟨rs,c,rk⟩:=ziJ (P:=X.prog) (w:=X.w) rel
  obtain⟨z,hd,vs0,r0,dd⟩:=zsD I2.hok e
  cases r0
  refine⟨rs,c,dd,λh' dd' hs=>⟨.ref s.heap.objs.size,_,?_,rfl,q2 _ (λb o hb eb=>by rw[zau hb];exact eb) zan⟩⟩
  have hz:(zhl [] kvs).length<=sizeLine:=by
   have h1:=ee kvs []
   rw[length_nil]at h1
   rw[sizeLine_eq];omega
  have he:∃q,h'.get? s.heap.objs.size=some q:=let ⟨q,_,_,hq,_⟩:=dd';⟨q,hq⟩
  exact zkU I2 (by rw[e];exact True.intro) hs he (znA hz hd (rk.merge .nil) dd')
end
def iteD{c A B:Prop} [Decidable c] (hc:c) (h:A):if decide c=true then A else B:=by
 rw[decide_eq_true hc]
 exact iteT h
def zfH{c A B:Prop} [Decidable c] (hc:¬c) (h:B):if decide c=true then A else B:=by
 rw[tL hc]
 exact iteF h
end L2
set_option maxHeartbeats 4000000
namespace PySem
def zfI(env:Env)(x:Str × NameKind)(cs:List (Str × Addr)):Sem (ForInStep (List (Str × Addr))):=
 if(x.2==NameKind.free)=true then do let c <-cellOf env x.1;pure (ForInStep.yield ((x.1,c)::cs))else pure (ForInStep.yield cs)
def zqA(scope:Scope)(env:Env):closureFor scope env=(forIn scope.names ([]:List (Str × Addr)) (zfI env) >>= λcs=>pure cs):=by
 unfold closureFor
 rfl
theorem zlQ{env:Env}:∀(l:List (Str × NameKind))(acc:List (Str × Addr)),(∀y∈l,y.2=.free->∃c,env.cells.lookup y.1=some c)->(∀x c,acc.lookup x=some c->env.cells.lookup x=some c)->
  ∃cl,(forIn l acc (zfI env):Sem _)=pure cl/\(∀x c,cl.lookup x=some c->env.cells.lookup x=some c)/\(∀x,(x,NameKind.free)∈l->∃c,cl.lookup x=some c)/\(∀x c,acc.lookup x=some c->∃c,cl.lookup x=some c)/\(∀x c,cl.lookup x=some c->(x,NameKind.free)∈l\/∃c',acc.lookup x=some c')
 | [],acc,_,ha=>⟨acc,rfl,ha,λx h=>(by cases h),λx c h=>⟨c,h⟩,λx c h=>.inr ⟨c,h⟩⟩
 | (n,k)::l,acc,h,ha=>by
   by_cases hk:k=.free
   ·subst hk
    obtain⟨c,hc⟩:=h (n,.free) tP rfl
    have ha':∀x c',((n,c)::acc).lookup x=some c'->env.cells.lookup x=some c':=λx c' e=>by
     rw[lookup_cons]at e
     by_cases q:x=n
     ·subst q
      simp at e
      rw[hc,e]
     ·have:(x==n)=false:=by simpa using q
      rw[this]at e
      exact ha x c' e
    obtain⟨cl,e1,e2,e3,e4,e5⟩:=zlQ l ((n,c)::acc) (λy hy=>h y (tO _ hy)) ha'
    refine⟨cl,?_,e2,λx hx=>?_,λx c' hx=>?_,λx c' hx=>?_⟩
    ·rw[List.forIn_cons]
     have:zfI env (n,.free) acc=pure (ForInStep.yield ((n,c)::acc)):=by
      simp only[zfI,cellOf,hc]
      rfl
     rw[this,pure_bind]
     exact e1
    ·rcases mem_cons.mp hx with q | q
     ·cases q
      exact e4 n c (by simp)
     ·exact e3 x q
    ·by_cases q:x=n
     ·subst q
      exact e4 x c (by simp)
     ·have:(x==n)=false:=by simpa using q
      exact e4 x c' (by rw[lookup_cons,this];exact hx)
    ·rcases e5 x c' hx with z | ⟨d,z⟩
     ·exact .inl (tO _ z)
     ·by_cases q:x=n
      ·subst q
       exact .inl tP
      ·have:(x==n)=false:=by simpa using q
       rw[lookup_cons,this]at z
       exact .inr ⟨d,z⟩
   ·obtain⟨cl,e1,e2,e3,e4,e5⟩:=zlQ l acc (λy hy=>h y (tO _ hy)) ha
    refine⟨cl,?_,e2,λx hx=>?_,e4,λx c' hx=>(e5 x c' hx).imp (tO _) id⟩
    ·rw[List.forIn_cons]
     have:zfI env (n,k) acc=pure (ForInStep.yield acc):=by
      have z:(k==NameKind.free)=false:=by simpa using hk
      simp only[zfI,z]
      rfl
     rw[this,pure_bind]
     exact e1
    ·rcases mem_cons.mp hx with q | q
     ·cases q
      exact absurd rfl hk
     ·exact e3 x q
def ziL{scope:Scope}{env:Env}(h:∀y∈scope.names,y.2=.free->∃c,env.cells.lookup y.1=some c):
    ∃cl,closureFor scope env=pure cl/\(∀x c,cl.lookup x=some c->env.cells.lookup x=some c)/\(∀x,(x,NameKind.free)∈scope.names->∃c,cl.lookup x=some c):=by
 obtain⟨cl,e1,e2,e3,_⟩:=zlQ scope.names [] h (λx c e=>by simp at e)
 exact⟨cl,by rw[zqA,e1];rfl,e2,e3⟩
def zkY{scope:Scope}{env:Env}(h:∀y∈scope.names,y.2=.free->∃c,env.cells.lookup y.1=some c):
    ∃cl,closureFor scope env=pure cl/\(∀x c,cl.lookup x=some c->env.cells.lookup x=some c)/\(∀x,(x,NameKind.free)∈scope.names->∃c,cl.lookup x=some c)/\(∀x c,cl.lookup x=some c->(x,NameKind.free)∈scope.names):=by
 obtain⟨cl,e1,e2,e3,_,e5⟩:=zlQ scope.names [] h (λx c e=>by simp at e)
 exact⟨cl,by rw[zqA,e1];rfl,e2,e3,λx c e=>(e5 x c e).elim id λ⟨_,z⟩=>by simp at z⟩
end PySem
namespace L2
open PySem PySem.Spec PyProof.Rows
abbrev zaQ(X:Cx)(N:List Str)(scope:Scope)(cl:List (Str × Addr))(C:Addr)(s₀:Shared)(H₀:Hp)(ex:List Addr):Cx where
 prog:=X.prog
 w:=X.w
 K:=X.K
 mg:=X.mg
 bf:=X.bf
 A:=X.A
 N:=N
 s₀:=s₀
 H₀:=H₀
 env:=compEnvC scope cl C X.env
 outer:=X.stack
 stack:=X.stack
 ex:=ex
 fn:=λ_=>false
 calm:=X.calm
 pn:=[]
 xe:=λ_ _=>False
def zhq(Y:Cx)(ifs:List Expr)(t:TT):Prop:=
 ∀(ai:ae)(s:Shared)(σ:St)(H:Hp)(Q:Bool->Hp->Prop),Inv Y ai σ H s->t σ H Q->
  wpAny (model Y.prog Y.w) Y.A (forIn ifs true λc r=>if r=true then do let ok <-isTrue c Y.env (eval c Y.env);pure (ForInStep.yield ok)else pure (ForInStep.yield r)) (TP Y ai σ Q) Y.xe s
def tYes:TT:=λ_ H Q=>Q true H
def zbG{Y:Cx}:zhq Y [] tYes:=λ_ _ _ H _ I h=>wpAny_tests_nil ⟨H,I,h⟩
theorem zdb{Y:Cx}{c:Expr}{t:TT}(h:PT Y c t):zhq Y [c] t:=by
 with_unfolding_all
  exact λai s σ H Q I q=>wpAny_tests_one (h ai s σ H Q I q)
def caps(σ:St)(js:List Nat):St:=js.map λj=>(σ[j]?).join
def zep(J:It)(js:List Nat)(tc:TT)(te:TE)(σ:St)(H1:Hp)(Q:VK):Prop:=
 ∀D H2,Same H1 H2->H1 D=none->H2 D=some (.lst [])->∃W:Nat->Nat->List V->Hp->Prop,(∃m,W 0 m [] H2)/\∀i m acc H3,W i m acc H3->
  H3 D=some (.lst acc)/\acc.length<sizeLine/\((J.stop i H3/\Q (.ref D) H3)\/(J.go i H3/\∀x H4,J.yld i H3 x H4->
   tc (some x::caps σ js) H4 λb H5=>if b=true then te (some x::caps σ js) H5 λv H6=>H6 D=some (.lst acc)/\
       ∀H7,(∀b o,b≠D->H6 b=some o->H7 b=some o)->H7 D=some (.lst (acc++[v]))->∃m',m'<m/\W (i+1) m' (acc++[v]) H7
    else ∃m',m'<m/\W (i+1) m' acc H5))
def zrH(wi:TI)(js:List Nat)(tc:TT)(te:TE):TE:=λσ H Q=>wi σ H λJ H1=>zep J js tc te σ H1 Q
structure CompScope(X:Cx)(scope:Scope)(x:Str)(N:List Str)(js:List Nat):Prop where
 kind:scope.kind=.function
 nocell:∀y∈scope.names,y.2≠.cell
 loc:∀y∈scope.names,y.2=.local->scope.names.lookup y.1=some .local
 own:scope.names.lookup x=some .local
 free:∀y∈scope.names,y.2=.free->X.env.kindOf y.1=some .cell
 nd:N.Nodup
 head:N[0]?=some x
 len:N.length=js.length+1
 apart:∀y,scope.names.lookup y=some .local->(y,NameKind.free)∉scope.names
 cap:∀(k j:Nat)(y:Str),N[k+1]?=some y->js[k]?=some j->X.N[j]?=some y/\Vis X.env.scope y/\X.env.kindOf y=some .cell/\(y,NameKind.free)∈scope.names
def CompScope.of{X:Cx}{scope:Scope}{x:Str}{N:List Str}{js:List Nat}(c1:scope.kind=.function)(c2:(scope.names.all λy=>y.2 != .cell)=true)
    (c3:(scope.names.all λy=>y.2 != .local||scope.names.lookup y.1==some .local)=true) (c4:scope.names.lookup x=some .local) (c5:(scope.names.all λy=>y.2 != .free||X.env.kindOf y.1==some .cell)=true)
    (nd:N.Nodup) (hd:N[0]?=some x) (len:N.length=js.length+1) (c6:(scope.names.all λy=>y.2 != .free||scope.names.lookup y.1 != some .local)=true)
    (c7:(((N.drop 1).zip js).all λp=>X.N[p.2]?==some p.1&&X.env.scope.names.lookup p.1==some .cell&&scope.names.contains (p.1,NameKind.free))=true):CompScope X scope x N js where
 kind:=c1
 nocell:=λy hy e=>by
  have:=all_eq_true.mp c2 y hy
  rw[e]at this
  exact absurd this (by decide)
 loc:=λy hy e=>by
  have:=all_eq_true.mp c3 y hy
  rw[e]at this
  simpa using this
 own:=c4
 free:=λy hy e=>by
  have:=all_eq_true.mp c5 y hy
  rw[e]at this
  simpa using this
 nd:=nd
 head:=hd
 len:=len
 apart:=λy hl hm=>by
  have:=all_eq_true.mp c6 _ hm
  rw[hl]at this
  simp at this
 cap:=λk j y h1 h2=>by
  have hz:((N.drop 1).zip js)[k]?=some (y,j):=by
   rw[rS]
   exact⟨by rw[List.getElem?_drop,Nat.add_comm];exact h1,h2⟩
  have:=all_eq_true.mp c7 _ (tz hz)
  simp only[Bool.and_eq_true,beq_iff_eq]at this
  obtain⟨⟨a,b⟩,c⟩:=this
  exact⟨a,.inr (.inl b),b,by simpa using c⟩
def zcM{scope:Scope}{env:Env}{y:Str}{k:NameKind}(h:(relabel scope env).names.lookup y=some k)(hk:k=.cell\/k=.free)(nocell:∀z∈scope.names,z.2≠.cell):(y,NameKind.free)∈scope.names:=by
 have hm:=sg h
 obtain⟨⟨n,k'⟩,hn,e⟩:=mem_map.mp hm
 dsimp only at e
 by_cases c:(k'==NameKind.free&&env.scope.kind==.function&&env.kindOf n==some .cell)=true
 ·rw[if_pos c]at e
  have ek:k'=.free:=by
   simp only[Bool.and_eq_true,beq_iff_eq]at c
   exact c.1.1
  cases e
  rw[<-ek]
  exact hn
 ·rw[if_neg c]at e
  cases e
  rcases hk with rfl | rfl
  ·exact absurd rfl (nocell _ hn)
  ·exact hn
def aZ(J:It)(nk:Nat)(g:TG)(js:List Nat)(tc:TT)(te:TE)(σ:St)(H1:Hp)(Q:VK):Prop:=
 ∀D H2,Same H1 H2->H1 D=none->H2 D=some (.lst [])->∃W:Nat->Nat->List V->Hp->Prop,(∃m,W 0 m [] H2)/\∀i m acc H3,W i m acc H3->
  H3 D=some (.lst acc)/\acc.length<sizeLine/\((J.stop i H3/\Q (.ref D) H3)\/(J.go i H3/\∀os:St,os.length=nk->∀x H4,J.yld i H3 x H4->
   g x (os++caps σ js) H4 λσ5 H5=>∃o5:St,o5.length=nk /\ σ5=o5++caps σ js/\
   tc (o5++caps σ js) H5 λb H5=>if b=true then te (o5++caps σ js) H5 λv H6=>H6 D=some (.lst acc)/\
       ∀H7,(∀b o,b≠D->H6 b=some o->H7 b=some o)->H7 D=some (.lst (acc++[v]))->∃m',m'<m/\W (i+1) m' (acc++[v]) H7
    else ∃m',m'<m/\W (i+1) m' acc H5))
def zsP(wi:TI)(nk:Nat)(g:TG)(js:List Nat)(tc:TT)(te:TE):TE:=λσ H Q=>wi σ H λJ H1=>aZ J nk g js tc te σ H1 Q
structure CompScopeN(X:Cx)(scope:Scope)(nk:Nat)(N:List Str)(js:List Nat):Prop where
 kind:scope.kind=.function
 nocell:∀y∈scope.names,y.2≠.cell
 loc:∀y∈scope.names,y.2=.local->scope.names.lookup y.1=some .local
 own:∀(i:Nat)(x:Str),N[i]?=some x->i<nk->scope.names.lookup x=some .local
 free:∀y∈scope.names,y.2=.free->X.env.kindOf y.1=some .cell
 nd:N.Nodup
 len:N.length=js.length+nk
 apart:∀y,scope.names.lookup y=some .local->(y,NameKind.free)∉scope.names
 cap:∀(k j:Nat)(y:Str),N[k+nk]?=some y->js[k]?=some j->X.N[j]?=some y/\Vis X.env.scope y/\X.env.kindOf y=some .cell/\(y,NameKind.free)∈scope.names
def CompScope.n{X:Cx}{scope:Scope}{x:Str}{N:List Str}{js:List Nat}(S:CompScope X scope x N js):CompScopeN X scope 1 N js:=⟨S.kind,S.nocell,S.loc,λi y e h=>by
 have:i=0:=by omega
 subst this
 rw[S.head]at e
 cases e
 exact S.own,S.free,S.nd,S.len,S.apart,S.cap⟩
def zmE{X:Cx}{ai:ae}{s:Shared}{σ:St}{H:Hp}{Q:VK}{use:Option (Value->Sem Unit)}{QQ:ac}{iter elt tg:Expr}{nk:Nat}{g:TG}{ifs:List Expr}{scope:Scope}{pos pos':Pos}{wi:TI}{N:List Str}{js:List Nat}{tc:TT}{te:TE}{R:It->Hp->Prop}
    (hc:X.calm=true) (S:CompScopeN X scope nk N js) (hg:∀cl C s₀ H₀ ex,(∀(i:Nat)(x:Str)(px:Pos),N[i]?=some x->i<nk->PG (zaQ X N scope cl C s₀ H₀ ex) (.Name x px) (zhf i))->PG (zaQ X N scope cl C s₀ H₀ ex) tg g) (hi:PI X tg iter wi)
    (ht:∀cl C s₀ H₀ ex,zhq (zaQ X N scope cl C s₀ H₀ ex) ifs tc) (he:∀cl C s₀ H₀ ex,PE (zaQ X N scope cl C s₀ H₀ ex) elt te)
    (hs:∀x,foldedSetIterable iter X.env x=pure x) (I:Inv X ai σ H s) (h:wi σ H R) (hR:∀J H1,R J H1->aZ J nk g js tc te σ H1 Q)
    (fin:∀{cl:List (Str × Addr)}{C D:Addr}{s2 s5:Shared}{H2 H4:Hp}{fp:List Addr}{o:St},o.length=nk->C=s2.heap.objs.size+1->D=s2.heap.objs.size->(∀b,b<s2.heap.objs.size->b≠C/\b≠D)->Inv X ai σ H2 s2->(∀b∈fp,FpOk X ai H2 b)->Inv (zaQ X N scope cl C s2 H2 fp) [] (o++caps σ js) H4 s5->Q (.ref D) H4->∀a,compPost (model X.prog X.w) X.A X.xe use QQ (.ref D) C (.ok a) s5):
    wpAny (model X.prog X.w) X.A (comprehension (.ListComp elt [⟨tg,iter,ifs,0⟩] scope pos) scope X.env pos' (newList []) false (eval iter X.env) use) QQ X.xe s:=by
 with_unfolding_all
  have hcells:∀y∈scope.names,y.2=.free->∃c,X.env.cells.lookup y.1=some c:=λy hy hf=>I.ok.has y.1 (.inl (S.free y hy hf))
  obtain⟨cl,ecl,cl1,cl2⟩:=ziL hcells
  refine wpAny_comprehension_free (use:=use) rfl hs ecl S.kind S.loc (thn (hi ai s σ H _ I h) λv s1 h1=>thn h1 λitv s2 h2=>?_)
  obtain⟨it,fp,tn,J,H2,e,I2,T,st2,f2,q2⟩:=h2
  replace q2:=hR _ _ q2
  subst e
  refine pe (qI S.nocell (by intro y hy;simp at hy) (λh₁ hns₁ hsb₁=>?_) S.kind)
  dsimp only at hns₁ hsb₁ ⊢
  generalize hP2:s2.heap.push { cls:=.type "list",dict:=none,data:=.seq ([]:ah).toArray }=P2 at hns₁ hsb₁ ⊢
  have hC:P2.objs.size=s2.heap.objs.size+1:=by rw[<-hP2,qy]
  have below:∀b,b<s2.heap.objs.size->b≠P2.objs.size/\b≠s2.heap.objs.size:=λb hb=>⟨by rw[hC];exact tJ (qu hb),tJ hb⟩
  have hDC:s2.heap.objs.size≠P2.objs.size:=by rw[hC];exact tJ (ss _)
  have old:∀b o,s2.heap.get? b=some o->h₁.get? b=some o:=λb o e=>hsb₁.extBut b o (below b (tG e)).1 (tu _ (hP2▸tu _ e))
  have hD:h₁.get? s2.heap.objs.size=some { cls:=.type "list",dict:=none,data:=.seq ([]:ah).toArray }:=hsb₁.extBut _ _ hDC (tu _ (hP2▸tH _ rfl))
  have hDn:H2 s2.heap.objs.size=none:=I2.hok.fresh (tD _)
  have hCn:H2 P2.objs.size=none:=I2.hok.fresh (by rw[hC];exact sj _)
  obtain⟨W,⟨m0,w0⟩,turn⟩:=q2 s2.heap.objs.size _ (zbq hDn (.lst [])) hDn zan
  have fpl:∀b∈fp,b<s2.heap.objs.size:=λb hb=>by
   obtain⟨o,e,_⟩:=T.obj 0 _ st2 b hb
   exact tG e
  have yok:(zaQ X N scope cl P2.objs.size s2 H2 fp).Ok:=
   { mod:=I2.ok.mod
     kind:=S.kind
     glob:=I2.ok.glob
     blt:=I2.ok.blt
     above:=by show s2.heap.objs.size<=P2.objs.size;rw[hC];exact sj _
     inj:=λy z c h1 h2=>I2.ok.inj y z c (cl1 y c h1) (cl1 z c h2)
     has:=λy hy=>by
      have hy':(y,NameKind.free)∈scope.names:=by
       rcases hy with hy | hy
       ·exact zcM (env:=X.env) hy (.inl rfl) S.nocell
       ·exact zcM (env:=X.env) hy (.inr rfl) S.nocell
      exact cl2 y hy'
     cab:=λy c hf _=>by cases hf
     hd:=λhc'=>I2.ok.hd hc'
     frames:=I2.ok.frames
     stk:=.inl rfl
     exf:=λb hb=>⟨(below b (fpl b hb)).1,λy c e=>(f2 b hb).2.2.2.2.1 y c (cl1 y c e)⟩
     bs:=I2.bs
     bsz:=tM I2.ok.bsz I2.sz
     noex:=λb o e hb=>by
      rcases(f2 b hb).2.2.2.1 with z | z
      ·exact I2.ok.noex b o e z
      ·exact absurd (tN (tN (tG e) I2.ok.bsz) z) (rM _)
     exfs:=λb hb hf=>by
      rcases mem_cons.mp (I2.stkSub b hf)with z | z
      ·exact(f2 b hb).2.1 z
      ·exact(f2 b hb).2.2.1 z
     funs:=I2.stack
     frf:=I2.stkFree }
  have hokD:HOk X.prog X.w (upd H2 s2.heap.objs.size (.lst [])) h₁:=I2.hok.laid old (tD _) ⟨tU _,[],0,.nil,hD⟩
  have I3:Inv (zaQ X N scope cl P2.objs.size s2 H2 fp) [] (List.replicate nk none++caps σ js) (upd H2 s2.heap.objs.size (.lst [])) { s2 with heap:=h₁,toks:=s2.toks+([]:List (Str × Value)).length }:=
   { ok:=yok
     os:=rfl
     bare:=I2.bare
     bf:=Un.laid old (tD _) hDn
     loc:=by
      refine⟨_,hns₁,λi y v e1 e2 e3=>?_⟩
      by_cases ik:i<nk
      ·rw[si (by simpa using ik),qd,if_pos ik]at e2
       cases e2
      ·obtain⟨k,rfl⟩:∃k,i=k+nk:=⟨i-nk,by omega⟩
       have e2':(caps σ js)[k]?=some (some v):=by
        rw[t7 (by simp)]at e2
        simpa using e2
       unfold caps at e2'
       rw[getElem?_map]at e2'
       cases ej:js[k]? with
       | none=>rw[ej]at e2';cases e2'
       | some j=>
         rw[ej]at e2'
         have e4:(σ[j]?).join=some v:=tF e2'
         have e5 : σ[j]?=some (some v):=by
          cases eσ : σ[j]? with
          | none=>rw[eσ]at e4;cases e4
          | some o=>rw[eσ]at e4;exact tS some e4
         obtain⟨n1,n2,n3,n4⟩:=S.cap k j y e1 ej
         obtain⟨mX,_,lX⟩:=I2.loc
         obtain⟨u,ru,lk⟩:=lX j y v n1 e5 n2
         refine⟨u,ru,?_⟩
         rcases lk with⟨lk,_⟩ | ⟨_,c,ec,cell⟩
         ·rw[n3]at lk;cases lk
         ·obtain⟨c',ec'⟩:=cl2 y n4
          have:c'=c:=tF ((cl1 y c' ec').symm.trans ec)
          subst this
          obtain⟨o,ho,hd⟩:=cell
          refine .inr ⟨?_,c',ec',⟨o,old _ _ ho,hd⟩⟩
          have e3':(relabel scope X.env).names.lookup y=some .local\/(relabel scope X.env).names.lookup y=some .cell\/(relabel scope X.env).names.lookup y=some .free:=e3
          rcases e3' with z | z | z
          ·exfalso
           have hm:=sg z
           obtain⟨⟨n,k'⟩,hn,e⟩:=mem_map.mp hm
           dsimp only at e
           by_cases cc:(k'==NameKind.free&&X.env.scope.kind==.function&&X.env.kindOf n==some .cell)=true
           ·rw[if_pos cc]at e
            cases e
           ·rw[if_neg cc]at e
            cases e
            have l1:=S.loc _ hn rfl
            have l2:=sT (env:=X.env) l1
            have f1:=S.free _ n4 rfl
            exact S.apart y l1 n4
          ·exact .inl z
          ·exact .inr z
     cell:=λy c e=>by
      obtain⟨v,o,ho,hd⟩:=I2.cell y c (cl1 y c e)
      exact⟨v,o,old _ _ ho,hd⟩
     free:=by show upd H2 s2.heap.objs.size (.lst []) P2.objs.size=none;rw[zau (Ne.symm hDC)];exact hCn
     freeC:=λy c e=>by
      obtain⟨v,o,ho,hd⟩:=I2.cell y c (cl1 y c e)
      rw[zau (below c (tG ho)).2]
      exact I2.freeC y c (cl1 y c e)
     pin:=λp hp=>by simp at hp
     hok:=hokD
     len:=by show(List.replicate nk none++caps σ js).length=N.length;rw[S.len];simp[caps,Nat.add_comm] }
  have st3:tn 0 h₁:=T.keep 0 _ _ st2 λb _ o e=>old b o e
  have fr3:∀b∈fp,(upd H2 s2.heap.objs.size (.lst [])) b=none:=λb hb=>by
   rw[zau (below b (fpl b hb)).2]
   exact(f2 b hb).1
  have stat:∀{H':Hp},(∀b∈fp,H' b=none)->∀b∈fp,FpOk (zaQ X N scope cl P2.objs.size s2 H2 fp) [] H' b:=λhn b hb=>
   ⟨hn b hb,(below b (fpl b hb)).1,yok.exfs b hb,.inl hb,λy c e=>(f2 b hb).2.2.2.2.1 y c (cl1 y c e),λp hp=>by simp at hp⟩
  have pgn:PG (zaQ X N scope cl P2.objs.size s2 H2 fp) tg g:=hg cl _ s2 H2 fp λi x px e1 e2=>zaH S.nd e1 (.inl (sT (S.own i x e1 e2))) (.inr (sT (S.own i x e1 e2)))
  have loop:∀s₃:Shared,s₃ = { s2 with heap:=h₁,toks:=s2.toks+([]:List (Str × Value)).length }->
    codeAny (model X.prog X.w) X.A (.compLoop (.ListComp elt [⟨tg,iter,ifs,0⟩] scope pos) 0 (.ref it) (.ref s2.heap.objs.size) (compEnvC scope cl P2.objs.size X.env))
     (compPost (model X.prog X.w) X.A X.xe use QQ (.ref s2.heap.objs.size) P2.objs.size) s₃:=by
   rintro s₃ rfl
   refine codeAny_loop rfl (λn s'=>∃i,∃o:St,∃acc H',o.length=nk/\Inv (zaQ X N scope cl P2.objs.size s2 H2 fp) [] (o++caps σ js) H' s'/\tn i s'.heap/\(∀b∈fp,H' b=none)/\W i n acc H') ?_ m0 ⟨0,List.replicate nk none,[],_,qF,I3,st3,fr3,w0⟩
   rintro n s4 ⟨i,o,acc,H4,ol,I4,st4,fr4,w4⟩
   show wpAny _ X.A ((compTurn (.ListComp elt [⟨tg,iter,ifs,0⟩] scope pos) 0 (.ref it) (.ref s2.heap.objs.size) (compEnvC scope cl P2.objs.size X.env)).onRaise (λx=>do noteFrame x (compEnvC scope cl P2.objs.size X.env);theTreesLotGoes x)) _ _ s4
   refine wpAny_noted ?_
   rw[compTurn_list]
   refine tw (rO (tw ?_))
   obtain⟨hD4,hz4,alt⟩:=turn i n acc H4 w4
   rcases alt with⟨stop,qn⟩ | ⟨go,step⟩
   ·refine thn (T.done (zaQ X N scope cl P2.objs.size s2 H2 fp) rfl rfl rfl hc i [] s4 _ H4 _ I4 (stat fr4) st4 stop) λr s5 ⟨hr,I5⟩=>?_
    subst hr
    refine tI ?_
    exact fin ol hC rfl below I2 f2 I5 qn _
   ·refine thn (T.item (zaQ X N scope cl P2.objs.size s2 H2 fp) rfl rfl rfl hc i [] s4 _ H4 _ I4 (stat fr4) st4 go) λr s5 ⟨u,hr,h5⟩=>?_
    subst hr
    refine tw (thn h5 λ_ s6 ⟨y,H6,I6,r6,y6,st6,fr6⟩=>?_)
    have I6':=I6.pinned (stat fr6) (T.obj _ _ st6)
    refine tw (so (pgn _ s6 (o++caps σ js) H6 y u _ I6' r6 (step o ol y _ y6)) (λ_ s7 ⟨σ7,H7,I7,o7,l7,e7,q7⟩=>?_) λ_ _ z=>z.elim)
    subst e7
    have back:∀{s9:Shared}{H9:Hp}{acc9:List V}{m9:Nat},Inv (zaQ X N scope cl P2.objs.size s2 H2 fp) ([]++ziE fp s6.heap) (o7++caps σ js) H9 s9->m9<n->W (i+1) m9 acc9 H9->
      ∃m,m<n/\∃i,∃o:St,∃acc H',o.length=nk/\Inv (zaQ X N scope cl P2.objs.size s2 H2 fp) [] (o++caps σ js) H' s9/\tn i s9.heap/\(∀b∈fp,H' b=none)/\W i m acc H':=λ{s9 H9 acc9 m9} I9 hm w9=>by
     refine⟨m9,hm,i+1,o7,acc9,H9,l7,I9.unpinned,T.keep _ _ _ st6 λb hb o e=>(I9.pin (b,o) (tR _ (tR _ (zcq hb e)))).1,λb hb=>?_,w9⟩
     obtain⟨o,e,d⟩:=T.obj _ _ st6 b hb
     exact(I9.pin (b,o) (tR _ (tR _ (zcq hb e)))).2.1
    refine tw (so (ht cl _ s2 H2 fp _ s7 _ _ _ I7 q7) (λok s8 ⟨H8,I8,q8⟩=>?_) λ_ _ z=>z.elim)
    cases ok with
    | false=>
      obtain⟨m9,hm,w9⟩:=q8
      exact tI ⟨rfl,back I8 hm w9⟩
    | true=>
      refine tw (tw (so (he cl _ s2 H2 fp _ s8 _ _ _ I8 q8) (λxv s9 ⟨v9,H9,I9,r9,hD9,q9⟩=>?_) λ_ _ z=>z.elim))
      refine tw (so (zhn (X:=zaQ X N scope cl P2.objs.size s2 H2 fp) _ s9 _ H9 (.ref s2.heap.objs.size) [v9] (.ref s2.heap.objs.size) [xv] (λ_ H'=>H'=upd H9 s2.heap.objs.size (.lst (acc++[v9]))) I9 rfl (.cons r9 .nil) ⟨_,acc,v9,rfl,rfl,hD9,hz4,rfl⟩) (λ_ s10 ⟨v10,H10,I10,_,e10⟩=>?_) λ_ _ z=>z.elim)
      subst e10
      obtain⟨m9,hm,w9⟩:=q9 _ (λb o hb e=>by rw[zau hb];exact e) zan
      exact tI (tI ⟨rfl,back I10 hm w9⟩)
  exact codeAny_compStart_list (loop _ rfl) (T.self _ 0 _ _ _ st3 (loop _ rfl))
theorem zjY{X:Cx}{ai:ae}{s:Shared}{σ:St}{H:Hp}{Q:VK}{use:Option (Value->Sem Unit)}{QQ:ac}{iter elt:Expr}{x:Str}{px:Pos}{ifs:List Expr}{scope:Scope}{pos pos':Pos}{wi:TI}{N:List Str}{js:List Nat}{tc:TT}{te:TE}
  (hc:X.calm=true) (S:CompScope X scope x N js) (hi:PI X (.Name x px) iter wi)
  (ht:∀cl C s₀ H₀ ex,zhq (zaQ X N scope cl C s₀ H₀ ex) ifs tc) (he:∀cl C s₀ H₀ ex,PE (zaQ X N scope cl C s₀ H₀ ex) elt te)
  (hs:∀x,foldedSetIterable iter X.env x=pure x) (I:Inv X ai σ H s) (h:zrH wi js tc te σ H Q)
  (fin:∀{cl:List (Str × Addr)}{C D:Addr}{s2 s5:Shared}{H2 H4:Hp}{fp:List Addr}{o:Option V},C=s2.heap.objs.size+1->D=s2.heap.objs.size->(∀b,b<s2.heap.objs.size->b≠C/\b≠D)->Inv X ai σ H2 s2->(∀b∈fp,FpOk X ai H2 b)->Inv (zaQ X N scope cl C s2 H2 fp) [] (o::caps σ js) H4 s5->Q (.ref D) H4->∀a,compPost (model X.prog X.w) X.A X.xe use QQ (.ref D) C (.ok a) s5):
  wpAny (model X.prog X.w) X.A (comprehension (.ListComp elt [⟨.Name x px,iter,ifs,0⟩] scope pos) scope X.env pos' (newList []) false (eval iter X.env) use) QQ X.xe s:=by
 refine zmE (Q:=Q) (nk:=1) (g:=zhf 0) (tg := .Name x px) hc S.n (λcl C s₀ H₀ ex p=>p 0 x px S.head (by decide)) hi ht he hs I h (λJ H1 go D H2 s2 hD h2=>?_) λ{cl C D s2 s5 H2 H4 fp o} ol hC hD below I2 f2 I5 qn a=>?_
 ·obtain⟨W,w0,step⟩:=go D H2 s2 hD h2
  refine⟨W,w0,λi m acc H3 w3=>?_⟩
  obtain⟨b1,b2,b3⟩:=step i m acc H3 w3
  refine⟨b1,b2,b3.imp id λ⟨g1,g2⟩=>⟨g1,λos ol x H4 y=>?_⟩⟩
  match os,ol with
  | [o],_=>exact⟨[some x],rfl,rfl,g2 x H4 y⟩
 ·match o,ol with
  | [o],_=>exact fin hC hD below I2 f2 I5 qn a
def zpE{X:Cx}{ai:ae}{σ τ:St}{Q:VK}{scope:Scope}{N:List Str}{cl:List (Str × Addr)}{C D:Addr}{s2 s5:Shared}{H2 H4:Hp}{fp:List Addr}{a:Flow}(below:∀b,b<s2.heap.objs.size->b≠C/\b≠D)(I2:Inv X ai σ H2 s2)(f2:∀b∈fp,FpOk X ai H2 b)(I5:Inv (zaQ X N scope cl C s2 H2 fp) [] τ H4 s5)(qn:Q (.ref D) H4):compPost (model X.prog X.w) X.A X.xe none (EP X ai σ Q) (.ref D) C (.ok a) s5:=by
 with_unfolding_all
  obtain⟨m5,n5,_⟩:=I5.loc
  refine⟨m5,n5,λh' sb=>⟨.ref D,H4,?_,rfl,qn⟩⟩
  have k5:∀b o,b≠C->s5.heap.get? b=some o->h'.get? b=some o:=λb o hb e=>sb.extBut b o hb e
  have u5:=I5.bf
  have nC:∀b o,s2.heap.get? b=some o->b≠C:=λb o e=>(below b (tG e)).1
  refine I2.call' (s' := { s5 with heap:=h' }) (ch:=fp) I5.os ?_ ?_ I5.bare λb hb=>⟨(f2 b hb).2.2.2.1,(f2 b hb).2.1,(f2 b hb).2.2.2.2.1,(f2 b hb).2.2.2.2.2⟩
  ·refine⟨λb o e n1 n2 n3=>k5 b o (nC b o e) (u5.keep b o e n1 n2 n3),λb o e n1 n2 n3=>?_,u5.free,λb o e n3=>?_,u5.tups,u5.frzs,u5.tbls⟩
   ·obtain⟨sl,z⟩:=u5.slot b o e n1 n2 n3
    exact⟨sl,k5 b _ (nC b o e) z⟩
   ·obtain⟨o',z⟩:=u5.there b o e n3
    exact⟨o',k5 b o' (nC b o e) z⟩
  ·intro b u e
   refine(I5.hok b u e).stay (λc v hc q=>k5 c v ?_ q) (λ_ q=>q) (λ_ _ q=>q) λ_ _ _ q=>q
   rintro rfl
   rcases hc with z | z
   ·rw[<-z,show H4 c=none from I5.free]at e;cases e
   ·have:=I5.free
    rw[show H4 c=none from I5.free]at z
    cases z
def zaZ{X:Cx}{iter elt:Expr}{x:Str}{px:Pos}{ifs:List Expr}{scope:Scope}{pos:Pos}{wi:TI}{N:List Str}{js:List Nat}{tc:TT}{te:TE}
    (hc:X.calm=true) (S:CompScope X scope x N js) (hi:PI X (.Name x px) iter wi)
    (ht:∀cl C s₀ H₀ ex,zhq (zaQ X N scope cl C s₀ H₀ ex) ifs tc) (he:∀cl C s₀ H₀ ex,PE (zaQ X N scope cl C s₀ H₀ ex) elt te)
    (hs:∀x,foldedSetIterable iter X.env x=pure x:=by intro _;rfl):
    PE X (.ListComp elt [⟨.Name x px,iter,ifs,0⟩] scope pos) (zrH wi js tc te):=by
 with_unfolding_all
  intro ai s σ H Q I h
  rw[eval_ListComp]
  exact zjY hc S hi ht he hs I h λhC hD below I2 f2 I5 qn a=>zpE below I2 f2 I5 qn
end L2
namespace M1
def gd(x y:Int):Int:=((Int.gcd x y:Nat):Int)
def gd_zero{x:Int}(h:0<=x):gd x 0=x:=by
 unfold gd
 rw[Int.gcd_zero_right]
 omega
def gd_step{x y:Int}:gd y (x % y)=gd x y:=by
 unfold gd
 have e:x % y=x+y*(-(x / y)):=by
  rw[Int.mul_neg,Int.emod_def]
  omega
 rw[Int.gcd_comm y,e,Int.gcd_add_mul_left_left]
def gd_abs(x y:Int):gd (if x<0 then -x else x) y=gd x y:=by
 unfold gd
 split
 ·rw[Int.neg_gcd]
 ·rfl
def gd_pos{x y:Int}(h:0<y):0<gd x y:=by
 have:0<Int.gcd x y:=Int.gcd_pos_of_ne_zero_right x (by omega)
 unfold gd
 omega
def zgL(x y:Int):gd x y∣y:=Int.gcd_dvd_right x y
def gd_le{x y:Int}(h:0<y):gd x y<=y:=Int.le_of_dvd h (zgL x y)
def gd_low{t b:Int}(h:0<b):gd (t / gd t b) (b / gd t b)=1:=by
 have e:=Int.gcd_ediv_gcd_ediv_gcd (i:=t) (j:=b) (Int.gcd_pos_of_ne_zero_right t (by omega))
 unfold gd
 rw[e]
 rfl
def low_bot{t b:Int}(h:0<b):1<=b / gd t b:=by
 have g:=gd_pos (x:=t) h
 have d:=qQ (zgL t b)
 by_cases q:b / gd t b<1
 ·have:=Int.mul_le_mul_of_nonneg_right (a:=b / gd t b) (b:=0) (c:=gd t b) (by omega) (by omega)
  omega
 ·omega
def low_bot_le{t b:Int}(h:0<b):b / gd t b<=b:=rD (gd t b) (by omega)
def low_one{t b:Int}(h:gd t b=1):t / gd t b=t/\b / gd t b=b:=by
 rw[h,Int.ediv_one,Int.ediv_one]
 exact⟨rfl,rfl⟩
end M1
namespace M2
open PySem
end M2
namespace L2
open PySem PySem.Spec PyProof.Rows
def Its(x:Str):It:=⟨λi _=>i<x.cps.size,λi H v H'=>H'=H/\∃c,x.cps[i]?=some c/\v=.str ⟨#[c]⟩,λi _=>x.cps.size<=i⟩
def znN{P:Program}{w:World}{K:am}{tg:Expr}(x:Str)(t:Tok)(it:Addr):Turn P w K tg (Its x) [it] it (λi h=>h.IsStrIter it "str_ascii_iterator" x t i) where
 mem:=by simp
 obj:=λi h st b hb=>by
  have e:b=it:=by simpa using hb
  subst e
  obtain⟨o,e,c,d⟩:=st
  exact⟨o,e,λv z=>by rw[d]at z;cases z⟩
 keep:=λi h h' st k=>let ⟨o,ho,r⟩:=st;⟨o,k it (by simp) o ho,r⟩
 item:=by
  intro X hP hw hK hc i ai s σ H E I hf st hg
  subst hP hw hK
  have hg:i<x.cps.size:=hg
  obtain⟨f0,f1,f2,f3,f4,f5⟩:=hf it (by simp)
  refine wpAny_pyNext_ascii_item st (c:=x.cps[i]) (by simp[hg]) λh' st' sb=>?_
  have I1:Inv X ai σ H { s with heap:=h',toks:=s.toks+1 }:=I.turned (λb o hb e=>(sb.2 b hb).trans e) f0 f1 f3 f4 f5
  obtain⟨o,e,c,d⟩:=id st'
  exact⟨_,rfl,zmx (s := { s with heap:=h',toks:=s.toks+1 }) e c d (by decide) ⟨.str ⟨#[x.cps[i]]⟩,H,I1,⟨_,rfl⟩,⟨rfl,_,by simp[hg],rfl⟩,st',λb hb=>(hf b hb).1⟩⟩
 done:=by
  intro X hP hw hK hc i ai s σ H E I hf st hg
  subst hP hw hK
  have hg:x.cps.size<=i:=hg
  obtain⟨f0,f1,f2,f3,f4,f5⟩:=hf it (by simp)
  exact wpAny_pyNext_ascii_end (I.ok.hd hc) st (by simp;omega) λh' eb=>⟨rfl,I.turned (t':=s.toks) (λb o hb e=>eb b o hb e) f0 f1 f3 f4 f5⟩
 self:=λ_ _ _ _ _ st h=>wpAny_pyIter_striter_ascii st h
def znO{P:Program}{w:World}{K:am}{tg:Expr}(x:Str)(t:Tok)(it:Addr):Turn P w K tg (Its x) [it] it (λi h=>h.IsStrIter it "str_iterator" x t i) where
 mem:=by simp
 obj:=λi h st b hb=>by
  have e:b=it:=by simpa using hb
  subst e
  obtain⟨o,e,c,d⟩:=st
  exact⟨o,e,λv z=>by rw[d]at z;cases z⟩
 keep:=λi h h' st k=>let ⟨o,ho,r⟩:=st;⟨o,k it (by simp) o ho,r⟩
 item:=by
  intro X hP hw hK hc i ai s σ H E I hf st hg
  subst hP hw hK
  have hg:i<x.cps.size:=hg
  obtain⟨f0,f1,f2,f3,f4,f5⟩:=hf it (by simp)
  refine wpAny_pyNext_wide_item st (c:=x.cps[i]) (by simp[hg]) λh' st' sb=>?_
  have I1:Inv X ai σ H { s with heap:=h',toks:=s.toks+1 }:=I.turned (λb o hb e=>(sb.2 b hb).trans e) f0 f1 f3 f4 f5
  obtain⟨o,e,c,d⟩:=id st'
  exact⟨_,rfl,zmx (s := { s with heap:=h',toks:=s.toks+1 }) e c d (by decide) ⟨.str ⟨#[x.cps[i]]⟩,H,I1,⟨_,rfl⟩,⟨rfl,_,by simp[hg],rfl⟩,st',λb hb=>(hf b hb).1⟩⟩
 done:=by
  intro X hP hw hK hc i ai s σ H E I hf st hg
  subst hP hw hK
  have hg:x.cps.size<=i:=hg
  obtain⟨f0,f1,f2,f3,f4,f5⟩:=hf it (by simp)
  exact wpAny_pyNext_wide_end (I.ok.hd hc) st (by simp;omega) λh' eb=>⟨rfl,I.turned (t':=s.toks) (λb o hb e=>eb b o hb e) f0 f1 f3 f4 f5⟩
 self:=λ_ _ _ _ _ st h=>wpAny_pyIter_striter_wide st h
section
variable{X:Cx}{tg:Expr}
def iStr(tl:TE):TI:=λσ H R=>tl σ H λv H1=>∃x,v=.str x/\R (Its x) H1
theorem zsQ{l:Expr}{tl:TE}(hl:PE X l tl):PI X tg l (iStr tl):=by
 with_unfolding_all
  intro ai s σ H R I h
  refine thn (hl ai s σ H _ I h) λv s1 ⟨y,H1,I1,r1,q1⟩=>?_
  obtain⟨x,e,q⟩:=q1
  subst e
  obtain⟨t,rfl⟩:=r1
  have fin:∀b,b∈[s1.heap.objs.size]->FpOk X ai H1 b:=λb hb=>by
   have e:b=s1.heap.objs.size:=by simpa using hb
   subst e
   exact I1.fpOk (tD _) (I1.hok.fresh (tD _))
  cases ha:x.cps.all (· < 128) with
  | true=>exact wpAny_pyIter_ascii ha ⟨s1.heap.objs.size,[s1.heap.objs.size],_,_,H1,rfl,I1.kept (t':=s1.toks) λb o e=>tu _ e,znN x t _,⟨_,tH _ rfl,rfl,rfl⟩,fin,q⟩
  | false=>exact wpAny_pyIter_wide ha ⟨s1.heap.objs.size,[s1.heap.objs.size],_,_,H1,rfl,I1.kept (t':=s1.toks) λb o e=>tu _ e,znO x t _,⟨_,tH _ rfl,rfl,rfl⟩,fin,q⟩
theorem zpF{x:Str}{js:List Nat}{tc:TT}{te:TE}{σ:St}{H1:Hp}{Q:VK}(p:Nat->Bool)(f:Nat->V)
  (ht:∀c Hh (Q':Bool->Hp->Prop),Q' (p c) Hh->tc (some (.str ⟨#[c]⟩)::caps σ js) Hh Q') (he:∀c Hh (Q':VK),Q' (f c) Hh->te (some (.str ⟨#[c]⟩)::caps σ js) Hh Q')
  (hz:x.length<sizeLine) (q:∀D H2,Same H1 H2->H2 D=some (.lst ((x.cps.toList.filter p).map f))->Q (.ref D) H2):
  zep (Its x) js tc te σ H1 Q:=by
 intro D H2 s2 hD h2
 refine⟨λi m acc H3=>m=x.cps.size-i/\i<=x.cps.size/\acc=((x.cps.toList.take i).filter p).map f/\Same H1 H3/\H3 D=some (.lst acc),⟨_,rfl,tU _,by simp,s2,h2⟩,?_⟩
 rintro i m acc H3 ⟨rfl,hi,ea,s3,h3⟩
 have hl:acc.length<=x.length:=by
  rw[ea,tq]
  refine tM (t6 _ _) ?_
  rw[su]
  exact tM (Nat.min_le_right _ _) (pG Array.length_toList)
 refine⟨h3,by omega,?_⟩
 by_cases hlt:i<x.cps.size
 ·refine .inr ⟨hlt,λy H4 z=>?_⟩
  obtain⟨e,c,hc,ey⟩:=z
  subst e ey
  have hc':x.cps.toList[i]?=some c:=by rw[Array.getElem?_toList];exact hc
  refine ht c _ _ ?_
  have tk:(x.cps.toList.take (i+1)).filter p=(x.cps.toList.take i).filter p++(if p c=true then[c]else[]):=take_succ_filter p _ i c hc'
  cases hp:p c with
  | true=>
    refine iteT (he c _ _ ⟨h3,λH7 k7 h7=>⟨x.cps.size-(i+1),by omega,rfl,hlt,?_,λb o e=>?_,h7⟩⟩)
    ·rw[tk,hp,if_pos rfl,tV,<-ea]
     rfl
    ·by_cases hb:b=D
     ·subst hb
      rw[hD]at e
      cases e
     ·exact k7 b o hb (s3 b o e)
  | false=>
    refine iteF ⟨x.cps.size-(i+1),by omega,rfl,hlt,?_,s3,h3⟩
    rw[tk,hp,if_neg tE,sM]
    exact ea
 ·have e:i=x.cps.size:=by omega
  subst e
  refine .inl ⟨tD _,?_⟩
  have et:x.cps.toList.take x.cps.size=x.cps.toList:=sv (pG Array.length_toList)
  rw[et]at ea
  rw[ea]at h3
  exact q D _ s3 h3
def rSlS:V->Option Int->Option Int->Hp->VK->Prop:=λv lo hi H Q=>∃x,v=.str x/\x.length<=sizeLine/\Q (.str (Txt.slice x lo hi)) H
theorem znP:SlR X rSlS:=by
 intro ai s σ H v u vl vu lo hi sl Q I rx hs pl pu h
 obtain⟨x,rfl,hz,q⟩:=h
 obtain⟨t,rfl⟩:=rx
 refine⟨"str",_,F.slot_str_getitem.lookup,pL _ _ _,?_⟩
 have fin:∀(t':Tok)(k:Nat),EP X ai σ Q (.str (Txt.slice x lo hi) t') { s with toks:=k }:=λt' k=>⟨.str _,H,I.tok k,⟨_,rfl⟩,q⟩
 cases pl with
 | none=>
   cases pu with
   | none=>exact rm (l:=none) (u:=none) (st:=none) hs rfl (qR ⟨tM (pI x _ _) hz,λt' k=>fin t' k⟩)
   | int j tj=>exact rm (l:=none) (u:=some (j,tj)) (st:=none) hs rfl (qR ⟨tM (pI x _ _) hz,λt' k=>fin t' k⟩)
 | int i ti=>
   cases pu with
   | none=>exact rm (l:=some (i,ti)) (u:=none) (st:=none) hs rfl (qR ⟨tM (pI x _ _) hz,λt' k=>fin t' k⟩)
   | int j tj=>exact rm (l:=some (i,ti)) (u:=some (j,tj)) (st:=none) hs rfl (qR ⟨tM (pI x _ _) hz,λt' k=>fin t' k⟩)
def zjZ:OpR X (compareOp .LtE) (λx y H Q=>∃i j,x=.str i/\y=.str j/\Q (.bl (!decide (j.cps.toList<i.cps.toList))) H):=by
 intro ai s σ H x y v u Q I rx ry h
 obtain⟨i,j,rfl,rfl,q⟩:=h
 obtain⟨t,rfl⟩:=rx
 obtain⟨t',rfl⟩:=ry
 exact PySem.P.le_str (zaX I q rfl)
theorem znQ(bs:List Bool):(List.range bs.length).all (λi=>(bs[i]?).getD true)=bs.all id:=by
 induction bs with
 | nil=>rfl
 | cons b r ih=>
   rw[length_cons,sW,pN,List.all_map,pN,<-ih]
   rfl
theorem ef(hc:X.calm=true):zda X (.builtin "all") (λxs H Q=>∃(p:Addr)(bs:List Bool),xs=[.ref p]/\SqL X.K H p (bs.map V.bl)/\Q (.bl (bs.all id)) H):=by
 intro ai s σ H xs us Q I r h
 obtain⟨p,bs,rfl,hq,q⟩:=h
 obtain⟨u,rfl,ru⟩:=zdR r
 cases ru
 obtain⟨its,rv,pl,hz⟩:=I.list hq
 have lt:p<s.heap.objs.size:=by
  obtain⟨o,ho,_⟩:=pl.isList
  exact tG ho
 have hl:its.toArray.size=bs.length:=by
  have:=rv.length
  simp at this ⊢
  omega
 refine call_all_walk (rg pl.isList ?_)
 refine⟨s.heap.objs.size,_,_,_,_,_,λi=>(bs[i]?).getD true,rfl,Walks.list (prog:=X.prog) (w:=X.w) (A:=X.A.in1) (show X.A.in1.handled=none from I.ok.hd hc) _ p (tJ lt) its.toArray,⟨⟨_,tH _ rfl,rfl,rfl⟩,pl.isList.at λo e=>tu _ e⟩,λi v s' Q' E' hP hQ'=>?_,λh' tk kk=>?_⟩
 ·have hP':its[i]?=some v:=by simpa using hP
  cases e:bs[i]? with
  | none=>
    have h1:its.length<=i:=by
     have h2:=getElem?_eq_none_iff.mp e
     simp at hl
     omega
    rw[sZ h1]at hP'
    cases hP'
  | some b=>
    dsimp only at hQ'
    rw[e]at hQ'
    obtain⟨u,hu,ru⟩:=rv.get (i:=i) (x:=.bl b) (by rw[getElem?_map,e];rfl)
    rw[hP']at hu
    cases hu
    cases(show v=Value.bool b from ru)
    exact sI hQ'
 ·rw[hl,znQ]
  refine⟨.bl _,H,I.kept (t':=tk) (h':=h') λb o e=>kk b o ?_ (tu _ e),rfl,q⟩
  intro z
  have z:b=s.heap.objs.size:=by simpa using z
  exact tJ (tG e) z
def znR(hu:X.A.units<cLine):OpR X (compareOp .NotEq) (λx y H Q=>∃a b xs ys,x=.ref a/\y=.ref b/\SqL X.K H a xs/\SqL X.K H b ys/\xs.all zcc=true/\ys.all zcc=true/\Q (.bl (!eqVs xs ys)) H):=by
 intro ai s σ H x y v u Q I rx ry h
 obtain⟨a,b,xs,ys,rfl,rfl,hx,hy,fx,fy,q⟩:=h
 cases rx
 cases ry
 obtain⟨its,r,pl,hz⟩:=I.list hx
 obtain⟨its2,r2,pl2,hz2⟩:=I.list hy
 have e1:its.toArray.size=xs.length:=by simp[r.length]
 have e2:its2.toArray.size=ys.length:=by simp[r2.length]
 by_cases hl:xs.length=ys.length
 ·refine SeqAt.RcNeAt.lists (e:=eqJ xs ys) pl.isList pl2.isList (by omega) hu (λj h1 h2=>znJ r r2 fx fy j h1 h2) X.prog X.w X.xe _ ⟨.bl _,H,I,rfl,?_⟩
  have z:=zfa xs ys
  rw[<-hl,Nat.min_self]at z
  rw[e1]
  have z':(List.range xs.length).all (eqJ xs ys)=eqVs xs ys:=by
   rw[<-z]
   simp
  rw[z']
  exact q
 ·refine SeqAt.RcNeAt.lists_lengths pl.isList pl2.isList ?_ hu X.prog X.w X.xe _ ⟨.bl _,H,I,rfl,?_⟩
  ·rw[e1,e2]
   simpa using hl
  ·rw[bC hl]at q
   exact q
end
def zcU(x:Str):x.cps.toList.length=x.length:=Array.length_toList
def lt_1(c a:Nat):decide ([c]<[a])=decide (c<a):=by
 rw[sw,sy,sy,List.cons_lt_cons_iff]
 simp
def le_1{x y:Str}{c a:Nat}(hx:x.cps.toList=[c])(hy:y.cps.toList=[a]):(!decide (y.cps.toList<x.cps.toList))=decide (c<=a):=by
 rw[hx,hy,lt_1]
 rw[sw]
 simp
def zsR{n:Nat}(h:n<=1000):n<=sizeLine:=sz n h
abbrev TJ:=Str->St->Hp->VK->Prop
section
variable{X:Cx}{e:Expr}{es:List Expr}{te:TE}{t:TJ}{pos:Pos}
structure Box(P:Prop):Prop where
 un:P
end
end L2
namespace PySem
open Sem (wp)
section
variable{prog:Program}{w:World}{A:Around}{E:ac}{h:Heap}{g:Array GenState}{d:Drawn}{t:Nat}{os:OsState}
variable{nm q:Str}{C N:Addr}{bs bm bmB:ah}{hdct:Bool}{sn:List Str}{sub:ah}{ab:Bool}{col:Option Bool}{dd:aj}{k0 k1 k2 k3 k5:Option Value}{B newId initId:String}
end
end PySem
namespace PySem.W
open PySem PySem.Spec PySem.Calls PyProof.Rows Builtin Builtin.ObjectAttr
def bmVE:List Value:=[.type "ValueError",.type "Exception",.type "BaseException",.type "object"]
def znS:List Value->Bool
 | .ref _::r=>znS r
 | l=>l==bmVE
def xcIn(K:Frag)(C:Addr)(ini:aj):Bool:=match K.lookup C with
 | some ⟨.type "type",_,.cls cd,sl⟩=>(match cd.mro,sl.toList with
   | .ref C'::bm,[_,_,_,_,some (.builtin n),_]=>C'==C&&n == "ValueError.__new__" && !cd.hasDel&&cd.hasDict&&tailIn K bmVE bm&&znS bm&&nsOkIn K cd.ns&&nsIn K cd.ns "__init__" == some (ini.map .ref)
   | _,_=>false)
 | _=>false
structure XcAt(h:Heap)(C:Addr)(ini:aj):Prop where
 ex:∃nm q N bs bm sn sub ab col dd k0 k1 k2 k3 k5 mN,h.get? C=some (excClassObj nm q C N bs bm true sn sub ab col dd k0 k1 k2 k3 k5 "ValueError.__new__")/\h.Ns N mN/\mN "__init__" = ini.map .ref/\OwnTail h bmVE bm/\znS bm=true
def zgR{K:Frag}{h:Heap}{N:Addr}{x:Str}{v:Value}(X:K.In h)(e:nsOkIn K N=true)(q:nsIn K N x=some (some v)):h.nsMap N x=some v:=by
 have G:h.Ns N (h.nsMap N):=.of_isNs (isNs_of_in X e)
 obtain⟨o,es,ep,ho,hd,_,hf⟩:=G
 unfold nsIn at q
 split at q
 ·rename_i c d es' n' sl q'
  have:=X _ _ q'
  rw[ho]at this
  cases this
  cases hd
  split at q
  ·rename_i en he
   cases q
   rw[<-hf]
   unfold nsFind findBy
   rw[<-Array.find?_toList,he]
   rfl
  ·split at q<;>cases q
 ·cases q
def zud{K:Frag}{h:Heap}{C:Addr}{ini:aj}(X:K.In h)(q:xcIn K C ini=true):XcAt h C ini:=by
 unfold xcIn at q
 split at q
 ·rename_i dd cd sl ho
  split at q
  ·rename_i C' bm k0 k1 k2 k3 n k5 hm hs
   simp only[Bool.and_eq_true,beq_iff_eq,Bool.not_eq_true']at q
   obtain⟨⟨⟨⟨⟨⟨⟨rfl,rfl⟩,hdel⟩,hdc⟩,ht⟩,hr⟩,hok⟩,hni⟩:=q
   obtain⟨nm,bs,mro,ns,qn,hd,sn,sub,ab,col,del⟩:=cd
   dsimp only at hm hdel hok hni hdc
   subst hm hdel hdc
   have hsl:sl = #[k0,k1,k2,k3,some (.builtin "ValueError.__new__"),k5]:=by
    obtain⟨l⟩:=sl
    simp only at hs
    rw[hs]
   subst hsl
   refine⟨nm,qn,ns,bs,bm,sn,sub,ab,col,dd,k0,k1,k2,k3,k5,_,X _ _ ho,.of_isNs (isNs_of_in X hok),?_,tail_of_in X ht,hr⟩
   cases ini with
   | none=>exact nsMap_none_of_in X hok hni
   | some f=>exact zgR X hok hni
  ·cases q
 ·cases q
end PySem.W
namespace PySem.W
open PySem PySem.Spec PySem.Calls PyProof.Rows Builtin Builtin.ObjectAttr
section
variable{prog:Program}{w:World}{A:Around}{K:Frag}{C x:Addr}{s:Shared}{R:Result->Shared->Prop}
end
end PySem.W
namespace PySem.W
open PySem PySem.Spec PySem.Calls PyProof.Rows Builtin Builtin.ObjectAttr
def zpG:builtinKind "BaseException.__getattribute__" = some .slot:=by decide +kernel
def znT:splitId "BaseException.__getattribute__" = some ("BaseException","__getattribute__"):=by decide +kernel
def znU:plainId "BaseException.__getattribute__" = true:=PySem.F.excAttr_ValueError.ga.plain
theorem zsS0(self:Value)(name:Str)(tk:Tok):∃ f:Value→_,Builtin.«object.__getattribute__» ⟨[self,.str name tk],[]⟩=(typeOf self >>= λtp=>find self tp name >>= λr=>match r with
 | .value v=>ret v
 | .bind g a=>bindTo g a self tp
 | .missing=>f tp):=⟨_,rfl⟩
theorem zsS(self:Value)(name:Str)(tk:Tok):Builtin.«object.__getattribute__» ⟨[self,.str name tk],[]⟩=(typeOf self >>= λtp=>find self tp name >>= λr=>match r with
 | .value v=>ret v
 | .bind g a=>bindTo g a self tp
 | .missing=>(zsS0 self name tk).choose tp):=(zsS0 self name tk).choose_spec
section
variable{prog:Program}{w:World}{A:Around}{K:Frag}{C x:Addr}{s:Shared}{ox:Obj}{od:Option Obj}{name:Str}{ini:aj}
def zue(X:K.In s.heap)(I:InstAt s.heap x ox C od)(hi:xcIn K C ini=true):Looks (model prog w) s.heap (isInstance (.ref x) (.type "BaseException")) true:=by
 obtain⟨nm,q,N,bs,bm,sn,sub,ab,col,dd,k0,k1,k2,k3,k5,mN,hC,_,_,T,hr⟩:=(zud X hi).ex
 have hob:(Value.ref C::bm).contains (.type "BaseException")=true:=by rw[List.contains_cons,T.hasType (X := "BaseException") (b:=true) (by decide +kernel),Bool.or_true]
 exact I.type.andThen (λA' Q' E' s' k z=>by
  obtain⟨h0,g,d,t,os⟩:=s'
  exact wpAny_isSubtype_exc (k _ _ hC) (by rw[hob];exact z))
theorem zpH{R:Result->Shared->Prop}{tk:Tok}{r:Found}(X:K.In s.heap)(I:InstAt s.heap x ox C od)(hi:xcIn K C ini=true)(hf:findObj K C od name=some r)
  (h:wpAny (model prog w) A.in1 (match r with | .value v=>ret v | .bind g a=>bindTo g a (.ref x) (.ref C) | .missing=>noSuchAttribute (.ref x) name) (λfin s'=>match fin with | .done f=>R (.ok f) s' | .again c'=>c'.quiet=true/\codeAny (model prog w) A c' R s') (λe s'=>R (.error e) s') s)
  (hm:r≠.missing):
  codeAny (model prog w) A (.call (.builtin "BaseException.__getattribute__") ⟨[.ref x,.str name tk],[]⟩) R s:=by
 refine codeAny_call_builtin znU PySem.F.entry_bexc_ga (@check_slot (model prog w) _ _ s "BaseException.__getattribute__" "BaseException" "__getattribute__" (.ref x) [.str name tk] [] _ zpG znT (zue X I hi) (PySem.F.args_bexc_ga (.ref x) (.str name tk)) ?_)
 rw[zsS]
 refine tw (I.type.here (tw ((looks_find X I hf).here ?_)))
 cases r with
 | value v=>exact h
 | bind g a=>exact h
 | missing=>exact absurd rfl hm
def zrI{E:ac}{tk:Tok}{fill expr:Bool}{Q:ac}(X:K.In s.heap)(I:InstAt s.heap x ox C od)
    (hga:findIn K (.ref C) "__getattribute__" = some (some (.builtin "BaseException.__getattribute__"))) (hgn:findIn K (.ref C) "__getattr__" = some none)
    (h:codeAny (model prog w) A (.call (.builtin "BaseException.__getattribute__") ⟨[.ref x,.str name tk],[]⟩) (λr s'=>match r with | .ok (.ret v)=>wpAny (model prog w) A (handedOut v) Q E s' | _=>False) s):
    wpAny (model prog w) A (getAttrBy (.ref x) (.str name tk) fill expr) Q E s:=by
 have f3:=PySem.F.excAttr_ValueError.ga.bind (.ref x)
 have hx0:(expr&&onTheHeap (Value.builtin "BaseException.__getattribute__"))=false:=by cases expr<;>rfl
 have hx2:(Value.builtin "BaseException.__getattribute__" == Value.builtin "object.__getattribute__")=false:=by decide +kernel
 have hx1:(onTheHeap (Value.ref C)&&Value.builtin "BaseException.__getattribute__" == Value.builtin "object.__getattribute__")=false:=by rw[hx2];rfl
 unfold getAttrBy
 refine tZ (tw (I.type.here (tw ((looks_findIn X hga).here ?_))))
 dsimp only
 rw[hx1,if_neg tE]
 unfold getAttrByItsOwn hookBefore
 refine tw ?_
 rw[if_pos (show onTheHeap (Value.ref C)=true from rfl)]
 refine(looks_findIn X hgn).here (tw (wpAny_attempt (tZ ?_)))
 unfold callGetattribute
 rw[hx0,if_neg tE]
 unfold boundAndCalled
 rw[f3]
 refine tw (tI (qK (rj h λr s' z=>?_)))
 rcases r with e | (v | _ | _ | _)<;>first | exact z | exact z.elim
def zsT{E:ac}{Q:Option Value->Shared->Prop}(X:K.In s.heap)(I:InstAt s.heap x ox C od)(hi:xcIn K C ini=true)
    (hga:findIn K (.ref C) "__getattribute__" = some (some (.builtin "BaseException.__getattribute__"))) (hgn:findIn K (.ref C) "__getattr__" = some none)
    (hdct:hasDictIn K C=true) (ha:findIn K (.ref C) "__class__" = some (some (.builtin "object.__class__")))
    (hn:specialIn K (.builtin "object.__class__") "__get__" = some (some (.builtin "getset_descriptor.__get__"))) (htk:takesIn K (.builtin "object.__class__")=some true) (hm:mroIn K C (.type "object")=some true)
    (h:Q (some (.ref C)) { s with toks:=s.toks+1 }):wpAny (model prog w) A (getAttr? (.ref x) "__class__") Q E s:=by
 have hf:findObj K C od "__class__" = some (.bind (.builtin "getset_descriptor.__get__") (.builtin "object.__class__")):=by
  obtain⟨cd,hc,_⟩:=any_some hdct
  unfold findObj
  rw[hc,qG,ha,qG]
  dsimp only
  rw[hn,qG]
  dsimp only
  rw[htk,qG]
 unfold getAttr?
 refine tw (wpAny_mkText ?_)
 unfold getAttrBy?
 refine tw (wpAny_attempt (zrI (s := { s with toks:=s.toks+1 }) X I hga hgn (zpH (s := { s with toks:=s.toks+1 }) X I hi hf ?_ (by intro z;cases z))))
 show wpAny _ _ (holding [_] (call (.builtin "getset_descriptor.__get__") [.builtin "object.__class__",.ref x,.ref C]) >>= ret) _ _ _
 refine tw (tZ (qK (class_get (s := { s with toks:=s.toks+1 }) X I hm (tI ?_))))
 show wpAny _ _ (handedOut (.ref C)) _ _ _
 rw[handedOut_of rfl]
 exact tI (tI h)
def kitx_exc(hi:xcIn K C ini=true)
    (hga:findIn K (.ref C) "__getattribute__" = some (some (.builtin "BaseException.__getattribute__"))) (hgn:findIn K (.ref C) "__getattr__" = some none)
    (hdct:hasDictIn K C=true) (ha:findIn K (.ref C) "__class__" = some (some (.builtin "object.__class__")))
    (hn:specialIn K (.builtin "object.__class__") "__get__" = some (some (.builtin "getset_descriptor.__get__"))) (htk:takesIn K (.builtin "object.__class__")=some true) (hm:mroIn K C (.type "object")=some true):
    KitX K (.ref x) (.ref C) (λh=>InstAt h x ox C od) where
 ty:=λ_ _ _ I=>I.type
 it:=λ_ _ X _=>by
  obtain⟨cdD,hcD,_⟩:=any_some hdct
  unfold clsIn at hcD
  split at hcD
  ·rename_i c' d' cd' sl' ho
   intro A' Q' E' s' k q
   unfold isType loadHead
   exact tw (wpAny_loadPart (k _ _ (X _ _ ho)) (tI q))
  ·cases hcD
 ne:=λh tp dd its n sl X htp=>by
  obtain⟨cdD,hcD,_⟩:=any_some hdct
  refine Bool.eq_false_iff.mpr λq=>?_
  have e:C=tp:=Value.ref.inj (beq_iff_eq.mp q)
  subst e
  unfold clsIn at hcD
  split at hcD
  ·rename_i c' d' cd' sl' ho
   have z:=(X _ _ ho).symm.trans htp
   cases z
  ·cases hcD
 ca:=λX I k=>zsT X I hi hga hgn hdct ha hn htk hm k
end
end PySem.W
namespace L2
open PySem PySem.Spec PyProof.Rows
abbrev xobj(C:Addr)(dx:aj)(vs:Array Value):Obj := { cls:=.ref C,dict:=dx,data:=.fields vs }
def XcO(a C:Addr)(dx:aj)(vs:Array Value):HO:=.ext λh=>h.get? a=some (xobj C dx vs)
def zrJ{P:Program}{w:World}{H:Hp}{h:Heap}{a C:Addr}{dx:aj}{vs:Array Value}(hok:HOk P w H h)(e:H a=some (XcO a C dx vs)):h.get? a=some (xobj C dx vs):=(show zbw P w H h a (XcO a C dx vs)from hok a _ e).1
structure XCls(K:am)(C:Addr):Prop where
 xc:∃ini,W.xcIn K C ini=true
 sa:W.findIn K (.ref C) "__setattr__" = some (some (.builtin "object.__setattr__"))
 ga:W.findIn K (.ref C) "__getattribute__" = some (some (.builtin "BaseException.__getattribute__"))
 gn:W.findIn K (.ref C) "__getattr__" = some none
 hd:W.hasDictIn K C=true
 cl:W.findIn K (.ref C) "__class__" = some (some (.builtin "object.__class__"))
 cg:W.specialIn K (.builtin "object.__class__") "__get__" = some (some (.builtin "getset_descriptor.__get__"))
 ct:W.takesIn K (.builtin "object.__class__")=some true
 mo:W.mroIn K C (.type "object")=some true
section
variable{X:Cx}{ai:ae}{σ:St}{H:Hp}{s:Shared}
theorem Inv.inst(I:Inv X ai σ H s){a C:Addr}{dx:aj}{vs:Array Value}(e:H a=some (XcO a C dx vs))(hd:∀d,dx=some d->∃fs,H d=some (.xd fs)):∃od,W.InstAt s.heap a (xobj C dx vs) C od:=by
 have g:=zrJ I.hok e
 cases dx with
 | none=>exact⟨none,g,rfl,rfl,True.intro⟩
 | some d=>
   obtain⟨fs,hf⟩:=hd d rfl
   obtain⟨mA,⟨o,es,ep,ho,_⟩,_⟩:=(show zbw X.prog X.w H s.heap d (.xd fs)from I.hok d _ hf)
   exact⟨some o,g,rfl,rfl,ho⟩
structure IsX(K:am)(H:Hp)(a C:Addr):Prop where
 cls:XCls K C
 at_:∃dx vs,H a=some (XcO a C dx vs)/\∀d,dx=some d->∃fs,H d=some (.xd fs)
end
end L2
namespace PySem
open L2 (xobj)
def Heap.XFly(h bf:Heap)(e C:Addr)(dx:aj)(T:Addr)(fl:Value):Prop:=
 ∃vs oT ts,h.get? e=some (xobj C dx vs)/\vs[1]?=some (.ref T)/\bf.get? T=none/\T≠e/\h.get? T=some oT/\oT.data=.fields ts/\ts[3]?=some fl
def Heap.XAt(bf:Heap)(l:List Env)(e C:Addr)(dx:aj)(T:Addr)(fl:Value)(h:Heap):Prop:=
 bf.StaysIn h/\bf.get? e=none/\h.FunFrames bf l/\h.XFly bf e C dx T fl
section
variable{M:Model}{A:Around}{E:ac}{s:Shared}
end
end PySem
namespace L2
open PySem PySem.Spec PyProof.Rows
def apart(X:Cx)(h:Heap)(e:Addr)(T:List Addr):Heap:=W.hideAll h (e::(T++frs X.stack))
section
variable{X:Cx}{ai:ae}{σ:St}{H:Hp}{s:Shared}{e C T:Addr}{dx:aj}{vs:Array Value}
end
structure Flies(h:Heap)(H:Hp)(low:Nat)(a C T:Addr)(dx:aj)(vs:Array Value):Prop where
 at_:H a=some (XcO a C dx vs)
 tr:vs[1]?=some (.ref T)
 new:low<=T
 free:H T=none
 ne:T≠a
 dict:∀y,dx=some y->∃fs,H y=some (.xd fs)
 recd:∃oT ts,h.get? T=some oT/\oT.data=.fields ts/\ts[3]?=some .none
def CX1(P:Program)(w:World):CXT:=λouter H s E e s'=>∃(a T C:Addr)(dx:aj)(vs:Array Value)(H':Hp),e=.ref a/\s'.os=s.os/\AllBare s'.gens/\Un (frs outer) [] H H' s.heap s'.heap/\HOk P w H' s'.heap/\s.heap.objs.size<=s'.heap.objs.size/\
 Flies s'.heap H' s.heap.objs.size a C T dx vs/\∀vs',E (.ref C) (some a) (upd H' a (XcO a C dx vs'))
section
variable{X:Cx}{ai:ae}{σ:St}{H H1:Hp}{s s1:Shared}{a C T:Addr}{dx:aj}{vs:Array Value}
end
section
variable{P:Program}{w:World}{K:am}{mg:af}{bf:Heap}{N:List Str}{qual:Str}{scope:Scope}{f:Addr}{cd:Value}{A:Around}{outer:List Env}{s₀:Shared}{H₀:Hp}{E:XK}
end
section
variable{X:Cx}{ai:ae}{σ:St}{H:Hp}{s:Shared}
end
structure XMk(K:am)(C:Addr)(ini:aj):Prop where
 cls:XCls K C
 xc:W.xcIn K C ini=true
 kp:W.keepIn K (.ref C)=true
 fn:∀f,ini=some f->W.isFn K (.ref f)=true
def zrK(K:am)(C:Addr)(f:Str):Sp:=λvs H Q _=>∃a v ws,vs=[.ref a,v]/\XCls K C/\zak K C f/\H a=some (XcO a C none ws)/\
 ∀d H2,(∀b o,b≠a->H b=some o->H2 b=some o)->H d=none->H2 a=some (XcO a C (some d) ws)->H2 d=some (.xd [(f,v)])->Q .non H2
section
variable{X:Cx}{k:Nat}{fI C:Addr}{fd:FuncData}{ps:List Str}{x fn:Str}{p pos:Pos}{e:Expr}{es:List Expr}{t:TA}
end
section
variable{P:Program}{w:World}{K:am}{mg:af}{bf:Heap}{N:List Str}{qual:Str}{scope:Scope}{f:Addr}{cd:Value}{A:Around}{outer:List Env}{s₀:Shared}{H₀:Hp}{E:XK}
end
section
variable{X:Cx}{σ:St}
end
structure Aside(X:Cx)(ai:ae)(b:Addr):Prop where
 p:X.s₀.heap.objs.size<=b/\b≠X.env.locals/\(∀x c,X.env.cells.lookup x=some c->c≠b)/\∀p∈X.pn++ai,p.1≠b
section
variable{X:Cx}{ai pins':ae}{σ τ:St}{H:Hp}{s:Shared}{W:XK}
end
structure Cal1(P:Program)(w:World)(K:am)(mg:af)(bf:Heap)(x:Str)(k:Nat)(ps:List Str)(sp:Sp):Prop where
 ex:∃f fd,FnOk P w K mg bf (CX1 P w) k f fd ps sp/\zbp K fd ps []/\mg x=some (.ref f)/\W.keepIn K (.ref f)=true
section
variable{X:Cx}{k:Nat}{ps:List Str}{sp:Sp}{x:Str}{p pos:Pos}{e:Expr}{es:List Expr}{t:TA}
end
abbrev TH:=Addr->Addr->Hp->St->Ends->Prop
structure AtH(X:Cx)(ai:ae)(σ:St)(H:Hp)(a C:Addr)(dx:aj)(s:Shared):Prop where
 I:Inv X ai σ H s
 ex:∃T vs,Flies s.heap H 0 a C T dx vs/\Aside X ai T
section
variable{X:Cx}{Dc:Addr}{i:Nat}{n d:Str}{np pos:Pos}{b₀:Stmt}{suite:List Stmt}{rest:List ExceptHandler}{ts:TS}{tr:TH}
end
inductive TyX(K:am)(H:Hp):V->Value->Prop where
 | old {x:V} {t:Value} (h:TyOf K H x t):TyX K H x t
 | exc {a C:Addr} (h:IsX K H a C):TyX K H (.ref a) (.ref C)
section
variable{X:Cx}
theorem znV{ai:ae}{σ:St}{H:Hp}{s:Shared}{A:Around}{E:ac}{Q:ac}{c:Value}{b:Bool}{x:V}{u t:Value}(I:Inv X ai σ H s)(rx:RelV x u)(ty:TyX X.K H x t)(e:W.kitOne X.K t c=some b)(h:∀tk,Q (.bool b) { s with toks:=tk }):
  wpAny (model X.prog X.w) A (call (.builtin "isinstance") [u,c]) Q E s:=by
 cases ty with
 | old ty=>exact znv I rx ty e h
 | @exc a C z=>
   cases(show u=Value.ref a from rx)
   obtain⟨dx,vs,h1,h2⟩:=z.at_
   obtain⟨od,J⟩:=I.inst h1 h2
   obtain⟨ini,hi⟩:=z.cls.xc
   exact rJ (W.kitx_exc hi z.cls.ga z.cls.gn z.cls.hd z.cls.cl z.cls.cg z.cls.ct z.cls.mo) I.kIn J e (λz=>nomatch z) h
def zdc{n:String}:zda X (.builtin "isinstance") (λxs H Q=>∃x t b,xs=[x,.ty n]/\TyX X.K H x t/\W.kitOne X.K t (.type n)=some b/\Q (.bl b) H):=by
 intro ai s σ H xs us Q I r h
 obtain⟨x,t,b,rfl,ty,e,q⟩:=h
 obtain⟨u,w',rfl,ru,rw'⟩:=zrr r
 cases(show w'=Value.type n from rw')
 exact znV I ru ty e λtk=>⟨.bl b,H,I.tok tk,rfl,q⟩
def zhr{C:Addr}:zda X (.builtin "isinstance") (λxs H Q=>∃x t b,xs=[x,.ref C]/\TyX X.K H x t/\W.kitOne X.K t (.ref C)=some b/\Q (.bl b) H):=by
 intro ai s σ H xs us Q I r h
 obtain⟨x,t,b,rfl,ty,e,q⟩:=h
 obtain⟨u,w',rfl,ru,rw'⟩:=zrr r
 cases(show w'=Value.ref C from rw')
 exact znV I ru ty e λtk=>⟨.bl b,H,I.tok tk,rfl,q⟩
end
structure XD(K:am)(C:Addr)(up:ah):Prop where
 cd:∃cd,W.clsIn K C=some cd/\cd.mro=.ref C::up
 ty:W.typeIn K (.ref C)=some (.type "type")
structure XCal(P:Program)(w:World)(K:am)(mg:af)(bf:Heap)(x:Str)(C:Addr)(f:Str):Prop where
 ex:∃fI fd ps,XMk K C (some fI)/\zak K C f/\FnOk P w K mg bf CX0 1 fI fd ps (zrK K C f)/\zbp K fd ps []/\mg x=some (.ref C)
structure XCal0(K:am)(mg:af)(x:Str)(C:Addr):Prop where
 made:XMk K C none
 m:mg x=some (.ref C)
section
variable{X:Cx}{C:Addr}{f x:Str}{p pos:Pos}{e:Expr}{es:List Expr}{t:TA}
end
section
variable{X:Cx}
end
section
variable{X:Cx}
end
structure Told(K:am)(H:Hp)(a C:Addr)(f:Str)(v:V):Prop where
 ex:∃d ws,H a=some (XcO a C (some d) ws)/\H d=some (.xd [(f,v)])
structure Cl where
 n:Int
 wt:Int
 wb:Int
 st:Int
 sb:Int
 came:Int
structure Cl.Ok(c:Cl):Prop where
 n0:0<=c.n
 w0:0<=c.wt
 w1:c.wt<=1000000
 w2:1<=c.wb
 w3:c.wb<=12
 s0:0<=c.st
 s1:c.st<=1000000
 s2:1<=c.sb
 s3:c.sb<=12
 c0:0<=c.came
 c1:c.came<=1000000000000000
structure IsCl(K:am)(H:Hp)(p:Addr)(c:Cl):Prop where
 ex:∃pw ps,H p=some (.tup [.int c.n,.ref pw,.ref ps,.int c.came])/\H pw=some (.tup [.int c.wt,.int c.wb])/\H ps=some (.tup [.int c.st,.int c.sb])
def IsCl.same{K:am}{H H':Hp}{p:Addr}{c:Cl}(s:Same H H')(h:IsCl K H p c):IsCl K H' p c:=let ⟨pw,ps,a,b,d⟩:=h.ex;⟨pw,ps,s _ _ a,s _ _ b,s _ _ d⟩
def But(p:Addr)(H H':Hp):Prop:=∀b o,b≠p->H b=some o->H' b=some o
def But.trans{p:Addr}{H H1 H2:Hp}(a:But p H H1)(b:But p H1 H2):But p H H2:=λc o hc h=>b c o hc (a c o hc h)
def Same.toBut{p:Addr}{H H':Hp}(s:Same H H'):But p H H':=λc o _ h=>s c o h
def Same.but{p:Addr}{H0 H H':Hp}(s:Same H0 H)(n:H0 p=none)(b:But p H H'):Same H0 H':=λc o h=>b c o (zaA h n) (s c o h)
def But.upd(p:Addr)(H:Hp)(o:HO):But p H (L2.upd H p o):=λc u hc h=>by rw[zau hc];exact h
def IsCl.but{K:am}{H H':Hp}{p q:Addr}{c:Cl}{xs:List V}(b:But q H H')(hq:H q=some (.lst xs))(h:IsCl K H p c):IsCl K H' p c:=by
 obtain⟨pw,ps,e1,e2,e3⟩:=h.ex
 exact⟨pw,ps,b _ _ (zpt e1 hq (by intro z;cases z)) e1,b _ _ (zpt e2 hq (by intro z;cases z)) e2,b _ _ (zpt e3 hq (by intro z;cases z)) e3⟩
section
variable{X:Cx}
def zsU:V->V->V->Hp->(Hp->Prop)->Prop:=λo i v H Q=>∃p xs k j,o=.ref p/\i=.int k/\H p=some (.lst xs)/\ixN xs.length k=some j/\∀H2,But p H H2->H2 p=some (.lst (xs.set j v))->Q H2
def znW:PSet X zsU:=by
 intro ai s σ H o i v ov iv u Q I ro ri rv h
 obtain⟨p,xs,k,j,e1,e2,hp,hj,q⟩:=h
 exact zpB ai s σ H o i v ov iv u Q I ro ri rv ⟨p,xs,k,j,e1,e2,hp,hj,q _ (But.upd p H _) zan⟩
def zpI:V->List V->Hp->VK->Prop:=λx vs H Q=>∃l xs y,x=.ref l/\vs=[y]/\H l=some (.lst xs)/\xs.length<sizeLine/\∀H2,But l H H2->H2 l=some (.lst (xs++[y]))->Q .non H2
def zfJ:MtR X "list.append" zpI:=by
 intro ai s σ H x vs v us Q I rx rv h
 obtain⟨l,xs,y,e1,e2,hp,hz,q⟩:=h
 exact zhn ai s σ H x vs v us Q I rx rv ⟨l,xs,y,e1,e2,hp,hz,q _ (But.upd l H _) zan⟩
def zhs:zda X (.type "list") (λxs H Q=>∃p ys,xs=[.ref p]/\(SqL X.K H p ys\/SqT X.K H p ys)/\∀l H2,Same H H2->H l=none->H2 l=some (.lst ys)->Q (.ref l) H2):=by
 intro ai s σ H xs us Q I r h
 obtain⟨p,ys,e,h,q⟩:=h
 exact zjW ai s σ H xs us Q I r ⟨p,ys,e,h,λl n=>q l _ (zbq n _) n zan⟩
def zuf(K:am):V->Option Int->Option Int->Hp->VK->Prop:=λx lo hi H Q=>∃a xs,x=.ref a/\SqL K H a xs/\∀p H2,Same H H2->H p=none->H2 p=some (.lst (cutV xs lo hi))->Q (.ref p) H2
def bg:SlR X (zuf X.K):=by
 intro ai s σ H v u vl vu lo hi sl Q I rx hs pl pu h
 obtain⟨a,xs,e,hx,q⟩:=h
 exact zrC ai s σ H v u vl vu lo hi sl Q I rx hs pl pu ⟨a,xs,e,hx,λp n=>q p _ (zbq n _) n zan⟩
end
structure IsW(H:Hp)(p:Addr)(t b:Int):Prop where
 at_:H p=some (.tup [.int t,.int b])
 t0:0<=t
 t1:t<=1000000
 b0:1<=b
 b1:b<=12
end L2
namespace L2
open PySem
def wtop(c:Cl)(t:Int):Int:=c.wt*c.sb+(t-c.came)*c.st*c.wb
def wbot(c:Cl):Int:=c.wb*c.sb
def zht{c:Cl}(h:c.Ok):0<wbot c:=pk (by have:=h.w2;omega) (by have:=h.s2;omega)
def gap(c d:Cl)(t:Int):Int:=wtop c t*wbot d-wtop d t*wbot c
def zlR(c d:Cl)(t:Int):gap d c t = - gap c d t:=by unfold gap;omega
def tie(c d:Cl):Bool:=decide (c.came<d.came\/(c.came=d.came/\c.n<d.n))
def ahd(c d:Cl)(t:Int):Bool:=if gap c d t=0 then tie c d else decide (0<gap c d t)
def zpJ{c d:Cl}(h:c.n≠d.n):tie d c = !tie c d:=by
 unfold tie
 rw[sw,Bool.not_eq_true',sy,rn]
 omega
def zlS{c d:Cl}(h:c.n≠d.n)(t:Int):ahd d c t = !ahd c d t:=by
 unfold ahd
 rw[zlR c d t]
 by_cases z:gap c d t=0
 ·rw[if_pos (by omega),if_pos z,zpJ h]
 ·rw[if_neg (by omega),if_neg z,sw,Bool.not_eq_true',sy,rn]
  omega
inductive Pass(b l:Cl)(t:Int):V->Prop where
 | no (h:∀u,t<=u->ahd b l u=false):Pass b l t .non
 | at_ (u:Int) (h1:t<u) (h2:ahd b l u=true) (h3:∀v,t<=v->v<u->ahd b l v=false):Pass b l t (.int u)
structure PassOf(c d:Cl)(t:Int)(v:V):Prop where
 one:ahd c d t=true->Pass d c t v
 two:ahd c d t=false->Pass c d t v
structure IsLc(H:Hp)(l:Addr)(n:Int)(c:Int):Prop where
 ex:∃w s t b u d,H l=some (.lst [.int n,.ref w,.ref s,.int c])/\IsW H w t b/\IsW H s u d
 c0:0<=c
 c1:c<=1000000000000000
end L2
namespace L2
open PySem PySem.Spec PyProof.Rows
section
variable{X:Cx}
end
def Inv.turnedL{X:Cx}{ai:ae}{σ:St}{H:Hp}{s:Shared}{h':Heap}{t':Nat}{fp:List Addr}(I:Inv X ai σ H s)(k:∀b o,b∉fp->s.heap.get? b=some o->h'.get? b=some o)(hf:∀b∈fp,FpOk X ai H b):
    Inv X ai σ H { s with heap:=h',toks:=t' }:=by
 have nit:∀b u,H b=some u->b∉fp:=λb u e z=>by rw[(hf b z).1]at e;cases e
 refine I.step (g':=s.gens) (d':=s.drawn) (ch:=fp) (λb hb=>?_) (λb o _ _ hc e _=>k b o hc e) (λb o _ _ hc e _=>⟨o.slots,k b o hc e⟩) (λ_ _ _ _ n=>n)
  (λb o hc e=>⟨o,k b o hc e⟩) (λ_ _ e=>e) (λ_ _ _ e=>e) (λ_ _ _ e=>e) (λm hm=>?_) (λb u e=>?_) I.bare
 ·obtain⟨f0,f1,f2,f3,f4,f5⟩:=hf b hb
  exact⟨f3,f1,f4,f5⟩
 ·obtain⟨o,es,ep,ho,r⟩:=hm
  exact⟨o,es,ep,k _ o (λz=>(hf _ z).2.1 rfl) ho,r⟩
 ·refine(I.hok b u e).stay (λc v hc q=>k c v ?_ q) (λ_ q=>q) (λ_ _ q=>q) λ_ _ _ q=>q
  rcases hc with z | z
  ·rw[z];exact nit b u e
  ·exact nit c _ z
def Ite(K:am)(a:Addr):It:=
 ⟨λi H=>∃xs x,SqL K H a xs/\xs[i]?=some x,λi H x H'=>∃p y,x=.ref p/\Same H H'/\H p=none/\H' p=some (.tup [.int i,y])/\∀xs,SqL K H a xs->xs[i]?=some y,λi H=>∃xs,SqL K H a xs/\xs.length<=i⟩
def znX{P:Program}{w:World}{K:am}{elts:List Expr} {x1} {pos:Pos} (a e it:Addr) (hne:e≠it):
    Turn P w K (.Tuple elts x1 pos) (Ite K a) [e,it] e (λi h=>(∃old,IsEnum h e it i old)/\h.IsListIter it a i) where
 mem:=by simp
 obj:=λi h st b hb=>by
  obtain⟨⟨old,he⟩,o,ho,c,d⟩:=st
  rcases mem_cons.mp hb with rfl | hb
  ·exact⟨_,he,λv z=>by
    have z':Data.fields _=Data.cell v:=z
    cases z'⟩
  ·have e:b=it:=by simpa using hb
   subst e
   exact⟨o,ho,λv z=>by rw[d]at z;cases z⟩
 keep:=λi h h' st k=>⟨let ⟨old,he⟩:=st.1;⟨old,k e (by simp) _ he⟩,st.2.at λo q=>k it (by simp) o q⟩
 item:=by
  intro X hP hw hK hc i ai s σ H E I hf st hg
  subst hP hw hK
  obtain⟨xs,x,hq,hx⟩:=hg
  obtain⟨its,rv,p,hz⟩:=I.list hq
  obtain⟨u,hu,ru⟩:=rv.get hx
  obtain⟨⟨old,he⟩,hit⟩:=st
  have el:e<s.heap.objs.size:=tG he
  have il:it<s.heap.objs.size:=by obtain⟨o,y,_⟩:=id hit;exact tG y
  refine wpAny_pyNext_enum_item he hit p.isList (x:=u) (by simpa using hu) hne λh' ho hit' hT hsz hk=>?_
  refine⟨_,rfl,wpAny_letOwnedTupleGo_enum ho λh'' he'' hs''=>?_⟩
  have fr:H s.heap.objs.size=none:=I.hok.fresh (tD _)
  have I1:Inv X ai σ (upd H s.heap.objs.size (.tup [.int i,x])) { s with heap:=s.heap.push { cls:=.type "tuple",data:=.seq #[.int i s.toks,u] },toks:=s.toks }:=
   I.laid (λb o q=>tu _ q) (tD _) ⟨by show 2<=sizeLine;decide,[.int i s.toks,u],.cons ⟨_,rfl⟩ (.cons ru .nil),_,tH _ rfl,rfl,_,rfl⟩
  have hf1:∀b∈[e,it],FpOk X ai (upd H s.heap.objs.size (.tup [.int i,x])) b:=λb hb=>by
   have nb:b≠s.heap.objs.size:=by
    simp only[mem_cons,not_mem_nil,or_false]at hb
    rcases hb with rfl | rfl
    ·exact tJ el
    ·exact tJ il
   exact⟨by rw[zau nb];exact(hf b hb).1,(hf b hb).2⟩
  have I2:Inv X ai σ (upd H s.heap.objs.size (.tup [.int i,x])) { s with heap:=h'',toks:=s.toks+1 }:=by
   refine Inv.turnedL (s := { s with heap:=s.heap.push { cls:=.type "tuple",data:=.seq #[.int i s.toks,u] },toks:=s.toks }) (fp:=[e,it]) I1 (λb o hb q=>?_) hf1
   have q:(s.heap.push { cls:=.type "tuple",data:=.seq #[.int i s.toks,u] }).get? b=some o:=q
   simp only[mem_cons,not_mem_nil,or_false,not_or]at hb
   refine hs''.extBut b o hb.1 ?_
   rcases Heap.get?_push_cases q with⟨e1,e2⟩ | q'
   ·subst e1 e2
    exact hT
   ·exact hk b o hb.1 hb.2 q'
  refine⟨.ref s.heap.objs.size,_,I2,rfl,⟨_,x,rfl,zbq fr _,fr,zan,λys hy=>by rw[I.list_inj hy hq];exact hx⟩,⟨⟨_,by simpa using he''⟩,hit'.extBut hs''.extBut (Ne.symm hne)⟩,λb hb=>(hf1 b hb).1⟩
 done:=by
  intro X hP hw hK hc i ai s σ H E I hf st hg
  subst hP hw hK
  obtain⟨xs,hq,hx⟩:=hg
  obtain⟨its,rv,p,hz⟩:=I.list hq
  obtain⟨f0,f1,f2,f3,f4,f5⟩:=hf it (by simp)
  obtain⟨⟨old,he⟩,hit⟩:=st
  have hl:=rv.length
  exact wpAny_pyNext_enum_end (I.ok.hd hc) he hit p.isList (by simp;omega) λh' eb=>⟨rfl,I.turned (t':=s.toks) (λb o hb e=>eb b o hb e) f0 f1 f3 f4 f5⟩
 self:=λ_ _ _ _ _ st h=>let ⟨_,he⟩:=st.1;wpAny_pyIter_enum he h
def ft:bootBuiltins "enumerate" = some (.type "enumerate"):=by decide +kernel
def zug(K:am)(ta:TA):TI:=λσ H R=>ta σ H λvs H1=>∃a,vs=[.ref a]/\(∃xs,SqL K H1 a xs)/\R (Ite K a) H1
theorem znY{X:Cx}{elts:List Expr} {x1} {pos':Pos} {a:Expr} {ta:TA} {p pos:Pos} (hg:Gl X "enumerate") (hm:X.mg "enumerate" = none) (ha:PA X [a] ta) (hs:starEach [a] X.env=[(false,eval a X.env)]:=by rfl):
  PI X (.Tuple elts x1 pos') (.Call (.Name "enumerate" p) [a] [] pos) (zug X.K ta):=by
 with_unfolding_all
  intro ai s σ H R I h
  refine Call_ (zgG I hg hm ft (sX (thn (ha pos ai s σ H _ I h) λus s1 ⟨vs,H1,I1,r1,q1⟩=>?_) hs rfl))
  obtain⟨l,e,⟨xs,hq⟩,q⟩:=q1
  subst e
  cases r1 with
  | cons r rr=>
    cases rr
    cases r
    obtain⟨its,rv,pl,hz⟩:=I1.list hq
    refine call_enumerate_list pl.isList λh' he hit hsz hk=>?_
    refine wpAny_pyIter_enum he ?_
    have I2:Inv X ai σ H1 { s1 with heap:=h',toks:=s1.toks }:=I1.kept hk
    refine⟨s1.heap.objs.size+1,[s1.heap.objs.size+1,s1.heap.objs.size],_,_,H1,rfl,I2,znX l _ _ (Nat.succ_ne_self _),⟨⟨_,he⟩,hit⟩,λb hb=>?_,q⟩
    simp only[mem_cons,not_mem_nil,or_false]at hb
    rcases hb with rfl | rfl
    ·exact I1.fpOk (sj _) (I1.hok.fresh (sj _))
    ·exact I1.fpOk (tD _) (I1.hok.fresh (tD _))
def zlT{K:PySem.W.Frag}{a:Addr}{xs:List V}{g:TG}{tb:TS}{D:Ends}{σ:St}{H:Hp}(Pv:Nat->St->Hp->Prop)(h0:Pv 0 σ H)(hl:∀i σ H,i<=xs.length->Pv i σ H->SqL K H a xs)
    (hs:∀i x σ H p H1,xs[i]?=some x->Pv i σ H->Same H H1->H p=none->H1 p=some (.tup [.int i,x])->g (.ref p) σ H1 λσ2 H2=>tb { D with nx:=Pv (i+1),ct:=Pv (i+1),bk:=D.nx } σ2 H2) (hd:∀ σ H,Pv xs.length σ H->D.nx σ H):
    ∃W:Nat->Nat->St->Hp->Prop,(∃m,W 0 m σ H)/\∀i m σ H,W i m σ H->
     ((Ite K a).stop i H/\D.nx σ H)\/((Ite K a).go i H/\∃N:St->Hp->Prop,(∀ σ' H',N σ' H'->∃m',m'<m/\W (i+1) m' σ' H')/\∀x H',(Ite K a).yld i H x H'->g x σ H' λσ2 H2=>tb { D with nx:=N,ct:=N,bk:=D.nx } σ2 H2):=by
 refine⟨λi m σ H=>m=xs.length-i/\i<=xs.length/\Pv i σ H,⟨xs.length,by simp,tU _,h0⟩,?_⟩
 rintro i m σ H ⟨rfl,hi,p⟩
 have q:=hl i σ H hi p
 by_cases hlt:i<xs.length
 ·refine .inr ⟨⟨xs,xs[i],q,by simp[hlt]⟩,Pv (i+1),λσ' H' p'=>⟨xs.length-(i+1),by omega,rfl,hlt,p'⟩,λx H' y=>?_⟩
  obtain⟨pp,y',rfl,sm,n0,h1,y⟩:=y
  exact hs i y' σ H pp H' (y xs q) p sm n0 h1
 ·have e:i=xs.length:=by omega
  subst e
  exact .inl ⟨⟨xs,q,tD _⟩,hd σ H p⟩
section
variable{X:Cx}
def znZ(hc:X.calm=true):zda X (.builtin "min") (λxs H Q=>∃(a:Addr)(ns:List Int),xs=[.ref a]/\SqL X.K H a (ns.map V.int)/\0<ns.length/\∀M,M∈ns->(∀y,y∈ns->M<=y)->Q (.int M) H):=by
 intro ai s σ H xs us Q I r h
 obtain⟨a,ns,rfl,hq,hn,q⟩:=h
 obtain⟨u,rfl,r1⟩:=zdR r
 cases(show u=Value.ref a from r1)
 obtain⟨its,rv,p,hz⟩:=I.list hq
 have hi:IntsAre its ns:=ziK rv
 obtain⟨xs,e⟩:=hi.allInts.items
 have hns:ns=xs.toList.map (·.1):=by
  rw[<-hi.numsOf,<-nums_intItems,<-e]
 have hsz:0<xs.size:=by
  have h3:=hn;rw[hns,tq,Array.length_toList]at h3;exact h3
 have hl:=p.isList
 rw[e]at hl
 refine min_intList (I.ok.hd hc) hl hsz λv h' tk hv hk=>?_
 obtain⟨t,rfl⟩:=intItems_at hv
 obtain⟨h1,h2⟩:=argBest_lt (numAt xs) (xs.size-1)
 refine⟨.int _,H,I.kept hk,⟨_,rfl⟩,q _ ?_ λy hy=>?_⟩
 ·rw[hns,numAt_eq];exact getD_mem (by rw[tq,Array.length_toList];omega)
 ·rw[hns]at hy
  obtain⟨j,hj,rfl⟩:=mem_getD hy
  rw[tq,Array.length_toList]at hj
  rw[<-numAt_eq];exact h2 j (by omega)
end
def refV:V->Bool
 | .ref _=>true
 | _=>false
def Deq(K:am)(H:Hp):Nat->V->V->Prop
 | 0,x,y=>x=y/\(zcc x=true\/refV x=true)
 | n+1,x,y=>(x=y/\(zcc x=true\/refV x=true))\/∃a b xs ys,x=.ref a/\y=.ref b/\((SqT K H a xs/\SqT K H b ys)\/(SqL K H a xs/\SqL K H b ys))/\xs.length=ys.length/\∀(j:Nat) u v,xs[j]?=some u->ys[j]?=some v->Deq K H n u v
theorem Deq.flat{K:am}{H:Hp}{x:V}(n:Nat)(h:zcc x=true):Deq K H n x x:=by
 cases n with
 | zero=>exact⟨rfl,.inl h⟩
 | succ n=>exact .inl ⟨rfl,.inl h⟩
def Deq.int{K:am}{H:Hp}(n:Nat)(i:Int):Deq K H n (.int i) (.int i):=Deq.flat n rfl
def Deq.tup{K:am}{H:Hp}{n:Nat}{a b:Addr}{xs ys:List V}(ha:SqT K H a xs)(hb:SqT K H b ys)(hl:xs.length=ys.length)(h:∀(j:Nat) u v,xs[j]?=some u->ys[j]?=some v->Deq K H n u v):Deq K H (n+1) (.ref a) (.ref b):=
 .inr ⟨a,b,xs,ys,rfl,rfl,.inl ⟨ha,hb⟩,hl,h⟩
def Deq.lst{K:am}{H:Hp}{n:Nat}{a b:Addr}{xs ys:List V}(ha:SqL K H a xs)(hb:SqL K H b ys)(hl:xs.length=ys.length)(h:∀(j:Nat) u v,xs[j]?=some u->ys[j]?=some v->Deq K H n u v):Deq K H (n+1) (.ref a) (.ref b):=
 .inr ⟨a,b,xs,ys,rfl,rfl,.inr ⟨ha,hb⟩,hl,h⟩
def zpK{x:V}(h:zcc x=true):eqV x x=true:=by
 cases x<;>first | (cases h;done) | simp[eqV]
theorem zkZ{A:Around}{s:Shared}{x:V}{u v:Value}(rx:RelV x u)(ry:RelV x v)(h:zcc x=true\/refV x=true):SeqAt.EqAt A s u v true:=by
 rcases h with h | h
 ·have:=znE (A:=A) (s:=s) rx ry h h
  rw[zpK h]at this
  exact this
 ·cases x with
  | ref a=>
    cases(show u=Value.ref a from rx)
    cases(show v=Value.ref a from ry)
    exact qP _
  | _=>cases h
def zfb(n:Nat):(List.range n).all (λ_=>true)=true:=by
 rw[all_eq_true]
 intro _ _
 rfl
section
variable{X:Cx}{ai:ae}{σ:St}{H:Hp}{s:Shared}
def aQ{A:Around}{xs ys:List V}{its its2:ah}(r:Vals xs its)(r2:Vals ys its2)(h:∀(j:Nat) x y u v,xs[j]?=some x->ys[j]?=some y->RelV x u->RelV y v->SeqAt.EqAt A s u v true)
    (j:Nat) (h1:j<its.toArray.size) (h2:j<its2.toArray.size):SeqAt.EqAt A s its.toArray[j] its2.toArray[j] true:=by
 have l1:j<xs.length:=by rw[r.length];simpa using h1
 have l2:j<ys.length:=by rw[r2.length];simpa using h2
 obtain⟨u,eu,ru⟩:=r.get (tm l1)
 obtain⟨v,ev,rv⟩:=r2.get (tm l2)
 have e1:its.toArray[j]=u:=by
  have:=(List.getElem?_eq_some_iff.mp eu).2
  simpa using this
 have e2:its2.toArray[j]=v:=by
  have:=(List.getElem?_eq_some_iff.mp ev).2
  simpa using this
 rw[e1,e2]
 exact h j _ _ u v (tm l1) (tm l2) ru rv
theorem Deq.at(I:Inv X ai σ H s):∀(n:Nat){A:Around}{x y:V}{u v:Value},Deq X.K H n x y->RelV x u->RelV y v->A.units+n<cLine->SeqAt.EqAt A s u v true:=by
 intro n
 induction n with
 | zero=>
   intro A x y u v h rx ry hu
   obtain⟨rfl,h⟩:=h
   exact zkZ rx ry h
 | succ n ih=>
   intro A x y u v h rx ry hu
   rcases h with⟨rfl,h⟩ | ⟨a,b,xs,ys,rfl,rfl,hs,hl,h⟩
   ·exact zkZ rx ry h
   cases(show u=Value.ref a from rx)
   cases(show v=Value.ref b from ry)
   by_cases ab:a=b
   ·subst ab
    exact qP _
   refine SeqAt.EqAt.of_refs ab ?_
   have hu1:A.in1.units+n<cLine:=by rw[pE];omega
   rcases hs with⟨ha,hb⟩ | ⟨ha,hb⟩
   ·obtain⟨its,r,pl,hz⟩:=I.tuple ha
    obtain⟨its2,r2,pl2,hz2⟩:=I.tuple hb
    have e1:its.toArray.size=xs.length:=by simp[r.length]
    have e2:its2.toArray.size=ys.length:=by simp[r2.length]
    have z:=SeqAt.RcAt.tuples (s:=s) (e:=λ_=>true) pl pl2 (show A.units<cLine by omega) (aQ r r2 λj x y u v hx hy ru rv=>ih (h j x y hx hy) ru rv hu1)
    rw[zfb,e1,e2,hl,rp,rX]at z
    exact z
   ·obtain⟨its,r,pl,hz⟩:=I.list ha
    obtain⟨its2,r2,pl2,hz2⟩:=I.list hb
    have e1:its.toArray.size=xs.length:=by simp[r.length]
    have e2:its2.toArray.size=ys.length:=by simp[r2.length]
    have z:=SeqAt.RcAt.lists (s:=s) (e:=λ_=>true) pl.isList pl2.isList (by omega) (show A.units<cLine by omega) (aQ r r2 λj x y u v hx hy ru rv=>ih (h j x y hx hy) ru rv hu1)
    rw[zfb]at z
    exact z
end
section
variable{X:Cx}
def zrL(K:am)(n:Nat)(x y:V)(H:Hp):Prop:=∃a b xs ys,x=.ref a/\y=.ref b/\((SqT K H a xs/\SqT K H b ys)\/(SqL K H a xs/\SqL K H b ys))/\xs.length=ys.length/\∀(j:Nat) u v,xs[j]?=some u->ys[j]?=some v->Deq K H n u v
def zqB(n:Nat)(hu:X.A.units+(n+1)<cLine):OpR X (compareOp .NotEq) (λx y H Q=>zrL X.K n x y H/\Q (.bl false) H):=by
 intro ai s σ H x y v u Q I rx ry h
 obtain⟨⟨a,b,xs,ys,rfl,rfl,hs,hl,h⟩,q⟩:=h
 cases rx
 cases ry
 have hu1:X.A.in1.units+n<cLine:=by rw[pE];omega
 rcases hs with⟨ha,hb⟩ | ⟨ha,hb⟩
 ·obtain⟨its,r,pl,hz⟩:=I.tuple ha
  obtain⟨its2,r2,pl2,hz2⟩:=I.tuple hb
  have e1:its.toArray.size=xs.length:=by simp[r.length]
  have e2:its2.toArray.size=ys.length:=by simp[r2.length]
  refine SeqAt.RcNeAt.tuples (s:=s) (e:=λ_=>true) pl pl2 (show X.A.units<cLine by omega) (aQ r r2 λj x y u v hx hy ru rv=>Deq.at I n (h j x y hx hy) ru rv hu1) X.prog X.w X.xe _ ⟨.bl _,H,I,rfl,?_⟩
  rw[zfb,e1,e2,hl,rp,rX]
  exact q
 ·obtain⟨its,r,pl,hz⟩:=I.list ha
  obtain⟨its2,r2,pl2,hz2⟩:=I.list hb
  have e1:its.toArray.size=xs.length:=by simp[r.length]
  have e2:its2.toArray.size=ys.length:=by simp[r2.length]
  refine SeqAt.RcNeAt.lists (s:=s) (e:=λ_=>true) pl.isList pl2.isList (by omega) (show X.A.units<cLine by omega) (aQ r r2 λj x y u v hx hy ru rv=>Deq.at I n (h j x y hx hy) ru rv hu1) X.prog X.w X.xe _ ⟨.bl _,H,I,rfl,?_⟩
  rw[zfb]
  exact q
end
def Room.units9{k:Nat}{A:Around}(r:Room k A):A.units+(9+1)<cLine:=by have:=r.un;omega
end L2
namespace L2
open PySem
def fu(c d e:Cl)(t:Int):gap c e t*wbot d=gap c d t*wbot e+gap d e t*wbot c:=by
 unfold gap
 rw[pq,pq,pq]
 rw[show wtop c t*wbot e*wbot d=wtop c t*wbot d*wbot e by ac_rfl,show wtop e t*wbot c*wbot d=wtop e t*wbot d*wbot c by ac_rfl,show wtop d t*wbot e*wbot c=wtop d t*wbot c*wbot e by ac_rfl]
 omega
def eA{c d:Cl}{t:Int}:ahd c d t=true↔0<gap c d t\/(gap c d t=0/\tie c d=true):=by
 unfold ahd
 by_cases z:gap c d t=0
 ·rw[if_pos z]
  constructor
  ·intro h
   exact .inr ⟨z,h⟩
  ·rintro(h | h)
   ·omega
   ·exact h.2
 ·rw[if_neg z,sy]
  constructor
  ·exact .inl
  ·rintro(h | h)
   ·exact h
   ·exact absurd h.1 z
def fw{c d e:Cl}(h1:tie c d=true)(h2:tie d e=true):tie c e=true:=by
 unfold tie at *
 rw[sy]at *
 omega
def eE{c d e:Cl}{t:Int}(oc:c.Ok)(od:d.Ok)(oe:e.Ok)(h1:ahd c d t=true)(h2:ahd d e t=true):ahd c e t=true:=by
 rw[eA]at *
 have k:=fu c d e t
 have b1:=zht oc
 have b2:=zht od
 have b3:=zht oe
 have g1:0<=gap c d t:=by omega
 have g2:0<=gap d e t:=by omega
 have m1:=qA g1 (show 0<=wbot e by omega)
 have m2:=qA g2 (show 0<=wbot c by omega)
 rcases h1 with h1 | ⟨z1,h1⟩
 ·have:=pk h1 b3
  refine .inl (Int.not_le.mp λle=>?_)
  have:=sY le (show 0<=wbot d by omega)
  omega
 ·rcases h2 with h2 | ⟨z2,h2⟩
  ·have:=pk h2 b1
   refine .inl (Int.not_le.mp λle=>?_)
   have:=sY le (show 0<=wbot d by omega)
   omega
  ·refine .inr ⟨?_,fw h1 h2⟩
   rw[z1,z2,Int.zero_mul,Int.zero_mul,Int.add_zero]at k
   rcases Int.mul_eq_zero.mp k with z | z
   ·exact z
   ·omega
def ins(t:Int)(c:Cl):List Cl->List Cl
 | []=>[c]
 | d::ds=>if ahd d c t=true then d::ins t c ds else c::d::ds
def ord(cs:List Cl)(t:Int):List Cl:=cs.foldl (λacc c=>ins t c acc) []
theorem bh(t:Int)(c:Cl):∀l,(ins t c l).Perm (c::l)
 | []=>.refl _
 | d::ds=>by
   unfold ins
   split
   ·exact((bh t c ds).cons d).trans (.swap c d ds)
   ·exact .refl _
theorem zhu(t:Int):∀(cs acc:List Cl),(cs.foldl (λacc c=>ins t c acc) acc).Perm (cs++acc)
 | [],acc=>.refl _
 | c::cs,acc=>by
   rw[List.foldl_cons]
   refine(zhu t cs (ins t c acc)).trans ?_
   refine((bh t c acc).append_left cs).trans ?_
   exact List.perm_middle
def zeh(cs:List Cl)(t:Int):(ord cs t).Perm cs:=by
 have:=zhu t cs []
 rw[sM]at this
 exact this
structure Good(cs:List Cl):Prop where
 ok:∀c,c∈cs->c.Ok
 nd:(cs.map (·.n)).Nodup
abbrev Srt(t:Int)(l:List Cl):Prop:=l.Pairwise λc d=>ahd c d t=true
theorem eF{t:Int}{c:Cl}(oc:c.Ok):∀{l:List Cl},(∀d,d∈l->d.Ok/\d.n≠c.n)->Srt t l->Srt t (ins t c l)
 | [],_,_=>List.pairwise_singleton _ _
 | d::ds,ho,hs=>by
   obtain⟨h1,h2⟩:=pairwise_cons.mp hs
   obtain⟨od,nd⟩:=ho d (tP ..)
   have ho':∀e,e∈ds->e.Ok/\e.n≠c.n:=λe he=>ho e (tO _ he)
   unfold ins
   split
   ·rename_i hd
    refine pairwise_cons.mpr ⟨λe he=>?_,eF oc ho' h2⟩
    rcases mem_cons.mp ((bh t c ds).mem_iff.mp he)with rfl | he
    ·exact hd
    ·exact h1 e he
   ·rename_i hd
    have cd:ahd c d t=true:=by
     rw[zlS nd]
     simpa using hd
    refine pairwise_cons.mpr ⟨λe he=>?_,hs⟩
    rcases mem_cons.mp he with rfl | he
    ·exact cd
    ·exact eE oc od (ho' e he).1 cd (h1 e he)
theorem ziM(t:Int):∀(cs acc:List Cl),Good (cs++acc)->Srt t acc->Srt t (cs.foldl (λacc c=>ins t c acc) acc)
 | [],acc,_,h=>h
 | c::cs,acc,g,h=>by
   rw[List.foldl_cons]
   have g':Good (cs++ins t c acc):=by
    have pm:(cs++ins t c acc).Perm (c::cs++acc):=((bh t c acc).append_left cs).trans List.perm_middle
    exact⟨λe he=>g.ok e (pm.mem_iff.mp he),(pm.map (·.n)).nodup_iff.mpr g.nd⟩
   refine ziM t cs _ g' (eF (g.ok c (by simp)) (λd hd=>⟨g.ok d (by simp[hd]),λe=>?_⟩) h)
   have nd:=g.nd
   rw[List.cons_append,sf,nodup_cons]at nd
   exact nd.1 (by rw[<-e];exact mem_map.mpr ⟨d,by simp[hd],rfl⟩)
def zrM{cs:List Cl}(g:Good cs)(t:Int):Srt t (ord cs t):=ziM t cs [] (by rw[sM];exact g) .nil
def eG{c d:Cl}{t:Int}(h1:ahd c d t=true)(h2:ahd d c t=true):False:=by
 rw[eA]at *
 rw[zlR c d t]at h2
 have z:gap c d t=0:=by omega
 have t1:tie c d=true:=by
  rcases h1 with h | h
  ·omega
  ·exact h.2
 have t2:tie d c=true:=by
  rcases h2 with h | h
  ·omega
  ·exact h.2
 unfold tie at t1 t2
 rw[sy]at t1 t2
 omega
theorem zlU{t:Int}:∀{l m:List Cl},l.Perm m->Srt t l->Srt t m->l=m
 | [],m,p,_,_=>(List.Perm.nil_eq p)
 | c::l,[],p,_,_=>absurd (List.Perm.length_eq p) (by simp)
 | c::l,d::m,p,hl,hm=>by
   obtain⟨l1,l2⟩:=pairwise_cons.mp hl
   obtain⟨m1,m2⟩:=pairwise_cons.mp hm
   have e:c=d:=by
    rcases mem_cons.mp (p.mem_iff.mp (tP (a:=c) (l:=l)))with e | hc
    ·exact e
    ·rcases mem_cons.mp (p.mem_iff.mpr (tP (a:=d) (l:=m)))with e | hd
     ·exact e.symm
     ·exact(eG (l1 d hd) (m1 c hc)).elim
   subst e
   rw[zlU ((List.perm_cons c).mp p) l2 m2]
def zlV{cs l:List Cl}{t:Int}(g:Good cs)(p:l.Perm cs)(h:Srt t l):l=ord cs t:=zlU (p.trans (zeh cs t).symm) h (zrM g t)
end L2
namespace L2
open PySem PySem.Spec PyProof.Rows
theorem aC{K:am}{a:Addr}{xs:List V}{js:List Nat}{tc:TT}{te:TE}{σ:St}{H1:Hp}{Q:VK}(p:Nat->Bool)(f:Nat->V)(hl:SqL K H1 a xs)
  (ht:∀i x Hh (Q':Bool->Hp->Prop),xs[i]?=some x->Same H1 Hh->(∀Hh',Same Hh Hh'->Q' (p i) Hh')->tc (some x::caps σ js) Hh Q')
  (he:∀i x Hh (Q':VK),xs[i]?=some x->p i=true->Same H1 Hh->(∀Hh',Same Hh Hh'->Q' (f i) Hh')->te (some x::caps σ js) Hh Q')
  (hz:xs.length<sizeLine) (q:∀D H2,Same H1 H2->H1 D=none->H2 D=some (.lst (((List.range xs.length).filter p).map f))->Q (.ref D) H2):
  zep (Itl K a) js tc te σ H1 Q:=by
 intro D H2 s2 hD h2
 refine⟨λi m acc H3=>m=xs.length-i/\i<=xs.length/\acc=((List.range i).filter p).map f/\Same H1 H3/\H3 D=some (.lst acc),⟨_,rfl,tU _,by simp,s2,h2⟩,?_⟩
 rintro i m acc H3 ⟨rfl,hi,ea,s3,h3⟩
 have hl3:SqL K H3 a xs:=s3.seq hl
 have hll:acc.length<=xs.length:=by
  rw[ea,tq]
  refine tM (t6 _ _) ?_
  rw[sU]
  exact hi
 refine⟨h3,by omega,?_⟩
 by_cases hlt:i<xs.length
 ·have hx:xs[i]?=some xs[i]:=tm hlt
  refine .inr ⟨⟨xs,_,hl3,hx⟩,λy H4 z=>?_⟩
  obtain⟨e,ey⟩:=z
  have ey2:=ey xs hl3
  subst e
  refine ht i y _ _ ey2 s3 λH5 s5=>?_
  have h5:=s5 _ _ h3
  have s35:=s3.trans s5
  have tk:(List.range (i+1)).filter p=(List.range i).filter p++(if p i=true then[i]else[]):=by
   rw[ph,rA]
   congr 1
   cases h:p i<;>simp[h]
  cases hp:p i with
  | true=>
    refine iteT (he i y _ _ ey2 hp s35 λH6 s6=>⟨s6 _ _ h5,λH7 k7 h7=>⟨xs.length-(i+1),by omega,rfl,hlt,?_,λb o e=>?_,h7⟩⟩)
    ·rw[tk,hp,if_pos rfl,tV,<-ea]
     rfl
    ·by_cases hb:b=D
     ·subst hb
      rw[hD]at e
      cases e
     ·exact k7 b o hb (s6 b o (s35 b o e))
  | false=>
    refine iteF ⟨xs.length-(i+1),by omega,rfl,hlt,?_,s35,h5⟩
    rw[tk,hp,if_neg tE,sM]
    exact ea
 ·have e:i=xs.length:=by omega
  subst e
  refine .inl ⟨⟨xs,hl3,tD _⟩,?_⟩
  rw[ea]at h3
  exact q D _ s3 hD h3
def zbY(n:Nat):(List.range n).filter (λ_=>true)=List.range n:=by
 rw[filter_eq_self]
 intro _ _
 rfl
def itm{α:Type}(xs:List α)(g : α->V)(i:Nat):V:=match xs[i]? with
 | some x=>g x
 | none=>.non
theorem zfK{α:Type}(g : α->V):∀xs:List α,(List.range xs.length).map (itm xs g)=xs.map g
 | []=>rfl
 | x::xs=>by
   rw[length_cons,sW,sf,tW,sf,<-zfK g xs]
   congr 1
structure IsCs(K:am)(H:Hp)(l:Addr)(ps:List (Addr × Cl)):Prop where
 at_:H l=some (.lst (ps.map λq=>V.ref q.1))
 cl:∀q,q∈ps->IsCl K H q.1 q.2
def IsCs.same{K:am}{H H':Hp}{l:Addr}{ps:List (Addr × Cl)}(s:Same H H')(h:IsCs K H l ps):IsCs K H' l ps:=⟨s _ _ h.at_,λq hq=>(h.cl q hq).same s⟩
theorem But.free{a p:Addr}{H H2:Hp}{o:HO}(k:But a H H2)(h2:H2 a=some o)(n:H2 p=none):H p=none:=by
 cases e:H p with
 | none=>rfl
 | some u=>
   by_cases z:p=a
   ·rw[z,h2]at n
    cases n
   ·rw[k _ _ z e]at n
    cases n
def zsV{n:Nat}{i:Int}(h0:0<=i)(h1:i<n):ixN n i=some i.toNat:=by
 unfold ixN
 rw[if_pos h0,if_pos h1]
structure St3(H:Hp)(a:Addr):Prop where
 ex:∃p q r:Int,H a=some (.lst [.int p,.int q,.int r])
def zrN(c d:Cl):HT.lexLt [c.came,c.n] [d.came,d.n]=tie c d:=by
 rw[HT.lexLt_cons,HT.lexLt_cons,HT.lexLt_nil_nil]
 unfold tie
 by_cases k:c.came=d.came
 ·rw[if_pos k]
  by_cases k2:c.n=d.n
  ·rw[if_pos k2,eq_comm,rn]
   omega
  ·rw[if_neg k2,decide_eq_decide]
   omega
 ·rw[if_neg k,decide_eq_decide]
  omega
section
variable{X:Cx}{tg:Expr}
end
def zeu{X:Cx}{iter elt:Expr}{x y:Str}{i:Nat}{px py spos:Pos}{ifs:List Expr}{scope:Scope}{pos:Pos}{wi:TI}{N:List Str}{js:List Nat}{tc:TT}{te:TE}
    (hN:X.N.Nodup) (hiN:X.N[i]?=some y) (hyl:X.env.scope.names.lookup y=some .local)
    (hc:X.calm=true) (S:CompScope X scope x N js) (hi:PI X (.Name x px) iter wi)
    (ht:∀cl C s₀ H₀ ex,zhq (zaQ X N scope cl C s₀ H₀ ex) ifs tc) (he:∀cl C s₀ H₀ ex,PE (zaQ X N scope cl C s₀ H₀ ex) elt te)
    (hsw:swapsWith (.ListComp elt [⟨.Name x px,iter,ifs,0⟩] scope pos) (some (.Name y py)) spos.line X.env=pure true:=by rfl)
    (hs:∀x,foldedSetIterable iter X.env x=pure x:=by intro _;rfl):
    PS X (.Assign [.Name y py] (.ListComp elt [⟨.Name x px,iter,ifs,0⟩] scope pos) spos) (tAsg (zrH wi js tc te) (zhf i)):=by
 with_unfolding_all
  intro ai s σ H DD I h
  rw[exec_Assign_Name_used _ _ _ _ hsw]
  refine tw (rO (tw ?_))
  show wpAny _ X.A (do let _ <-comprehension (.ListComp elt [⟨.Name x px,iter,ifs,0⟩] scope pos) scope X.env _ (newList []) false (eval iter X.env) (some (assign (.Name y py) X.env))) _ _ s
  refine tw (so (zjY (QQ:=λ_ s'=>SP X ai DD .next s') hc S hi ht he hs I h λ{cl C D s2 s5 H2 H4 fp o} hC hD below I2 f2 I5 qn a=>?_) (λ_ s' hq=>tI (tI hq)) λ_ _ e=>e)
  obtain⟨m5,n5,_⟩:=I5.loc
  have u5:=I5.bf
  have nC:∀b o,s2.heap.get? b=some o->b≠C:=λb o e=>(below b (tG e)).1
  have IX:Inv X ai σ H4 s5:=by
   refine I2.call' (s':=s5) (ch:=fp) I5.os ?_ I5.hok I5.bare λb hb=>⟨(f2 b hb).2.2.2.1,(f2 b hb).2.1,(f2 b hb).2.2.2.2.1,(f2 b hb).2.2.2.2.2⟩
   exact⟨u5.keep,u5.slot,u5.free,u5.there,u5.tups,u5.frzs,u5.tbls⟩
  obtain⟨g0,g1,g2,g3,g4,g5⟩:=I2.fpOk (b:=C) (H':=H4) (by rw[hC];exact sj _) I5.free
  refine pd (zhc IX hN hiN (.inl hyl) (v:=.ref D) rfl (λs6 I6 ⟨aa,sb6,ha⟩=>?_) (.inr hyl))
  have hCa:C≠aa:=by
   rcases ha with rfl | ha
   ·exact g1
   ·exact λz=>g4 _ _ ha z.symm
  refine⟨m5,n5.sameBut sb6 hCa,λh' sb=>⟨_,H4,?_,qn⟩⟩
  exact I6.turned (t':=s6.toks) (λb o hb e=>sb.extBut b o hb e) g0 g1 g3 g4 g5
def zqC:bootBuiltins "any" = some (.builtin "any"):=by decide +kernel
section
variable{X:Cx}
end
end L2
namespace L2
open PySem.W PyProof.Rows
structure Tot(n:Nat)(lt:Nat->Nat->Bool):Prop where
 asym:∀i j,i<n->j<n->lt i j=true->lt j i=false
 tot:∀i j,i<n->j<n->i≠j->lt i j=false->lt j i=true
 trans:∀i j k,i<n->j<n->k<n->lt i j=true->lt j k=true->lt i k=true
def Asks{α:Type}(n:Nat)(lt:Nat->Nat->Bool):KasT α->(α->Prop)->Prop
 | .ret a,Q=>Q a
 | .ask i j k,Q=>i<n/\j<n/\i≠j/\Asks n lt (k (lt i j)) Q
theorem Asks.bind{α β:Type}{n:Nat}{lt:Nat->Nat->Bool}{f : α->KasT β}{R : α->Prop}{Q : β->Prop}(hf:∀a,R a->Asks n lt (f a) Q):∀(t:KasT α),Asks n lt t R->Asks n lt (t.bind f) Q
 | .ret a,h=>hf a h
 | .ask i j k,⟨h1,h2,h3,h4⟩=>⟨h1,h2,h3,Asks.bind hf (k (lt i j)) h4⟩
theorem Asks.mono{α:Type}{n:Nat}{lt:Nat->Nat->Bool}{R Q : α->Prop}(hf:∀a,R a->Q a):∀(t:KasT α),Asks n lt t R->Asks n lt t Q
 | .ret a,h=>hf a h
 | .ask i j k,⟨h1,h2,h3,h4⟩=>⟨h1,h2,h3,Asks.mono hf (k (lt i j)) h4⟩
structure Pm(n:Nat)(p:Array Nat):Prop where
 pm:p.toList.Perm (List.range n)
def Pm.sz{n:Nat}{p:Array Nat}(h:Pm n p):p.size=n:=by
 have:=h.pm.length_eq
 simpa using this
def atq(p:Array Nat)(i:Nat):p.getD i 0=(p[i]?).getD 0:=by
 rw[Array.getD_eq_getD_getElem?]
def Pm.lt{n:Nat}{p:Array Nat}(h:Pm n p){i:Nat}(hi:i<n):p.getD i 0<n:=by
 have hs:i<p.size:=by rw[h.sz];exact hi
 have m:p.getD i 0∈p.toList:=by
  rw[atq,re hs]
  simp
 exact mem_range.mp (h.pm.mem_iff.mp m)
def Pm.inj{n:Nat}{p:Array Nat}(h:Pm n p){i j:Nat}(hi:i<n)(hj:j<n)(e:p.getD i 0=p.getD j 0):i=j:=by
 have hs:i<p.size:=by rw[h.sz];exact hi
 have ht:j<p.size:=by rw[h.sz];exact hj
 have nd:p.toList.Nodup:=h.pm.nodup_iff.mpr List.nodup_range
 rw[atq,atq,re hs,re ht]at e
 have e':p.toList[i]'(by simpa using hs)=p.toList[j]'(by simpa using ht):=by simpa using e
 exact(pC nd).mp e'
def Sd(lt:Nat->Nat->Bool)(p:Array Nat)(k:Nat):Prop:=∀i j,i<j->j<k->lt (p.getD i 0) (p.getD j 0)=true
def Dd(lt:Nat->Nat->Bool)(p:Array Nat)(k:Nat):Prop:=∀i j,i<j->j<k->lt (p.getD j 0) (p.getD i 0)=true
section
variable{n:Nat}{lt:Nat->Nat->Bool}(T:Tot n lt)
include T
theorem bD{p:Array Nat}(P:Pm n p):∀f a,1<=a->a+f<=n->Sd lt p a->Asks n lt (kas_asc p f a) (λm=>a<=m/\m<=a+f/\Sd lt p m/\(m<a+f->lt (p.getD m 0) (p.getD (m-1) 0)=true))
 | 0,a,h1,h2,s=>⟨tD _,tD _,s,λz=>by omega⟩
 | f+1,a,h1,h2,s=>by
   refine⟨P.lt (by omega),P.lt (by omega),λe=>?_,?_⟩
   ·have:=P.inj (by omega) (by omega) e
    omega
   ·cases c:lt (p.getD a 0) (p.getD (a-1) 0) with
    | true=>exact⟨tD _,by omega,s,λ_=>c⟩
    | false=>
      have c':=T.tot _ _ (P.lt (i:=a) (by omega)) (P.lt (i:=a-1) (by omega)) (λe=>by have:=P.inj (by omega) (by omega) e;omega) c
      have s':Sd lt p (a+1):=λi j ij ja=>by
       by_cases z:j<a
       ·exact s i j ij z
       ·have:j=a:=by omega
        subst this
        by_cases y:i=j-1
        ·rw[y];exact c'
        ·exact T.trans _ (p.getD (j-1) 0) _ (P.lt (by omega)) (P.lt (by omega)) (P.lt (by omega)) (s i (j-1) (by omega) (by omega)) c'
      have r:=bD P f (a+1) (by omega) (by omega) s'
      refine Asks.mono (λm hm=>?_) _ r
      exact⟨by omega,by omega,hm.2.2.1,λz=>hm.2.2.2 (by omega)⟩
theorem eI{p:Array Nat}(P:Pm n p):∀f a,1<=a->a+f<=n->Dd lt p a->Asks n lt (kas_desc f p a 0) (λr=>r.1=p/\r.2.2=0/\a<=r.2.1/\r.2.1<=a+f/\Dd lt p r.2.1)
 | 0,a,h1,h2,s=>⟨rfl,rfl,tD _,tD _,s⟩
 | f+1,a,h1,h2,s=>by
   have ne:p.getD a 0≠p.getD (a-1) 0:=λe=>by have:=P.inj (by omega) (by omega) e;omega
   refine⟨P.lt (by omega),P.lt (by omega),ne,?_⟩
   cases c:lt (p.getD a 0) (p.getD (a-1) 0) with
   | true=>
     have s':Dd lt p (a+1):=λi j ij ja=>by
      by_cases z:j<a
      ·exact s i j ij z
      ·have:j=a:=by omega
       subst this
       by_cases y:i=j-1
       ·rw[y];exact c
       ·exact T.trans _ (p.getD (j-1) 0) _ (P.lt (by omega)) (P.lt (by omega)) (P.lt (by omega)) c (s i (j-1) (by omega) (by omega))
     have r:=eI P f (a+1) (by omega) (by omega) s'
     exact Asks.mono (λm hm=>⟨hm.1,hm.2.1,by omega,by omega,hm.2.2.2.2⟩) _ r
   | false=>
     have c':=T.tot _ _ (P.lt (i:=a) (by omega)) (P.lt (i:=a-1) (by omega)) ne c
     refine⟨P.lt (by omega),P.lt (by omega),λe=>ne e.symm,?_⟩
     rw[c']
     exact⟨rfl,rfl,tD _,show a<=a+(f+1) by omega,s⟩
omit T in
def zqD{p:Array Nat}{k:Nat}(hk:k<=p.size)(i:Nat):(kas_rev p 0 k).getD i 0=if i<k then p.getD (k-1-i) 0 else p.getD i 0:=by
 rw[atq]
 unfold kas_rev
 rw[getElem?_mirror_all hk]
 by_cases z:i<k
 ·rw[if_pos ⟨tU _,z⟩,if_pos z,atq,qa]
 ·rw[if_neg (λy=>z y.2),if_neg z,atq]
omit T in
def Pm.rev{p:Array Nat}(P:Pm n p)(i k:Nat):Pm n (kas_rev p i k):=⟨(Array.perm_iff_toList_perm.mp (mirror_perm p i k _)).trans P.pm⟩
omit T in
def Pm.bub{p:Array Nat}(P:Pm n p)(i k:Nat):Pm n (bubble p i k):=⟨(Array.perm_iff_toList_perm.mp (bubble_perm p i k)).trans P.pm⟩
def zpL{p:Array Nat}(P:Pm n p){k:Nat}(k1:1<=k)(kn:k<=n)(d:Dd lt p k):Asks n lt (kas_tail3 k n p) (λr=>1<=r.1/\r.1<=n/\Pm n r.2/\Sd lt r.2 r.1):=by
 have P':=P.rev 0 k
 have s:Sd lt (kas_rev p 0 k) k:=λi j ij jk=>by
  rw[zqD (by rw[P.sz];exact kn),zqD (by rw[P.sz];exact kn),if_pos (by omega),if_pos jk]
  exact d _ _ (by omega) (by omega)
 unfold kas_tail3
 refine Asks.bind (λm hm=>?_) _ (bD T P' (n-k) k k1 (by omega) s)
 exact(show 1<=m/\m<=n/\Pm n (kas_rev p 0 k)/\Sd lt (kas_rev p 0 k) m from⟨by omega,by omega,P',hm.2.2.1⟩)
def fz{p:Array Nat}(P:Pm n p)(n2:2<=n)(c:lt (p.getD 1 0) (p.getD 0 0)=true):Asks n lt (kas_descPart 1 n p) (λr=>1<=r.1/\r.1<=n/\Pm n r.2/\Sd lt r.2 r.1):=by
 refine Asks.bind (λr hr=>?_) _ (eI T P (n-2) 2 (by omega) (by omega) (λi j ij j2=>?_))
 ·obtain⟨e1,e2,h1,h2,d⟩:=hr
  rw[if_neg (by omega),e1]
  exact zpL T P (by omega) (by omega) d
 ·have:i=0:=by omega
  have:j=1:=by omega
  subst i j
  exact c
def zpM{p:Array Nat}(P:Pm n p)(n2:2<=n):Asks n lt (kas_count n p) (λr=>1<=r.1/\r.1<=n/\Pm n r.2/\Sd lt r.2 r.1):=by
 refine Asks.bind (λm hm=>?_) _ (bD T P (n-1) 1 (tD _) (by omega) (λi j ij j1=>by omega))
 obtain⟨h1,h2,s,c⟩:=hm
 by_cases z:m=n
 ·rw[if_pos (by simp[z])]
  exact⟨h1,by omega,P,s⟩
 ·rw[if_neg (by simp[z])]
  have c:=c (by omega)
  by_cases y:m > 1
  ·rw[if_pos y]
   refine⟨P.lt (by omega),P.lt (by omega),λe=>?_,?_⟩
   ·have:=P.inj (by omega) (by omega) e
    omega
   ·rw[s 0 (m-1) (by omega) (by omega)]
    exact⟨h1,by omega,P,s⟩
  ·rw[if_neg y]
   have:m=1:=by omega
   subst this
   exact fz T P n2 c
theorem bE{p:Array Nat}(P:Pm n p){k:Nat}(kn:k<n)(s:Sd lt p k):∀f l r,l<=r->r<=k->r-l<=f->(∀i,i<l->lt (p.getD i 0) (p.getD k 0)=true)->(∀i,r<=i->i<k->lt (p.getD k 0) (p.getD i 0)=true)->
  Asks n lt (kas_place p k f l r) (λm=>m<=k/\(∀i,i<m->lt (p.getD i 0) (p.getD k 0)=true)/\(∀i,m<=i->i<k->lt (p.getD k 0) (p.getD i 0)=true))
 | 0,l,r,lr,rk,f0,a,b=>by
   have:l=r:=by omega
   subst this
   exact⟨rk,a,b⟩
 | f+1,l,r,lr,rk,f0,a,b=>by
   unfold kas_place
   by_cases z:l ≥ r
   ·rw[if_pos z]
    have:l=r:=by omega
    subst this
    exact⟨rk,a,b⟩
   ·rw[if_neg z]
    have m1:(l+r) / 2<r:=by omega
    have m2:l<=(l+r) / 2:=by omega
    generalize (l+r) / 2=m at m1 m2
    have ne:p.getD k 0≠p.getD m 0:=λe=>by have:=P.inj kn (by omega) e;omega
    refine⟨P.lt kn,P.lt (by omega),ne,?_⟩
    cases c:lt (p.getD k 0) (p.getD m 0) with
    | true=>
      refine bE P kn s f l m m2 (by omega) (by omega) a λi mi ik=>?_
      by_cases y:i=m
      ·rw[y];exact c
      ·exact T.trans _ (p.getD m 0) _ (P.lt kn) (P.lt (by omega)) (P.lt (by omega)) c (s m i (by omega) ik)
    | false=>
      have c':=T.tot _ _ (P.lt kn) (P.lt (i:=m) (by omega)) ne c
      refine bE P kn s f (m+1) r (by omega) rk (by omega) (λi im=>?_) b
      by_cases y:i=m
      ·rw[y];exact c'
      ·exact T.trans _ (p.getD m 0) _ (P.lt (by omega)) (P.lt (by omega)) (P.lt kn) (s i m (by omega) (by omega)) c'
theorem zqE:∀f (p:Array Nat) (k:Nat),Pm n p->k+f=n->Sd lt p k->Asks n lt (kas_bin f p k) (λp'=>Pm n p'/\Sd lt p' n)
 | 0,p,k,P,e,s=>⟨P,by rw[<-e];exact s⟩
 | f+1,p,k,P,e,s=>by
   refine Asks.bind (λl hl=>?_) _ (bE T P (by omega) s k 0 k (by omega) (tD _) (by omega) (λi z=>by omega) (λi z y=>by omega))
   obtain⟨lk,h1,h2⟩:=hl
   refine zqE f _ (k+1) (P.bub k (k-l)) (by omega) ?_
   have b:∀i,(bubble p k (k-l)).getD i 0=if i=l then p.getD k 0 else if l<i/\i<=k then p.getD (i-1) 0 else p.getD i 0:=λi=>by
    rw[atq,getElem?_bubble (by rw[P.sz];omega) _ (by omega),show k-(k-l)=l by omega]
    by_cases z:i=l
    ·rw[if_pos z,if_pos z,atq]
    ·rw[if_neg z,if_neg z]
     by_cases y:l<i/\i<=k
     ·rw[if_pos y,if_pos y,atq]
     ·rw[if_neg y,if_neg y,atq]
   intro i j ij jk
   rw[b i,b j]
   by_cases z:i=l
   ·rw[if_pos z,if_neg (by omega),if_pos ⟨by omega,by omega⟩]
    exact h2 _ (by omega) (by omega)
   ·rw[if_neg z]
    by_cases y:j=l
    ·rw[if_pos y,if_neg (by omega)]
     exact h1 _ (by omega)
    ·rw[if_neg y]
     by_cases x:l<i/\i<=k
     ·rw[if_pos x,if_pos ⟨by omega,by omega⟩]
      exact s _ _ (by omega) (by omega)
     ·rw[if_neg x]
      by_cases v:l<j/\j<=k
      ·rw[if_pos v]
       exact s _ _ (by omega) (by omega)
      ·rw[if_neg v]
       exact s _ _ ij (by omega)
def eJ(n2:2<=n):Asks n lt (kas_sort n) (λp=>Pm n p/\Sd lt p n):=by
 refine Asks.bind (λr hr=>?_) _ (zpM T ⟨by simp⟩ n2)
 obtain⟨h1,h2,P,s⟩:=hr
 by_cases z:r.1<n
 ·rw[if_pos z,Nat.max_eq_left h1]
  exact zqE T _ _ _ P (by omega) s
 ·rw[if_neg z]
  have:r.1=n:=by omega
  rw[this]at s
  exact⟨P,s⟩
end
end L2
namespace L2
open PySem PySem.Spec PyProof.Rows
structure Site(K:am)(mg:af)(bf:Heap)(cv:Value)(T:Addr):Prop where
 ex:∃c,cv=.ref c/\W.CodeHd bf c T
 bm:bf.BuiltinsAt mg T
structure Lam(X:Cx)(H:Hp)(q:Str)(ar:Arguments)(body:Expr)(scope:Scope)(f:Addr)(cl:List (Str × Addr)):Prop where
 ex:∃pm c ct oc us t o,H f=some (.frz o (.own f))/\o.data=.func (W.kla_fn "<lambda>" q ar body scope cl pm (.ref c) ct)/\H c=some (.frz oc (.own c))/\oc.data=.fields us/\us[1]?=some (.str q t)
 c1:∀x c,cl.lookup x=some c->X.env.cells.lookup x=some c
 c2:∀x,(x,NameKind.free)∈scope.names->∃c,cl.lookup x=some c
 c3:∀x c,cl.lookup x=some c->(x,NameKind.free)∈scope.names
def Lam.same{X:Cx}{H H':Hp}{q:Str}{ar:Arguments}{body:Expr}{scope:Scope}{f:Addr}{cl:List (Str × Addr)}(s:Same H H')(h:Lam X H q ar body scope f cl):Lam X H' q ar body scope f cl:=by
 obtain⟨pm,c,ct,oc,us,t,o,e1,e2,e3,e4⟩:=h.ex
 exact⟨⟨pm,c,ct,oc,us,t,o,s _ _ e1,e2,s _ _ e3,e4⟩,h.c1,h.c2,h.c3⟩
section
variable{X:Cx}{ai:ae}{σ:St}{H:Hp}{s:Shared}
def zpN{ar:Arguments}{body:Expr}{scope:Scope}{lp:Pos}{q:Str}{x:Str}{N:List Str}{js:List Nat}{T:Addr}{Q:ac}
    (I:Inv X ai σ H s) (S:CompScope X scope x N js) (D:Site X.K X.mg X.bf X.env.code T) (hT:H T=some (.tbl lp q)) (hq:X.env.qual ++ "<lambda>" = q) (hd:defaultsOf ar X.env=([],[]))
    (h:∀f cl s' H',Inv X ai σ H' s'->Same H H'->Lam X H' q ar body scope f cl->Q (.ref f) s'):wpAny (model X.prog X.w) X.A (eval (.Lambda ar body scope lp) X.env) Q X.xe s:=by
 have hcells:∀y∈scope.names,y.2=.free->∃c,X.env.cells.lookup y.1=some c:=λy hy hf=>I.ok.has y.1 (.inl (S.free y hy hf))
 obtain⟨cl,ecl,cl1,cl2,cl3⟩:=zkY hcells
 obtain⟨c,hc,C⟩:=D.ex
 have B:=D.bm.keeps I.bk
 have C':=C.keeps I.bk
 obtain⟨vs,eT,tr,alt⟩:=I.hok T _ hT
 have hg:s.heap.Ns mainGlobals X.mg:=I.mod.glob.keeps I.bk
 refine W.kla_eval hd ?_
 rw[hq]
 have old:∀b o,s.heap.get? b=some o->b<s.heap.objs.size:=λb o e=>tG e
 have trk:∀b u,H b=some u->b<s.heap.objs.size:=λb u e=>I.hok.lt e
 rcases alt with alt | ⟨c',oc,us,t,e1,e2,e3,e4⟩
 ·have hgT:mainGlobals≠T:=λz=>by
   obtain⟨o,es,ep,e,d,_⟩:=id hg
   rw[z,eT]at e
   cases e
   cases d
  refine W.kla_makeFunction (mg:=X.mg) ecl I.ok.glob hg hc C' eT tr alt hgT B λc' ctv h' tk hx hge hlt hrec htb=>?_
  obtain⟨c2,oc,us,t,ec,hoc,hd1,hd2⟩:=hrec
  cases ec
  generalize hfo:W.kla_obj "<lambda>" q ar body scope cl ((X.mg "__name__").getD .none) c' ctv=fo
  have fd:fo.data=.func (W.kla_fn "<lambda>" q ar body scope cl ((X.mg "__name__").getD .none) (.ref c') ctv):=by rw[<-hfo]
  have ff:fo.isFreed=false:=by rw[<-hfo];rfl
  have nT:∀b,H b=none->b≠T:=λb n z=>by rw[z,hT]at n;cases n
  have hf:h'.objs.size≠c':=qB hlt
  have nf:∀b,b<s.heap.objs.size->b≠h'.objs.size:=λb hb=>tJ (qZ (tN hb hge) hlt)
  have nc:∀b,b<s.heap.objs.size->b≠c':=λb hb=>tJ (tN hb hge)
  have kp:∀b o,b≠T->s.heap.get? b=some o->(h'.push fo).get? b=some o:=λb o n e=>tu _ (hx b o n e)
  have sm:Same H (upd (upd H c' (.frz oc (.own c'))) h'.objs.size (.frz fo (.own h'.objs.size))):=λb u e=>by
   rw[zau (nf b (trk b u e)),zau (nc b (trk b u e))]
   exact e
  have hcF:(upd (upd H c' (.frz oc (.own c'))) h'.objs.size (.frz fo (.own h'.objs.size))) c'=some (.frz oc (.own c')):=by
   rw[zau (Ne.symm hf),zan]
  refine h h'.objs.size cl _ _ (I.step (g':=s.gens) (d':=s.drawn) (ch:=[]) (h':=h'.push fo) (t':=tk) (H':=upd (upd H c' (.frz oc (.own c'))) h'.objs.size (.frz fo (.own h'.objs.size))) (λ_ z=>nomatch z) (λb o _ _ _ e n=>kp b o (nT b n) e) (λb o _ _ _ e n=>⟨o.slots,kp b o (nT b n) e⟩)
   (λb o _ e n=>?_) (λb o _ e=>?_) (λb xs e=>sm b _ e) (λb o u e=>sm b _ e) (λb p r e=>sm b _ e) (λm hm=>?_) (λb u e=>?_) I.bare) sm ⟨⟨_,c',ctv,oc,us,t,fo,zan,fd,hcF,hd1,hd2⟩,cl1,cl2,cl3⟩
  ·rw[zau (nf b (old b o e)),zau (nc b (old b o e))]
   exact n
  ·by_cases z:b=T
   ·exact⟨_,by rw[z];exact tu _ htb⟩
   ·exact⟨o,kp b o z e⟩
  ·exact(hm.extBut hx (nT _ I.free)).push _
  ·by_cases z:b=h'.objs.size
   ·subst z
    rw[zan]at e
    cases e
    exact⟨tH _ ff,_,tH _ ff⟩
   ·rw[zau z]at e
    by_cases y:b=c'
    ·subst y
     rw[zan]at e
     cases e
     exact⟨tu _ hoc,_,tu _ hoc⟩
    ·rw[zau y]at e
     by_cases w:b=T
     ·subst w
      rw[hT]at e
      cases e
      refine⟨_,tu _ htb,?_,.inr ⟨c',oc,us,t,?_,hcF,hd1,hd2⟩⟩
      ·rw[Array.toList_append]
       exact TriplesOk_snoc _ _ _ _ tr
      ·rw[Array.toList_append]
       exact codeAmong_snoc _ tr alt
     ·refine(I.hok b u e).stay (λd v hd q=>kp d v ?_ q) (λd q=>sm d _ q) (λd xs q=>sm d _ q) λd ob xs q=>sm d _ q
      rintro rfl
      rcases hd with z | z
      ·exact w z.symm
      ·rw[hT]at z;cases z
 ·refine W.kla_makeFunctionHit (mg:=X.mg) ecl I.ok.glob hg hc C' eT tr e1 B λctv h' tk hk hsz=>?_
  generalize hfo:({ cls:=.type "function",data:=.func (W.kla_fn "<lambda>" q ar body scope cl ((X.mg "__name__").getD .none) (.ref c') ctv) }:Obj)=fo
  have fd:fo.data=.func (W.kla_fn "<lambda>" q ar body scope cl ((X.mg "__name__").getD .none) (.ref c') ctv):=by rw[<-hfo]
  have hn:H h'.objs.size=none:=I.hok.fresh hsz
  have ff:fo.isFreed=false:=by rw[<-hfo];rfl
  refine h h'.objs.size cl _ _ (I.laid (a:=h'.objs.size) (o:=.frz fo (.own h'.objs.size)) (h':=h'.push fo) (t':=tk) (λb u e=>tu _ (hk b u e)) hsz ⟨tH _ ff,_,tH _ ff⟩) (zbq hn _) ⟨⟨_,c',ctv,oc,us,t,fo,zan,fd,?_,e3,e4⟩,cl1,cl2,cl3⟩
  rw[zau (zaA e2 hn)]
  exact e2
abbrev zpO(X:Cx)(N:List Str)(scope:Scope)(cl:List (Str × Addr))(q:Str)(f:Addr)(cd:Value)(A:Around)(s₀:Shared)(H₀:Hp):Cx where
 prog:=X.prog
 w:=X.w
 K:=X.K
 mg:=X.mg
 bf:=X.bf
 A:=A.deeper (newEnv scope s₀.heap.objs.size mainGlobals cl (q ++ ".<locals>.") (some f) cd none builtinsNs)
 N:=N
 s₀:=s₀
 H₀:=H₀
 env:=newEnv scope s₀.heap.objs.size mainGlobals cl (q ++ ".<locals>.") (some f) cd none builtinsNs
 outer:=X.stack
 stack:=newEnv scope s₀.heap.objs.size mainGlobals cl (q ++ ".<locals>.") (some f) cd none builtinsNs::X.stack
 ex:=[]
 fn:=λ_=>false
 calm:=true
 pn:=[]
 xe:=λ_ _=>False
def zrO{ar:Arguments}{body:Expr}{scope:Scope}{q:Str}{x:Str}{N:List Str}{js:List Nat}{f:Addr}{cl:List (Str × Addr)}{te:TE}{A:Around}{v:V}{u:Value}{Q:VK}
    (I:Inv X ai σ H s) (S:CompScope X scope x N js) (L:Lam X H q ar body scope f cl) (hA:A.frames=some X.stack) (hh:A.handled=none) (hdp:A.depth<recursionLimit) (co:scope.isCoroutine=false) (ge:scope.isGenerator=false)
    (hb:∀pm c ct u,bindArgs (W.kla_fn "<lambda>" q ar body scope cl pm c ct) ⟨[u],[]⟩=pure [(x,u)])
    (he:∀cd,PE (zpO X N scope cl q f cd A s H) body te) (rv:RelV v u) (hq:te (some v::caps σ js) H Q):wpAny (model X.prog X.w) A (call (.ref f) [u]) (EP X ai σ Q) (λ_ _=>False) s:=by
 with_unfolding_all
  obtain⟨pm,c,ct,oc,us,t,o,e1,e2,e3,e4,e5⟩:=L.ex
  obtain⟨g1,_⟩:=I.hok f _ e1
  obtain⟨g2,_⟩:=I.hok c _ e3
  have lim:s.heap.NoLimit:=I.nolimit
  refine qK (rj (R:=λr s'=>∃k,r=.ok (.ret k)/\CE X.stack X.prog X.w H s Q k s') ?_ λr s' hr=>?_)
  ·refine W.kla_callFunE hdp g1 e2 co ge rfl ⟨c,oc,us,t,rfl,g2,e4,e5⟩ ?_
   rw[hb]
   refine tI (qI S.nocell (λy hy=>?_) (λh₁ hns hsb=>?_) S.kind)
   ·have hy':y=(x,u):=by simpa using hy
    subst hy'
    exact S.own
   have old:∀b o,s.heap.get? b=some o->h₁.get? b=some o:=λb o e=>hsb.extBut b o (tJ (tG e)) (tu _ e)
   refine⟨lim.keeps old,?_⟩
   have yok:(zpO X N scope cl q f (.ref c) A s H).Ok:=
    { mod:=I.ok.mod
      kind:=S.kind
      glob:=rfl
      blt:=rfl
      above:=tD _
      inj:=λy z c h1 h2=>I.ok.inj y z c (L.c1 y c h1) (L.c1 z c h2)
      has:=λy hy=>by
       rcases hy with hy | hy
       ·exact absurd rfl (S.nocell _ (sg hy))
       ·exact L.c2 y (sg hy)
      cab:=λy c hf _=>by cases hf
      hd:=λ_=>hh
      frames:=Around.frames_deeper hA
      stk:=.inr ⟨rfl,rfl⟩
      exf:=λb hb=>by simp at hb
      bs:=I.bs
      bsz:=tM I.ok.bsz I.sz
      noex:=λb o e hb=>by simp at hb
      exfs:=λb hb=>by simp at hb
      funs:=I.stack
      frf:=I.stkFree }
   have I1:Inv (zpO X N scope cl q f (.ref c) A s H) [] (some v::caps σ js) H { s with heap:=h₁,toks:=s.toks+[(x,u)].length }:=
    { ok:=yok
      os:=rfl
      bare:=I.bare
      bf:=Un.kept old
      loc:=by
       refine⟨_,hns,λi y v' h1 h2 h3=>?_⟩
       cases i with
       | zero=>
         have ey:y=x:=tF (h1.symm.trans S.head)
         subst ey
         have ev:v'=v:=by simpa using h2.symm
         subst ev
         exact⟨u,rv,.inl ⟨S.own,by simp⟩⟩
       | succ k=>
         have h2':(caps σ js)[k]?=some (some v'):=by simpa using h2
         unfold caps at h2'
         rw[getElem?_map]at h2'
         cases ej:js[k]? with
         | none=>rw[ej]at h2';cases h2'
         | some j=>
           rw[ej]at h2'
           have e6:(σ[j]?).join=some v':=tF h2'
           have e7 : σ[j]?=some (some v'):=by
            cases eσ : σ[j]? with
            | none=>rw[eσ]at e6;cases e6
            | some o=>rw[eσ]at e6;exact tS some e6
           obtain⟨n1,n2,n3,n4⟩:=S.cap k j y h1 ej
           obtain⟨mX,_,lX⟩:=I.loc
           obtain⟨u',ru,lk⟩:=lX j y v' n1 e7 n2
           refine⟨u',ru,?_⟩
           rcases lk with⟨lk,_⟩ | ⟨_,d,ed,cell⟩
           ·rw[n3]at lk;cases lk
           ·obtain⟨d',ed'⟩:=L.c2 y n4
            have:d'=d:=tF ((L.c1 y d' ed').symm.trans ed)
            subst this
            obtain⟨ob,ho,hd⟩:=cell
            refine .inr ⟨?_,d',ed',⟨ob,old _ _ ho,hd⟩⟩
            have h3':scope.names.lookup y=some .local\/scope.names.lookup y=some .cell\/scope.names.lookup y=some .free:=h3
            rcases h3' with z | z | z
            ·exact absurd n4 (S.apart y z)
            ·exact .inl z
            ·exact .inr z
      cell:=λy d e=>by
       obtain⟨v',ob,ho,hd⟩:=I.cell y d (L.c1 y d e)
       exact⟨v',ob,old _ _ ho,hd⟩
      free:=I.hok.fresh (tD _)
      freeC:=λy d e=>I.freeC y d (L.c1 y d e)
      pin:=λp hp=>by simp at hp
      hok:=I.hok.kept old
      len:=by show(some v::caps σ js).length=N.length;rw[S.len];simp[caps] }
   refine W.kla_codeExpr (so (he (.ref c) [] _ _ H Q I1 hq) (λk s' hk=>?_) λ_ _ z=>z.elim)
   obtain⟨w,H',J,rk,qk⟩:=hk
   exact⟨k,rfl,w,H',J.os,J.bare,J.bf,J.hok,rk,qk⟩
  ·obtain⟨k,rfl,ce⟩:=hr
   exact I.after ce
end
end L2
namespace L2
open PySem PySem.Spec PyProof.Rows PySem.W
def zhv:bootBuiltins "sorted" = some (.builtin "sorted"):=by decide +kernel
theorem Asks.wp{α:Type}{n:Nat}{lt:Nat->Nat->Bool}{cmp:Nat->Nat->(Bool->Shared->Prop)->Shared->Prop}{R : α->Prop}{Q : α->Shared->Prop}{s:Shared}
  (hc:∀i j C,i<n->j<n->C (lt i j) s->cmp i j C s) (hq:∀a,R a->Q a s):∀(t:KasT α),Asks n lt t R->t.kasWp cmp Q s
 | .ret a,h=>hq a h
 | .ask i j k,⟨h1,h2,_,h4⟩=>hc i j _ h1 h2 (Asks.wp hc hq (k (lt i j)) h4)
section
variable{prog:Program}{w:World}{A:Around}{E:ac}{s:Shared}{Q:Bool->Shared->Prop}
theorem zlW:∀(ns ms:List Int)(xs ys:ah)(i:Nat),ns.length=ms.length->Vals (ns.map V.int) xs->Vals (ms.map V.int) ys->Q (HT.lexLt ns ms) s->KatLex prog w A true false Q (xs.zip ys) i s
 | [],[],xs,ys,i,_,rx,ry,h=>by
   cases rx
   cases ry
   exact kat_nil h
 | [],_::_,_,_,_,hl,_,_,_=>by simp at hl
 | _::_,[],_,_,_,hl,_,_,_=>by simp at hl
 | a::ns,b::ms,xs,ys,i,hl,rx,ry,h=>by
   cases rx with
   | cons ra rx=>
     cases ry with
     | cons rb ry=>
       obtain⟨t,rfl⟩:=ra
       obtain⟨t',rfl⟩:=rb
       rw[HT.lexLt_cons]at h
       refine kat_cons (wpAny_eqBool_int (kat_go (λe=>?_) λe=>?_))
       ·have ab:a=b:=by simpa using e
        rw[if_pos ab]at h
        exact kat_yes (zlW ns ms _ _ (i+1) (by simpa using hl) rx ry h)
       ·have ab:a≠b:=by simpa using e
        rw[if_neg ab]at h
        refine kat_no ?_
        cases i with
        | zero=>exact oneLt_int h
        | succ i=>
          have e0:(true&&(i+1)==0)=false:=by simp
          rw[e0]
          exact kat_one _ _ (lt_int h)
end
def zlX(H:Hp)(kf:Nat->List Int)(ks:ah):Prop:=∀j,j<ks.length->∃p,ks[j]?=some (.ref p)/\H p=some (.tup ((kf j).map V.int))
section
variable{X:Cx}{ai:ae}{σ:St}{H:Hp}{s:Shared}
theorem ziN(I:Inv X ai σ H s){kf:Nat->List Int}(k1:∀i,0<(kf i).length):∀{ks:ah}{m:Nat},(∀j,j<ks.length->∃p,ks[j]?=some (.ref p)/\H p=some (.tup ((kf (m+j)).map V.int)))->
  ∃fs:List Value,fs.length=ks.length/\KatTups s.heap ks fs/\∀v∈fs,∃i t,v=.int i t
 | [],m,_=>⟨[],rfl,KatTups.nil,λv hv=>by simp at hv⟩
 | v::ks,m,h=>by
   obtain⟨p,h1,h2⟩:=h 0 (by simp)
   have ev:v=.ref p:=by simpa using h1
   subst ev
   obtain⟨fs,l1,l2,l3⟩:=ziN I k1 (ks:=ks) (m:=m+1) λj hj=>by
    obtain⟨p,h1,h2⟩:=h (j+1) (by simpa using hj)
    refine⟨p,by simpa using h1,?_⟩
    rw[Nat.add_assoc,Nat.add_comm 1 j]
    exact h2
   obtain⟨_,its,r,o,e,c1,c2⟩:=I.hok p _ h2
   rw[Nat.add_zero]at r
   cases ek:kf m with
   | nil=>
     have:=k1 m
     rw[ek]at this
     simp at this
   | cons a as=>
     rw[ek]at r
     cases r with
     | cons ra rest=>
       obtain⟨t,rfl⟩:=ra
       obtain⟨n,c2⟩:=c2
       refine⟨.int a t::fs,by simp[l1],KatTups.cons e c1 c2 (by simp) l2,λv hv=>?_⟩
       rcases mem_cons.mp hv with z | z
       ·exact⟨a,t,z⟩
       ·exact l3 v z
def eK(I:Inv X ai σ H s){A:Around}{E:ac}{kf:Nat->List Int}(k1:∀i,0<(kf i).length){ks:ah}(h:zlX H kf ks)(h2:2<=ks.length){Q:SortKind->Shared->Prop}(q:Q (tuples' true) s):
    wpAny (model X.prog X.w) A (keyKind' ks.toArray) Q E s:=by
 obtain⟨fs,l1,l2,l3⟩:=ziN I k1 (ks:=ks) (m:=0) (λj hj=>by rw[qa];exact h j hj)
 refine kat_kind (T:=.type "int") l2 (by omega) (λv hv=>?_) (by decide) q
 obtain⟨i,t,rfl⟩:=l3 v hv
 exact Looks.of_pure rfl
def zlY(I:Inv X ai σ H s){A:Around}{kf:Nat->List Int}{m:Nat}(k1:∀i,(kf i).length=m){ks:ah}(h:zlX H kf ks){i j:Nat}(hi:i<ks.length)(hj:j<ks.length){C:Bool->Shared->Prop}(q:C (HT.lexLt (kf i) (kf j)) s):
    kas_ask X.prog X.w A (tuples' true) ks i j C s:=by
 obtain⟨p,e1,e2⟩:=h i hi
 obtain⟨p',e1',e2'⟩:=h j hj
 obtain⟨_,its,r,o,g,c1,n,c2⟩:=I.hok p _ e2
 obtain⟨_,its',r',o',g',c1',n',c2'⟩:=I.hok p' _ e2'
 unfold kas_ask
 rw[tK,tK,e1,e1']
 have l1:=r.length
 have l2:=r'.length
 rw[tq,k1]at l1 l2
 refine kat_lt g c2 g' c2' ?_
 have z:decide (its.toArray.size<its'.toArray.size)=false:=by
  rw[rn,size_toArray,size_toArray]
  omega
 rw[z]
 exact zlW _ _ _ _ 0 (by rw[k1,k1]) r r' q
theorem zhw{xs:List V}{us:ah}(r:Vals xs us):∀(p:List Nat),(∀i∈p,i<xs.length)->Vals (p.map λi=>xs.getD i .non) (p.map λi=>us.getD i Value.none)
 | [],_=>.nil
 | i::p,h=>by
   have hi:=h i tP
   have e:xs[i]?=some (xs.getD i .non):=by rw[tK,tm hi];rfl
   obtain⟨u,hu,ru⟩:=r.get e
   refine .cons ?_ (zhw r p λj hj=>h j (tO _ hj))
   show RelV (xs.getD i .non) (us.getD i Value.none)
   rw[tK (l:=us),hu]
   exact ru
def zqF(us:ah):(List.range us.length).map (λi=>us.getD i Value.none)=us:=by
 apply rE
 ·simp
 ·intro i h1 h2
  simp[h2]
def zmF{l f:Addr}{xs:List V}{kf:Nat->List Int}{m:Nat}{Q:VK}(I:Inv X ai σ H s)(hl:SqL X.K H l xs)(hn:xs.length<64)(k1:∀i,(kf i).length=m)(m1:0<m)(T:Tot xs.length (λi j=>HT.lexLt (kf i) (kf j)))
    (turn:∀i v,xs[i]?=some v->∀(pins':ae)(s':Shared)(H':Hp)(u:Value),Inv X pins' σ H' s'->Same H H'->RelV v u->wpAny (model X.prog X.w) X.A.in1.in1 (call (.ref f) [u]) (EP X pins' σ λk H''=>Same H' H''/\∃p,k=.ref p/\H'' p=some (.tup ((kf i).map V.int))) (λ_ _=>False) s')
    (h:∀D H' (p:List Nat),Same H H'->H D=none->H' D=some (.lst (p.map λi=>xs.getD i .non))->p.Perm (List.range xs.length)->(∀i j,i<j->j<p.length->HT.lexLt (kf (p.getD i 0)) (kf (p.getD j 0))=true)->Q (.ref D) H'):
    wpAny (model X.prog X.w) X.A (call (.builtin "sorted") [.ref l] [(Str.ofString "key",.ref f)]) (EP X ai σ Q) X.xe s:=by
 obtain⟨its,rv,pl,hz⟩:=I.list hl
 have il:its.length=xs.length:=rv.length.symm
 have sl:(100:Nat)<=sizeLine:=by decide
 refine call_function_entry_kw kind_sorted plain_sorted entry_sorted (ksk_s1 _ _) ?_
 unfold Builtin.«sorted»
 refine tw (m:=checkCount "sorted" 1 1 _) (tI ?_)
 refine tw (collect_list pl.isList ?_ (by omega))
 refine tw (pr ?_ (by omega))
 have kA:∀b o,s.heap.get? b=some o->((s.heap.push (seqObj "list" #[] 0)).update s.heap.objs.size (Obj.mapSeq (· ++ its.toArray))).get? b=some o:=λb o e=>by
  rw[rY _ _ _ _ (tJ (tG e))]
  exact tu _ e
 have sA:s.heap.objs.size<=((s.heap.push (seqObj "list" #[] 0)).update s.heap.objs.size (Obj.mapSeq (· ++ its.toArray))).objs.size:=by
  rw[Heap.size_update,size_push']
  exact sj _
 dsimp only
 generalize ((s.heap.push (seqObj "list" #[] 0)).update s.heap.objs.size (Obj.mapSeq (· ++ its.toArray)))=A1 at kA sA ⊢
 have hD:(A1.push (seqObj "list" its.toArray 0)).get? A1.objs.size=some (seqObj "list" its.toArray 0):=tH _ rfl
 generalize eD:A1.objs.size=D at hD sA ⊢
 have kB:∀b o,s.heap.get? b=some o->(A1.push (seqObj "list" its.toArray 0)).get? b=some o:=λb o e=>tu _ (kA b o e)
 have dB:D<(A1.push (seqObj "list" its.toArray 0)).objs.size:=tG hD
 generalize A1.push (seqObj "list" its.toArray 0)=A2 at hD kB dB ⊢
 refine tw (tZ (wpAny_call_entry_kw slot_list_sort ⟨_,hD,rfl⟩ entry_list_sort ?body (ksk_l1 _ _)))
 case body=>
  show wpAny _ _ (Builtin.«list.sort» ⟨[.ref D],[(Str.ofString "key",.ref f)]⟩) _ _ _
  rw[ksk_t1]
  unfold ksk_tree
  refine tw (listItems_at hD rfl ?_)
  refine tw (rP hD rfl ?_ (by rw[size_toArray];omega) (tU _))
  obtain⟨e1,hD1⟩:∃e1,(A2.update D (Obj.mapSeq λ_=>(#[]:Array Value))).get? D=some (seqObj "list" #[] e1):=⟨_,qe hD λ_ => #[]⟩
  have kC:∀b o,s.heap.get? b=some o->(A2.update D (Obj.mapSeq λ_=>(#[]:Array Value))).get? b=some o:=λb o e=>by
   rw[rY _ _ _ _ (tJ (tN (tG e) sA))]
   exact kB b o e
  dsimp only
  refine tw (pA hD1 rfl ?_)
  refine tw (wpAny_newTuple ?_ (by show its.length<=sizeLine;omega))
  refine tw (pr ?_ (tU _))
  refine tZ ?_
  dsimp only
  generalize A2.update D (Obj.mapSeq λ_=>(#[]:Array Value))=A3 at hD1 kC ⊢
  have hD2:=tu (seqObj "tuple" its.toArray 0) hD1
  have kE:∀b o,s.heap.get? b=some o->(A3.push (seqObj "tuple" its.toArray 0)).get? b=some o:=λb o e=>tu _ (kC b o e)
  have sE:D<(A3.push (seqObj "tuple" its.toArray 0)).objs.size:=tG hD2
  show wpAny _ _ (ksk_rest D (.ref f) false its.toArray e1 (.ref (A3.push (seqObj "tuple" its.toArray 0)).objs.size)) _ _ { s with heap:=(A3.push (seqObj "tuple" its.toArray 0)).push (seqObj "list" #[] 0) }
  generalize A3.push (seqObj "tuple" its.toArray 0)=A4 at hD2 kE sE ⊢
  have hk0:(A4.push (seqObj "list" #[] 0)).get? A4.objs.size=some (seqObj "list" #[] 0):=tH _ rfl
  have hD3:=tu (seqObj "list" #[] 0) hD2
  have kF:∀b o,s.heap.get? b=some o->(A4.push (seqObj "list" #[] 0)).get? b=some o:=λb o e=>tu _ (kE b o e)
  generalize A4.push (seqObj "list" #[] 0)=A5 at hk0 hD3 kF ⊢
  generalize A4.objs.size=kS at hk0 sE ⊢
  have ne:D≠kS:=tJ sE
  have sK:s.heap.objs.size<=kS:=tM sA (qV sE)
  have nK:H kS=none:=I.hok.fresh sK
  have nD:H D=none:=I.hok.fresh sA
  have fK:=I.fpOk (H':=H) sK nK
  have fD:=I.fpOk (H':=H) sA nD
  have I0:Inv X ((kS,seqObj "list" (List.toArray []) 0)::(D,seqObj "list" #[] e1)::ai) σ H { s with heap:=A5 }:=(I.kept (t':=s.toks) (h':=A5) kF).pins_of λp hp=>by
   rcases mem_cons.mp hp with rfl | hp
   ·exact⟨hk0,nK,fK.2.1,fK.2.2.1,λv z=>by cases z⟩
   ·rcases mem_cons.mp hp with rfl | hp
    ·exact⟨hD3,nD,fD.2.1,fD.2.2.1,λv z=>by cases z⟩
    ·obtain⟨g1,g2⟩:=I.pin p (tR _ hp)
     exact⟨kF _ _ g1,g2⟩
  unfold ksk_rest
  refine tw (wpAny_rule ?_)
  rw[<-Array.forIn_toList]
  refine tw (ksk_fold (λi s'=>∃e ks H',ks.length=i/\Inv X ((kS,seqObj "list" (List.toArray ks) e)::(D,seqObj "list" #[] e1)::ai) σ H' s'/\Same H H'/\zlX H' kf ks) its 0 _ ⟨0,[],H,rfl,I0,Same.refl _,λj hj=>by simp at hj⟩ (λj x s' hx hI=>?step) λs' hI=>?done)
  case step=>
   obtain⟨e,ks,H',lk,I',sm,kin⟩:=hI
   have hjx:j<xs.length:=by
    have:=(List.getElem?_eq_some_iff.mp hx).1
    omega
   obtain⟨v,hv,rvx⟩:∃v,xs[j]?=some v/\RelV v x:=by
    obtain⟨u,hu,ru⟩:=rv.get (tm hjx)
    rw[hx]at hu
    cases hu
    exact⟨_,tm hjx,ru⟩
   refine tw (wpAny_attempt (so (turn j v hv _ s' H' x I' sm rvx) (λk s'' hk=>?_) λ_ _ z=>z.elim))
   obtain⟨w,H'',I'',rw',sm',p,rfl,hp⟩:=hk
   obtain rfl:k=.ref p:=rw'
   obtain⟨hkS,nkS,_,_,_⟩:=I''.pin (kS,seqObj "list" (List.toArray ks) e) (tR _ tP)
   dsimp only
   refine tw (rP hkS rfl ?_ (by rw[size_toArray];omega) (by rw[Array.size_push,size_toArray];omega))
   obtain⟨c2,hc2⟩:∃c2,(s''.heap.update kS (Obj.mapSeq (·.push (.ref p)))).get? kS=some (seqObj "list" (List.toArray (ks++[.ref p])) c2):=⟨_,by
    have g:=qe hkS (·.push (.ref p))
    rw[show(List.toArray ks).push (.ref p)=List.toArray (ks++[.ref p]) by simp]at g
    exact g⟩
   have sb:=rZ s''.heap kS (Obj.mapSeq (·.push (.ref p)))
   have J:Inv X ((D,seqObj "list" #[] e1)::ai) σ H'' { s'' with heap:=s''.heap.update kS (Obj.mapSeq (·.push (.ref p))),toks:=s''.toks }:=
    (I''.pins_of (pins':=(D,seqObj "list" #[] e1)::ai) λq hq=>I''.pin q (tR _ (tO _ hq))).turned (λb o n g=>(sb.2 b n).trans g) nkS fK.2.1 fK.2.2.2.1 fK.2.2.2.2.1 λq hq=>by
      rcases mem_append.mp hq with hq | hq
      ·exact fK.2.2.2.2.2 q (qN _ hq)
      ·rcases mem_cons.mp hq with rfl | hq
       ·exact ne
       ·exact fK.2.2.2.2.2 q (tR _ hq)
   refine tI ⟨rfl,c2,ks++[.ref p],H'',by simp[lk],J.pins_of λq hq=>?_,sm.trans sm',λi hi=>?_⟩
   ·rcases mem_cons.mp hq with rfl | hq
    ·exact⟨hc2,nkS,fK.2.1,fK.2.2.1,λv z=>by cases z⟩
    ·exact J.pin q (tR _ hq)
   ·by_cases z:i<ks.length
    ·obtain⟨p',g1,g2⟩:=kin i z
     exact⟨p',by rw[si z];exact g1,sm' _ _ g2⟩
    ·have ei:i=ks.length:=by simp at hi;omega
     refine⟨p,by rw[ei];simp,?_⟩
     rw[ei,lk,qa]
     exact hp
  case done=>
   obtain⟨e,ks,H',lk,I',sm,kin⟩:=hI
   rw[qa]at lk
   obtain⟨hkS,nkS,_,_,_⟩:=I'.pin (kS,seqObj "list" (List.toArray ks) e) (tR _ tP)
   obtain⟨hDp,nDp,_,_,_⟩:=I'.pin (D,seqObj "list" #[] e1) (tR _ (tO _ tP))
   refine tw (listItems_at hkS rfl ?_)
   have tail:∀(st:SortSt)(p:List Nat),failedOf st=none->(arrOf st).map (·.2)=List.toArray (p.map λi=>its.getD i Value.none)->p.Perm (List.range xs.length)->(∀i j,i<j->j<p.length->HT.lexLt (kf (p.getD i 0)) (kf (p.getD j 0))=true)->
     wpAny (model X.prog X.w) X.A.in1.in1 (ksk_tail D false e1 (.ref kS) st) (λfin s''=>∃v,fin=.done (.ret v)/\wpAny (model X.prog X.w) X.A.in1 (ret (.ref D)) (λfin s''=>∃v,fin=.done (.ret v)/\EP X ai σ Q v s'') X.xe s'') X.xe s':=by
    intro st p hf hout hp hs
    have pl2:p.length=xs.length:=by simpa using hp.length_eq
    unfold ksk_tail
    dsimp only
    rw[hout]
    refine tw (rP hkS rfl ?_ (by rw[size_toArray];omega) (tU _))
    refine tw (wpAny_letGo ?_)
    have sb:=rZ s'.heap kS (Obj.mapSeq λ_=>(#[]:Array Value))
    have hD':=(sb.2 D ne).trans hDp
    refine tw (pA hD' rfl ?_)
    refine tw (rP hD' rfl ?_ (tU _) (by simp;omega))
    rw[hf]
    simp only[bne_self_eq_false,Bool.false_eq_true,if_false]
    obtain⟨c2,hc2⟩:∃c2,((s'.heap.update kS (Obj.mapSeq λ_=>(#[]:Array Value))).update D (Obj.mapSeq λ_=>List.toArray (p.map λi=>its.getD i Value.none))).get? D=some (seqObj "list" (List.toArray (p.map λi=>its.getD i Value.none)) c2):=⟨_,qe hD' λ_=>List.toArray (p.map λi=>its.getD i Value.none)⟩
    have sb2:=rZ (s'.heap.update kS (Obj.mapSeq λ_=>(#[]:Array Value))) D (Obj.mapSeq λ_=>List.toArray (p.map λi=>its.getD i Value.none))
    have kp:∀b o,b≠kS->b≠D->s'.heap.get? b=some o->((s'.heap.update kS (Obj.mapSeq λ_=>(#[]:Array Value))).update D (Obj.mapSeq λ_=>List.toArray (p.map λi=>its.getD i Value.none))).get? b=some o:=λb o n1 n2 g=>(sb2.2 b n2).trans ((sb.2 b n1).trans g)
    have trk:∀b u,H' b=some u->b≠kS/\b≠D:=λb u g=>⟨(λz=>by rw[z,nkS]at g;cases g),λz=>by rw[z,nDp]at g;cases g⟩
    refine tI ⟨_,rfl,tI ⟨_,rfl,.ref D,upd H' D (.lst (p.map λi=>xs.getD i .non)),?_,rfl,h D _ p (λb u g=>?_) nD zan hp hs⟩⟩
    ·refine(I'.pins_of (pins':=ai) λq hq=>I'.pin q (tR _ (tO _ (tO _ hq)))).step (g':=s'.gens) (d':=s'.drawn) (t':=s'.toks) (ch:=[kS,D]) (λb hb=>?_) (λb o _ _ hc g _=>kp b o (λz=>hc (by simp[z])) (λz=>hc (by simp[z])) g)
      (λb o _ _ hc g _=>⟨o.slots,kp b o (λz=>hc (by simp[z])) (λz=>hc (by simp[z])) g⟩) (λb o hc _ n=>?_) (λb o hc g=>⟨o,kp b o (λz=>hc (by simp[z])) (λz=>hc (by simp[z])) g⟩) (λb ys g=>?_) (λb o u g=>?_) (λb lp lq g=>?_) (λmm hm=>?_) (λb u g=>?_) I'.bare
     ·rcases mem_cons.mp hb with rfl | hb
      ·exact⟨fK.2.2.2.1,fK.2.1,fK.2.2.2.2.1,fK.2.2.2.2.2⟩
      ·have:b=D:=by simpa using hb
       subst this
       exact⟨fD.2.2.2.1,fD.2.1,fD.2.2.2.2.1,fD.2.2.2.2.2⟩
     ·rw[zau (λz=>hc (by simp[z]))]
      exact n
     ·rw[zau (trk b _ g).2]
      exact g
     ·rw[zau (trk b _ g).2]
      exact g
     ·rw[zau (trk b _ g).2]
      exact g
     ·obtain⟨o,es,ep,g,r⟩:=hm
      exact⟨o,es,ep,kp _ o (Ne.symm fK.2.1) (Ne.symm fD.2.1) g,r⟩
     ·by_cases z:b=D
      ·subst z
       rw[zan]at g
       cases g
       refine⟨by rw[tq,pl2];omega,_,c2,zhw rv p λi hi=>mem_range.mp (hp.mem_iff.mp hi),hc2⟩
      ·rw[zau z]at g
       refine(I'.hok b u g).stay (λd v hd q=>kp d v ?_ ?_ q) (λd q=>?_) (λd ys q=>?_) λd ob ys q=>?_
       ·rcases hd with y | y
        ·rw[y];exact(trk b u g).1
        ·exact(trk d _ y).1
       ·rcases hd with y | y
        ·rw[y];exact(trk b u g).2
        ·exact(trk d _ y).2
       ·rw[zau (trk d _ q).2]
        exact q
       ·rw[zau (trk d _ q).2]
        exact q
       ·rw[zau (trk d _ q).2]
        exact q
    ·rw[zau (trk b _ (sm b u g)).2]
     exact sm b u g
   unfold ksk_end
   dsimp only
   simp only[Bool.false_eq_true,if_false]
   by_cases n2:its.toArray.size<2
   ·rw[if_pos n2,if_pos n2]
    refine tw (tI ?_)
    rw[StateT.run_pure]
    refine tw (tI ?_)
    dsimp only
    refine tail _ (List.range xs.length) rfl ?_ (List.Perm.refl _) λi j ij jl=>?_
    ·show((List.toArray ks).zip its.toArray).map (·.2)=_
     rw[<-il,zqF]
     apply Array.toList_inj.mp
     rw[Array.toList_map,ksk_zip]
     exact pF (by simp;omega)
    ·rw[size_toArray]at n2
     rw[sU]at jl
     omega
   ·rw[if_neg n2,if_neg n2]
    rw[size_toArray]at n2
    refine tw (eK I' (λi=>by rw[k1];exact m1) kin (by omega) ?_)
    refine tw (so (kat_run (vs:=its) (Q:=λst' s''=>∃p:Array Nat,arrOf st'=p.map (kas_item ((List.toArray ks).zip its.toArray))/\failedOf st'=none/\s''=s'/\Pm xs.length p/\Sd (λi j=>HT.lexLt (kf i) (kf j)) p xs.length) (G:=λp s''=>s''=s'/\Pm xs.length p/\Sd (λi j=>HT.lexLt (kf i) (kf j)) p xs.length)
     lk (by omega) (by omega) (λp st' s'' _ a2 a3 a4=>⟨p,a2,a3,a4⟩) ?_) ?_ λ_ _ z=>z)
    ·rw[il]
     refine Asks.wp (n:=xs.length) (lt:=λi j=>HT.lexLt (kf i) (kf j)) (R:=λp=>Pm xs.length p/\Sd (λi j=>HT.lexLt (kf i) (kf j)) p xs.length) (λi j C hi hj hC=>?_) (λp hp=>⟨rfl,hp⟩) _ (eJ T (by omega))
     exact zlY I' k1 kin (by omega) (by omega) hC
    ·rintro⟨⟨⟩,st'⟩ s'' ⟨p,har,hf,rfl,P,S⟩
     refine tail st' p.toList hf (kat_snds lk har) P.pm λi j ij jl=>?_
     have e2:∀k,p.toList.getD k 0=p.getD k 0:=λk=>by rw[tK,atq];simp
     rw[e2,e2]
     exact S i j ij (by rw[Array.length_toList,P.sz]at jl;exact jl)
end
end L2
namespace L2
open PySem PySem.Spec PyProof.Rows PySem.W
def zsW(K:Frag)(T:Addr)(lp:Pos)(q:Str)(t:TA)(js:List Nat)(te:TE):TE:=λσ H Q=>t σ H λvs H1=>∃(l:Addr)(xs:List V)(kf:Nat->List Int)(m:Nat),vs=[.ref l]/\SqL K H1 l xs/\xs.length<64/\(∀i,(kf i).length=m)/\0<m/\
 Tot xs.length (λi j=>HT.lexLt (kf i) (kf j))/\H1 T=some (.tbl lp q)/\∀H2,Same H1 H2->
  (∀i v,xs[i]?=some v->∀H3,Same H2 H3->te (some v::caps σ js) H3 λk H4=>Same H3 H4/\∃p,k=.ref p/\H4 p=some (.tup ((kf i).map V.int)))/\
  ∀D H' (p:List Nat),Same H2 H'->H2 D=none->H' D=some (.lst (p.map λi=>xs.getD i .non))->p.Perm (List.range xs.length)->(∀i j,i<j->j<p.length->HT.lexLt (kf (p.getD i 0)) (kf (p.getD j 0))=true)->Q (.ref D) H'
def zmG{X:Cx}{sp pos kp lp:Pos}{e:Expr}{ar:Arguments}{body:Expr}{scope:Scope}{q x:Str}{N:List Str}{js:List Nat}{T:Addr}{t:TA}{te:TE}
    (S:CompScope X scope x N js) (D:Site X.K X.mg X.bf X.env.code T) (hq:X.env.qual ++ "<lambda>" = q) (hdp:X.A.depth<recursionLimit) (hc:X.calm=true) (hg:Gl X "sorted") (hm:X.mg "sorted" = none) (ha:PA X [e] t)
    (he:∀cl f cd s H,PE (zpO X N scope cl q f cd X.A.in1.in1 s H) body te)
    (hd:defaultsOf ar X.env=([],[]):=by rfl) (co:scope.isCoroutine=false:=by rfl) (ge:scope.isGenerator=false:=by rfl)
    (hb:∀cl pm c ct u,bindArgs (kla_fn "<lambda>" q ar body scope cl pm c ct) ⟨[u],[]⟩=pure [(x,u)]:=by intro _ _ _ _ _;rfl)
    (hst:backTo pos (starEach [e] X.env)=(false,eval e X.env)::backTo pos (starEach [] X.env):=by rfl):
    PE X (.Call (.Name "sorted" sp) [e] [⟨some "key",.Lambda ar body scope lp,kp⟩] pos) (zsW X.K T lp q t js te):=by
 with_unfolding_all
  intro ai s σ H Q I h
  refine sO (zgG I hg hm zhv ?_)
  refine callWith_kw (thn (ha pos ai s σ H _ I h) λus s1 ⟨vs,H1,I1,r,q1⟩=>?_) hst (by rw[hst];rfl) rfl rfl
  obtain⟨l,xs,kf,m,rfl,hl,hn,k1,m1,Tt,hT,more⟩:=q1
  obtain⟨u,rfl,ru⟩:=zdR r
  cases ru
  refine kws_cons (zpN I1 S D hT hq hd λf cl s2 H2 I2 sm L=>kws_nil ?_)
  obtain⟨turn,fin⟩:=more H2 sm
  have hl2:SqL X.K H2 l xs:=sm.seq hl
  refine zmF (f:=f) I2 hl2 hn k1 m1 Tt (λi v hv pins' s' H' u I' sm' rv=>?_) λD' H' p a1 a2 a3 a4 a5=>fin D' H' p a1 a2 a3 a4 a5
  exact zrO (A:=X.A.in1.in1) I' S (L.same sm') I'.ok.frames (I'.ok.hd hc) hdp co ge (hb cl) (λcd=>he cl f cd s' H') rv (turn i v hv H' sm')
structure FunC(K:Frag)(x qual:Str)(st:Stmt)(f:Addr)(fd:FuncData)(cv:Value):Prop where
 ex:∃(oc:Value)(od:aj)(kV doc pm:Value)(an:aj)(ct:Value)(osl:ap),
  fd=fnOf x qual (zat st) (zam st) (zac st) .none kV doc pm an cv ct/\K.lookup f=some ⟨oc,od,.func fd,osl⟩/\codeIn K cv qual=true
def FunC.ok{P:Program}{w:World}{K:Frag}{mg:af}{bf:Heap}{x qual:Str}{st:Stmt}{f:Addr}{fd:FuncData}{cv:Value}{N ps:List Str}{k:Nat}{sp:Sp}(F:FunC K x qual st f fd cv)(S:FnScope N ps (zac st))(len:∀vs H Q E,sp vs H Q E->vs.length=ps.length)
    (hbody:∀(A:Around)(outer:List Env)(s:Shared)(H:Hp)(vs:List V)(Q:VK)(E:XK),Room k (A.deeper (envOfC qual (zac st) s.heap.objs.size f cv))->sp vs H Q E->
      ∃t,PSs (cxOf CX0 P w K mg bf N qual (zac st) f cv A outer s H E).nox (zam st) t/\t { nx:=λ_ H'=>Q .non H',rt:=Q } (zgP N vs) H):FnOk P w K mg bf CX0 (k+1) f fd ps sp:=by
 obtain⟨oc,od,kV,doc,pm,an,ct,osl,rfl,lk,hcd⟩:=F.ex
 refine zny lk hcd S len λA outer s H vs Q E hr hsp=>?_
 obtain⟨t,h,q⟩:=hbody A outer s H vs Q E hr hsp
 exact⟨t,h.nox,q⟩
def zrP{K:Frag}{x qual:Str}{st:Stmt}{f:Addr}{oc:Value}{od an:aj}{osl:ap}{kV doc pm cdv ct:Value}(l:K.lookup f=some ⟨oc,od,.func (fnOf x qual (zat st) (zam st) (zac st) .none kV doc pm an cdv ct),osl⟩)
    (c:codeIn K cdv qual=true):FunC K x qual st f (fnOf x qual (zat st) (zam st) (zac st) .none kV doc pm an cdv ct) cdv:=⟨⟨oc,od,kV,doc,pm,an,ct,osl,rfl,l,c⟩⟩
structure DfnC(K:Frag)(mg:af)(x:Str)(st:Stmt)(ps:List Str)(f:Addr)(fd:FuncData)(cv:Value):Prop where
 F:FunC K x x st f fd cv
 kp:keepIn K (.ref f)=true
 b:zbp K fd ps []
 m:mg x=some (.ref f)
def DfnC.cal{P:Program}{w:World}{K:Frag}{mg:af}{bf:Heap}{x:Str}{st:Stmt}{ps:List Str}{f:Addr}{fd:FuncData}{cv:Value}{k:Nat}{sp:Sp}
    (D:DfnC K mg x st ps f fd cv) (G:FnOk P w K mg bf CX0 k f fd ps sp):Cal P w K mg bf x k ps sp:=⟨⟨f,fd,G,D.b,D.m,D.kp⟩⟩
def zhx(K:Frag):Bool:=K.all λp=>match p.2.cls,p.2.data with | .none,.fields _=>false | _,_=>true
theorem ziO:∀{K:Frag},zhx K=true->∀{b:Addr}{vs:Array Value},K.lookup b≠some { cls:=.none,data:=.fields vs }
 | [],_,b,vs,e=>by cases e
 | (a,o)::K,h,b,vs,e=>by
   unfold zhx at h
   rw[pN,Bool.and_eq_true]at h
   rw[lookup_cons]at e
   cases z:b==a with
   | true=>
     rw[z]at e
     cases e
     exact absurd h.1 (by simp)
   | false=>
     rw[z]at e
     exact ziO (K:=K) h.2 e
theorem fA{P:Program}{w:World}{K:Frag}{mg mb:af}{k:Nat}{fa a T:Addr}{fd:FuncData}{x:Str}{lp:Pos}{q:Str}{sp:Sp}{s₁:Shared}{vs:ah}{ns:List Int}{cv:Value}
  (KX:K.In s₁.heap) (kt:zhx K=true) (hns:s₁.heap.Ns mainGlobals mg) (hb:s₁.heap.Ns builtinsNs mb) (hbb:∀x:Str,x ≠ "__name__" -> mb x=bootBuiltins x) (hlim:s₁.heap.NoLimit) (hg:s₁.gens = #[])
  (ha:s₁.heap.get? a=some { cls:=.type "list",data:=.seq vs.toArray }) (hi:IntsAre vs ns) (hl:ns.length<=sizeLine) (hr:Room k callerA)
  (hT:s₁.heap.get? T=some (tabObj #[])) (hct:isCodeTable s₁.heap T) (hs:∀h:Heap,(∀b o,s₁.heap.get? b=some o->b≠T->b≠a->h.get? b=some o)->Site K mg h cv T)
  (F:∀bf:Heap,K.In bf->bf.Ns mainGlobals mg->Site K mg bf cv T->FnOk P w K mg bf CX0 k fa fd [x] sp) (hbind:∀(s:Shared)(u:Value),BindsTo s fd ⟨[u],[]⟩ [(x,u)])
  (hsp:∀H:Hp,H T=some (.tbl lp q)->SqL K H a (ns.map V.int)->sp [.ref a] H (λv _=>v=.bl true) λ_ _ _=>False):
  codeAny (model P w) callerA (.call (.ref fa) ⟨[.ref a],[]⟩) (λr s'=>r=.ok (.ret (.bool true))/\OldK s₁.heap s'.heap/\s'.os=s₁.os/\AllBare s'.gens) s₁:=by
 have rv:=zjX hi
 have lenV:=hi.length
 have aT:a≠T:=λz=>by rw[z,hT]at ha;cases ha
 have core:∀H:Hp,H T=some (.tbl lp q)->SqL K H a (ns.map V.int)->(∀b u,H b=some u->b=T\/(b=a/\u=.frz { cls:=.type "list",data:=.seq vs.toArray } (.lst (ns.map V.int))))->(H a≠none->K.lookup a=none)->
   codeAny (model P w) callerA (.call (.ref fa) ⟨[.ref a],[]⟩) (λr s'=>r=.ok (.ret (.bool true))/\OldK s₁.heap s'.heap/\s'.os=s₁.os/\AllBare s'.gens) s₁:=by
  intro H hHT hS hO hK
  have hok:HOk P w H s₁.heap:=λb u e=>by
   rcases hO b u e with z | ⟨z,rfl⟩
   ·subst z
    rw[hHT]at e
    cases e
    exact⟨#[],hT,trivial,.inl rfl⟩
   ·subst z
    exact⟨ha,by rw[tq];exact hl,vs,_,rv,ha⟩
  have base_of:∀{b:Addr}{o:Obj},s₁.heap.get? b=some o->H b=none->(hidT s₁.heap H).get? b=some o:=λe n=>zpu e n
  have no:∀b,b≠T->b≠a->H b=none:=λb n1 n2=>by
   cases z:H b with
   | none=>rfl
   | some u=>
     rcases hO b u z with y | y
     ·exact absurd y n1
     ·exact absurd y.1 n2
  have noA:∀{b:Addr}{o:Obj}{es:Array DictEntry}{ep:Nat},s₁.heap.get? b=some o->o.data=.dict es ep->H b=none:=λ{b o es ep} e d=>by
   refine no b (λz=>?_) λz=>?_
   ·rw[z,hT]at e
    cases e
    cases d
   ·rw[z,ha]at e
    cases e
    cases d
  have nsK:∀{b:Addr}{m:af},s₁.heap.Ns b m->(hidT s₁.heap H).Ns b m:=λ{b m} ⟨o,es,ep,e,d,r⟩=>⟨o,es,ep,base_of e (noA e d),d,r⟩
  have hKb:K.In (hidT s₁.heap H):=λb o e=>base_of (KX b o e) (by
   cases z:H b with
   | none=>rfl
   | some u=>
     rcases hO b u z with y | y
     ·have e':=KX b o e
      rw[y,hT]at e'
      cases e'
      exact absurd e (ziO kt)
     ·have e2:=hK (by rw[<-y.1,z];simp)
      rw[<-y.1,e]at e2
      cases e2)
  have hM:Mod K mg (hidT s₁.heap H):=⟨hKb,nsK hns,⟨mb,nsK hb,hbb⟩,let ⟨mc,h1,h2⟩:=hlim;⟨mc,nsK h1,h2⟩⟩
  have e0:Env0 P w K mg (hidT s₁.heap H) callerA [] s₁ H:=⟨rfl,hM,λb o e=>zrn e,pG (znj _ _),trivial,λb hb=>absurd (show b∈([]:List Addr)from hb) (by simp),hok,.of_eq hg⟩
  have hSi:Site K mg (hidT s₁.heap H) cv T:=hs _ λb o e n1 n2=>base_of e (no b n1 n2)
  refine rj ((F _ hKb (nsK hns) hSi).run callerA [] s₁ H ⟨[.ref a],[]⟩ [.ref a] [.ref a] _ _ hr e0 (hbind s₁ (.ref a)) (.cons rfl .nil) (hsp H hHT hS)) λr s' h=>?_
  cases r with
  | error e=>exact False.elim h
  | ok fl=>
    cases fl with
    | next=>exact False.elim h
    | brk=>exact False.elim h
    | cont=>exact False.elim h
    | ret u=>
      obtain⟨v,H',os,bare,un,hok',r',qv⟩:=h
      have qv':v=.bl true:=qv
      subst qv'
      obtain rfl:u=Value.bool true:=r'
      have kp:∀b o,b≠T->s₁.heap.get? b=some o->s'.heap.get? b=some o:=λb o n e=>by
       cases z:H b with
       | none=>exact un.keep b o e z (by intro z;exact absurd (show b∈([]:List Addr)from z) (by simp)) (by simp)
       | some u=>
         rcases hO b u z with y | ⟨y,rfl⟩
         ·exact absurd y n
         ·have z2:=un.frzs b _ _ z
          obtain⟨e2,_⟩:=hok' b _ z2
          subst y
          rw[ha]at e
          cases e
          exact e2
      obtain⟨ws,g1,_⟩:=hok' T _ (un.tbls T lp q hHT)
      refine⟨rfl,⟨λb o e=>?_,λb o e=>?_⟩,os,bare⟩
      ·by_cases z:b=T
       ·subst z
        rw[hT]at e
        cases e
        exact .inr (.inl ⟨hct,rfl,#[],ws,rfl,by simpa using g1⟩)
       ·exact .inl (kp b o z e)
      ·by_cases z:b=T
       ·subst z
        exact⟨_,g1⟩
       ·exact⟨o,kp b o z e⟩
 cases hk:K.lookup a with
 | some o=>
   have e:=KX a o hk
   rw[ha]at e
   cases e
   refine core (λb=>if b=T then some (.tbl lp q)else none) (if_pos rfl) (.inr ⟨_,vs.toArray,_,hk,rfl,rfl,rfl,by rw[size_toArray,lenV];exact hl,by simpa using rv⟩) (λb u z=>?_) λz=>absurd (if_neg aT) z
   by_cases hb:b=T
   ·exact .inl hb
   ·have z':=(if_neg hb).symm.trans z
    cases z'
 | none=>
   refine core (λb=>if b=T then some (.tbl lp q)else if b=a then some (.frz { cls:=.type "list",data:=.seq vs.toArray } (.lst (ns.map V.int)))else none) (if_pos rfl) (.inl (.inr ⟨{ cls:=.type "list",data:=.seq vs.toArray },(if_neg aT).trans (if_pos rfl)⟩)) (λb u z=>?_) λ_=>hk
   by_cases hb:b=T
   ·exact .inl hb
   ·have z:(if b=T then some (HO.tbl lp q)else if b=a then some (.frz { cls:=.type "list",data:=.seq vs.toArray } (.lst (ns.map V.int)))else none)=some u:=z
    rw[if_neg hb]at z
    by_cases hb2:b=a
    ·rw[if_pos hb2]at z
     cases z
     exact .inr ⟨hb2,rfl⟩
    ·rw[if_neg hb2]at z
     cases z
def walk_ofT{l:OpenLaw}{n k:Nat}{qp:Program}{loose:List Str}{XP:(Str->Option Value)->Heap->Prop}{YP:World->Heap->Prop}{d:DefRec}{K:Params->Frag}{sp:Frag->Addr->Sp}{x g:Str}{lp:Pos}{q:Str}
    (hn:l.most=some n) (hn2:n<=sizeLine) (hdf:d.params.defaults=[]) (hr:Room k callerA)
    (hY:∀(w:World)(h:Heap),YP w h->(K w.params).In h) (hK:∀p,zhx (K p)=true) (hrec:∃dr,(recsOf qp).find? (λe=>e.name==g)=some dr)
    (F:∀(w:World)(mg:af)(fa:Addr)(h:Heap),(K w.params).In h->h.Ns mainGlobals mg->mg d.name=some (.ref fa)->
      ∃(fd fg:FuncData)(ag:Addr)(og:Obj),(∀(s:Shared)(u:Value),BindsTo s fd ⟨[u],[]⟩ [(x,u)])/\mg g=some (.ref ag)/\(K w.params).lookup ag=some og/\og.data=.func fg/\
       ∀T (bf:Heap),(K w.params).In bf->bf.Ns mainGlobals mg->Site (K w.params) mg bf fg.code T->FnOk l.prog w (K w.params) mg bf CX0 k fa fd [x] (sp (K w.params) T))
    (hsp:∀(K:Frag)(T:Addr)(H:Hp)(a:Addr)(ns:List Int),ns.length<=n->H T=some (.tbl lp q)->SqL K H a (ns.map V.int)->sp K T [.ref a] H (λv _=>v=.bl true) λ_ _ _=>False):
    WalkO qp loose XP YP l.row.toRowW d [] (λf vs=>PySem.call f vs):=by
 refine Att.attach_call hn hdf λw s₀ s₁ mg mb fa o pm cd doc a vs ns G Y ho hd hcd hmg hobj hints hlen hg=>?_
 have KX:=hY w _ Y
 obtain⟨fd,fg,ag,og,hb,hmg2,hlk,hog,hF⟩:=F w mg fa _ KX G.T.g hmg
 obtain⟨dr,hdr⟩:=hrec
 have hnm:dr.name=g:=beq_iff_eq.mp (List.find?_some (p:=λe:DefRec=>e.name==g) hdr)
 obtain⟨a',o',fd',c,T,h1,h2,h3,h4,h5,h6⟩:=G.T.tab dr (rT hdr)
 rw[hnm,hmg2]at h1
 cases h1
 have h2':=KX ag og hlk
 rw[h2]at h2'
 cases h2'
 rw[hog]at h3
 cases h3
 obtain⟨bm,ob,b1,b2,b3,b4,b5,b6⟩:=G.T.bmain
 have hT:=h6.2
 have ha:=hobj
 have bT:bm≠T:=λz=>by
  rw[z,hT]at b3
  cases b3
  cases b4
 have ba:bm≠a:=λz=>by
  rw[z,ha]at b3
  cases b3
  injection b4 with y
  exact absurd y (by decide)
 have bG:bm≠mainGlobals:=λz=>by
  obtain⟨og',es,ep,e,dd,_⟩:=G.T.g
  rw[z,e]at b3
  cases b3
  rw[dd]at b6
  cases b6
 have C:=CodeHd.of h5 h6
 obtain⟨⟨oc,us,c1,c2,c3,c4⟩,_⟩:=id h6
 have cT:c≠T:=λz=>by
  rw[z,hT]at c1
  cases c1
  cases c2
 have ca:c≠a:=λz=>by
  rw[z,ha]at c1
  cases c1
  injection c2 with y
  exact absurd y (by decide)
 have site:∀h:Heap,(∀b o,s₁.heap.get? b=some o->b≠T->b≠a->h.get? b=some o)->Site (K w.params) mg h fg.code T:=λh kp=>
  ⟨⟨c,h4,by
    obtain⟨o2,vs2,file,tf,flags,tg,inF,text,tt,e,r⟩:=id C
    exact⟨o2,vs2,file,tf,flags,tg,inF,text,tt,kp _ _ e cT ca,r⟩⟩,bm,ob,b1,b2,bG,bT,kp _ _ b3 bT ba,b4,b5,b6⟩
 exact fA (lp:=lp) (q:=q) (sp:=sp (K w.params) T) KX (hK _) G.T.g G.T.b G.T.builtins G.T.nolimit hg hobj hints (tM hlen hn2) hr hT h6.isCodeTable site (hF T) hb λH hO hS=>hsp (K w.params) T H a ns hlen hO hS
end L2
namespace L2
open PySem PySem.Spec PyProof.Rows
theorem zhy{b:Int}(h0:0<b)(h1:b<=12):b∣27720:=by
 obtain⟨k,rfl⟩:=qf (rK h0)
 have hk:k<=12:=Int.ofNat_le.mp h1
 have hp:0<k:=Int.ofNat_lt.mp h0
 match k,hk,hp with
 | 1,_,_=>exact⟨27720,rfl⟩
 | 2,_,_=>exact⟨13860,rfl⟩
 | 3,_,_=>exact⟨9240,rfl⟩
 | 4,_,_=>exact⟨6930,rfl⟩
 | 5,_,_=>exact⟨5544,rfl⟩
 | 6,_,_=>exact⟨4620,rfl⟩
 | 7,_,_=>exact⟨3960,rfl⟩
 | 8,_,_=>exact⟨3465,rfl⟩
 | 9,_,_=>exact⟨3080,rfl⟩
 | 10,_,_=>exact⟨2772,rfl⟩
 | 11,_,_=>exact⟨2520,rfl⟩
 | 12,_,_=>exact⟨2310,rfl⟩
def zpP{m b:Int}(hm:0<m)(hb:0<b):0<m*b / M1.gd m b/\m∣m*b / M1.gd m b/\b∣m*b / M1.gd m b/\∀k:Int,m∣k->b∣k->m*b / M1.gd m b∣k:=by
 obtain⟨x,rfl⟩:=qf (rK hm)
 obtain⟨y,rfl⟩:=qf (rK hb)
 have e:(x:Int)*(y:Int) / M1.gd x y=((Nat.lcm x y:Nat):Int):=by
  unfold M1.gd
  rw[Int.gcd_natCast_natCast]
  unfold Nat.lcm
  rw[<-Int.natCast_mul,<-Int.natCast_ediv]
 rw[e]
 have x0:0<x:=by omega
 have y0:0<y:=by omega
 refine⟨?_,?_,?_,λk h1 h2=>?_⟩
 ·have:=Nat.lcm_pos x0 y0
  omega
 ·exact Int.natCast_dvd_natCast.mpr (Nat.dvd_lcm_left x y)
 ·exact Int.natCast_dvd_natCast.mpr (Nat.dvd_lcm_right x y)
 ·rw[Int.ofNat_dvd_left]at h1 h2 ⊢
  exact Nat.lcm_dvd h1 h2
def wM(c:Cl)(t M:Int):Int:=c.wt*(M / c.wb)+(t-c.came)*(c.st*(M / c.sb))
def kM(c:Cl)(t M:Int):List Int:=[-(wM c t M),c.came,c.n]
def zsX{c:Cl}{t M:Int}(h1:c.wb∣M)(h2:c.sb∣M):wM c t M*wbot c=wtop c t*M:=by
 have e1:=qQ h1
 have e2:=qQ h2
 unfold wM wbot wtop
 rw[Int.add_mul,Int.add_mul]
 congr 1
 ·calc c.wt*(M / c.wb)*(c.wb*c.sb)=c.wt*c.sb*(M / c.wb*c.wb):=by ac_rfl
   _=c.wt*c.sb*M:=by rw[e1]
 ·calc (t-c.came)*(c.st*(M / c.sb))*(c.wb*c.sb)=(t-c.came)*c.st*c.wb*(M / c.sb*c.sb):=by ac_rfl
   _=(t-c.came)*c.st*c.wb*M:=by rw[e2]
def zuh{c d:Cl}{t M:Int}(c1:c.wb∣M)(c2:c.sb∣M)(d1:d.wb∣M)(d2:d.sb∣M):gap c d t*M=(wM c t M-wM d t M)*(wbot c*wbot d):=by
 have e1:=zsX (t:=t) c1 c2
 have e2:=zsX (t:=t) d1 d2
 unfold gap
 rw[pq,pq]
 congr 1
 ·calc wtop c t*wbot d*M=(wtop c t*M)*wbot d:=by ac_rfl
   _=(wM c t M*wbot c)*wbot d:=by rw[e1]
   _=wM c t M*(wbot c*wbot d):=by ac_rfl
 ·calc wtop d t*wbot c*M=(wtop d t*M)*wbot c:=by ac_rfl
   _=(wM d t M*wbot d)*wbot c:=by rw[e2]
   _=wM d t M*(wbot c*wbot d):=by ac_rfl
def zrQ{c d:Cl}{t M:Int}(oc:c.Ok)(od:d.Ok)(hM:0<M)(c1:c.wb∣M)(c2:c.sb∣M)(d1:d.wb∣M)(d2:d.sb∣M):HT.lexLt (kM c t M) (kM d t M)=ahd c d t:=by
 have e:=zuh (t:=t) c1 c2 d1 d2
 have bp:0<wbot c*wbot d:=pk (zht oc) (zht od)
 unfold kM ahd
 rw[HT.lexLt_cons,zrN]
 rcases(by omega:wM c t M-wM d t M<0\/wM c t M-wM d t M=0\/0<wM c t M-wM d t M)with z | z | z
 ·have g:gap c d t<0:=by
   refine Int.not_le.mp λy=>?_
   have h1:=qA y (rK hM)
   have h2:=Int.mul_neg_of_neg_of_pos z bp
   omega
  rw[if_neg (by omega),if_neg (by omega),tL (by omega),tL (by omega)]
 ·have g:gap c d t=0:=by
   rw[z,Int.zero_mul]at e
   rcases Int.mul_eq_zero.mp e with y | y
   ·exact y
   ·omega
  rw[if_pos (by omega),if_pos g]
 ·have g:0<gap c d t:=by
   refine Int.not_le.mp λy=>?_
   have h1:=sY y (rK hM)
   have h2:=pk z bp
   omega
  rw[if_neg (by omega),if_neg (by omega),decide_eq_true (by omega),decide_eq_true (by omega)]
def zui{cs:List Cl}(g:Good cs){i j:Nat}{c d:Cl}(h1:cs[i]?=some c)(h2:cs[j]?=some d)(ne:i≠j):c.n≠d.n:=λe=>by
 obtain⟨a1,b1⟩:=List.getElem?_eq_some_iff.mp h1
 obtain⟨a2,b2⟩:=List.getElem?_eq_some_iff.mp h2
 have nd:=g.nd
 have:=(pC (xs:=cs.map (·.n)) (i:=i) (j:=j) (h₀:=by simpa using a1) (h₁:=by simpa using a2) nd).mp (by rw[getElem_map,getElem_map,b1,b2];exact e)
 exact ne this
def aF(cs:List Cl)(t:Int)(i j:Nat):Bool:=match cs[i]?,cs[j]? with
 | some c,some d=>ahd c d t
 | _,_=>false
theorem zsY{cs:List Cl}(g:Good cs)(t:Int):Tot cs.length (aF cs t) where
 asym:=λi j hi hj h=>by
  unfold aF at h ⊢
  rw[tm hi,tm hj]at h ⊢
  cases z:ahd cs[j] cs[i] t with
  | false=>exact z
  | true=>exact(eG h z).elim
 tot:=λi j hi hj ne h=>by
  unfold aF at h ⊢
  rw[tm hi,tm hj]at h ⊢
  show ahd cs[j] cs[i] t=true
  rw[zlS (zui g (tm hi) (tm hj) ne)]
  have h:ahd cs[i] cs[j] t=false:=h
  rw[h]
  rfl
 trans:=λi j k hi hj hk h1 h2=>by
  unfold aF at h1 h2 ⊢
  rw[tm hi,tm hj]at h1
  rw[tm hj,tm hk]at h2
  rw[tm hi,tm hk]
  exact eE (g.ok _ (sJ hi)) (g.ok _ (sJ hj)) (g.ok _ (sJ hk)) h1 h2
def zdN(cs:List Cl)(t M:Int)(i:Nat):List Int:=match cs[i]? with
 | some c=>kM c t M
 | none=>[0,0,0]
def zqG(cs:List Cl)(t M:Int)(i:Nat):(zdN cs t M i).length=3:=by
 unfold zdN
 cases cs[i]?<;>rfl
def zsZ{cs:List Cl}(g:Good cs){t M:Int}(hM:0<M)(hd:∀c∈cs,c.wb∣M/\c.sb∣M){i j:Nat}(hi:i<cs.length)(hj:j<cs.length):HT.lexLt (zdN cs t M i) (zdN cs t M j)=aF cs t i j:=by
 unfold zdN aF
 rw[tm hi,tm hj]
 have m1:=sJ hi
 have m2:=sJ hj
 exact zrQ (g.ok _ m1) (g.ok _ m2) hM (hd _ m1).1 (hd _ m1).2 (hd _ m2).1 (hd _ m2).2
def Tot.congr{n:Nat}{lt lt':Nat->Nat->Bool}(T:Tot n lt)(h:∀i j,i<n->j<n->lt' i j=lt i j):Tot n lt' where
 asym:=λi j hi hj e=>by
  rw[h i j hi hj]at e
  rw[h j i hj hi]
  exact T.asym i j hi hj e
 tot:=λi j hi hj ne e=>by
  rw[h i j hi hj]at e
  rw[h j i hj hi]
  exact T.tot i j hi hj ne e
 trans:=λi j k hi hj hk e1 e2=>by
  rw[h i j hi hj]at e1
  rw[h j k hj hk]at e2
  rw[h i k hi hk]
  exact T.trans i j k hi hj hk e1 e2
def zqH{cs:List Cl}(g:Good cs){t M:Int}(hM:0<M)(hd:∀c∈cs,c.wb∣M/\c.sb∣M):Tot cs.length (λi j=>HT.lexLt (zdN cs t M i) (zdN cs t M j)):=(zsY g t).congr λi j hi hj=>zsZ g hM hd hi hj
def eL{α:Type}(d : α)(xs:List α){p:List Nat}(h:p.Perm (List.range xs.length)):(p.map λi=>xs.getD i d).Perm xs:=by
 have e:(List.range xs.length).map (λi=>xs.getD i d)=xs:=by
  apply rE
  ·simp
  ·intro i h1 h2
   simp[h2]
 have:=h.map λi=>xs.getD i d
 rw[e]at this
 exact this
def zlZ{ps:List (Addr × Cl)}(g:Good (ps.map (·.2))){t M:Int}(hM:0<M)(hd:∀c∈ps.map (·.2),c.wb∣M/\c.sb∣M){p:List Nat}(h:p.Perm (List.range (ps.map (·.2)).length))(d:Addr × Cl)
    (hs:∀i j,i<j->j<p.length->HT.lexLt (zdN (ps.map (·.2)) t M (p.getD i 0)) (zdN (ps.map (·.2)) t M (p.getD j 0))=true):Srt t ((p.map λi=>ps.getD i d).map (·.2)):=by
 unfold Srt
 rw[tW,List.pairwise_iff_getElem]
 intro i j hi hj ij
 rw[tq]at hi hj
 have lt:∀k (hk:k<p.length),p[k]<(ps.map (·.2)).length:=λk hk=>mem_range.mp (h.mem_iff.mp (sJ hk))
 have z:=hs i j ij hj
 rw[tK,tK,tm hi,tm hj]at z
 have z:HT.lexLt (zdN (ps.map (·.2)) t M p[i]) (zdN (ps.map (·.2)) t M p[j])=true:=z
 rw[zsZ g hM hd (lt i hi) (lt j hj)]at z
 unfold aF at z
 rw[tm (lt i hi),tm (lt j hj)]at z
 have z:ahd ((ps.map (·.2))[p[i]]'(lt i hi)) ((ps.map (·.2))[p[j]]'(lt j hj)) t=true:=z
 rw[getElem_map,getElem_map]at z
 rw[getElem_map,getElem_map]
 have e:∀k (hk:k<p.length),ps.getD p[k] d=ps[p[k]]'(by have:=lt k hk;simpa using this):=λk hk=>by
  have:=lt k hk
  rw[tK,tm (by simpa using this)]
  rfl
 show ahd (ps.getD p[i] d).2 (ps.getD p[j] d).2 t=true
 rw[e i hi,e j hj]
 exact z
section
variable{X:Cx}
theorem fB(bs:List Bool):(List.range bs.length).any (λi=>(bs[i]?).getD false)=bs.any id:=by
 induction bs with
 | nil=>rfl
 | cons b r ih=>
   rw[length_cons,sW,qJ,List.any_map,qJ,<-ih]
   rfl
theorem eM(hc:X.calm=true):zda X (.builtin "any") (λxs H Q=>∃(p:Addr)(bs:List Bool),xs=[.ref p]/\SqL X.K H p (bs.map V.bl)/\Q (.bl (bs.any id)) H):=by
 intro ai s σ H xs us Q I r h
 obtain⟨p,bs,rfl,hq,q⟩:=h
 obtain⟨u,rfl,ru⟩:=zdR r
 cases ru
 obtain⟨its,rv,pl,hz⟩:=I.list hq
 have lt:p<s.heap.objs.size:=by
  obtain⟨o,ho,_⟩:=pl.isList
  exact tG ho
 have hl:its.toArray.size=bs.length:=by
  have:=rv.length
  simp at this ⊢
  omega
 refine call_any_walk (rg pl.isList ?_)
 refine⟨s.heap.objs.size,_,_,_,_,_,λi=>(bs[i]?).getD false,rfl,Walks.list (prog:=X.prog) (w:=X.w) (A:=X.A.in1) (show X.A.in1.handled=none from I.ok.hd hc) _ p (tJ lt) its.toArray,⟨⟨_,tH _ rfl,rfl,rfl⟩,pl.isList.at λo e=>tu _ e⟩,λi v s' Q' E' hP hQ'=>?_,λh' tk kk=>?_⟩
 ·have hP':its[i]?=some v:=by simpa using hP
  cases e:bs[i]? with
  | none=>
    have h1:its.length<=i:=by
     have h2:=getElem?_eq_none_iff.mp e
     simp at hl
     omega
    rw[sZ h1]at hP'
    cases hP'
  | some b=>
    dsimp only at hQ'
    rw[e]at hQ'
    obtain⟨u,hu,ru⟩:=rv.get (i:=i) (x:=.bl b) (by rw[getElem?_map,e];rfl)
    rw[hP']at hu
    cases hu
    cases(show v=Value.bool b from ru)
    exact sI hQ'
 ·rw[hl,fB]
  refine⟨.bl _,H,I.kept (t':=tk) (h':=h') λb o e=>kk b o ?_ (tu _ e),rfl,q⟩
  intro z
  have z:b=s.heap.objs.size:=by simpa using z
  exact tJ (tG e) z
end
end L2
namespace L2
open PySem PySem.Spec PyProof.Rows PySem.W
section
variable{X:Cx}
def zta(K:Frag):List V->Hp->VK->Prop:=λvs H Q=>∃(l:Addr)(xs:List V)(kf:Nat->List Int)(m:Nat),vs=[.ref l]/\SqL K H l xs/\xs.length<64/\(∀i,(kf i).length=m)/\0<m/\Tot xs.length (λi j=>HT.lexLt (kf i) (kf j))/\
 (∀i v,xs[i]?=some v->∃p,v=.ref p/\H p=some (.tup ((kf i).map V.int)))/\
 ∀D H' (p:List Nat),Same H H'->H D=none->H' D=some (.lst (p.map λi=>xs.getD i .non))->p.Perm (List.range xs.length)->(∀i j,i<j->j<p.length->HT.lexLt (kf (p.getD i 0)) (kf (p.getD j 0))=true)->Q (.ref D) H'
def zmH:zda X (.builtin "sorted") (zta X.K):=by
 intro ai s σ H eO us Q I r h
 obtain⟨l,xs,kf,m,rfl,hl,hn,k1,m1,T,hk,h⟩:=h
 obtain⟨u,rfl,ru⟩:=zdR r
 cases ru
 obtain⟨its,rv,pl,hz⟩:=I.list hl
 have il:its.length=xs.length:=rv.length.symm
 have sl:(100:Nat)<=sizeLine:=by decide
 have kin:zlX H kf its:=λj hj=>by
  have hjx:j<xs.length:=by omega
  obtain⟨p,e1,e2⟩:=hk j _ (tm hjx)
  obtain⟨u,hu,ru⟩:=rv.get (tm hjx)
  rw[e1]at ru
  obtain rfl:u=.ref p:=ru
  exact⟨p,hu,e2⟩
 refine Calls.call_function_entry kind_sorted plain_sorted entry_sorted (args_sorted1 (.ref l)) ?_
 unfold Builtin.«sorted»
 refine tw (m:=checkCount "sorted" 1 1 _) (tI (tw (collect_list pl.isList (tw (pr ?_ (by omega))) (by omega))))
 have kA:∀b o,s.heap.get? b=some o->((s.heap.push (seqObj "list" #[] 0)).update s.heap.objs.size (Obj.mapSeq (· ++ its.toArray))).get? b=some o:=λb o e=>by
  rw[rY _ _ _ _ (tJ (tG e))]
  exact tu _ e
 have sA:s.heap.objs.size<=((s.heap.push (seqObj "list" #[] 0)).update s.heap.objs.size (Obj.mapSeq (· ++ its.toArray))).objs.size:=by
  rw[Heap.size_update,size_push']
  exact sj _
 dsimp only
 generalize ((s.heap.push (seqObj "list" #[] 0)).update s.heap.objs.size (Obj.mapSeq (· ++ its.toArray)))=A1 at kA sA ⊢
 have hD:(A1.push (seqObj "list" its.toArray 0)).get? A1.objs.size=some (seqObj "list" its.toArray 0):=tH _ rfl
 generalize eD:A1.objs.size=D at hD sA ⊢
 have kB:∀b o,s.heap.get? b=some o->(A1.push (seqObj "list" its.toArray 0)).get? b=some o:=λb o e=>tu _ (kA b o e)
 generalize A1.push (seqObj "list" its.toArray 0)=A2 at hD kB ⊢
 refine tw (tZ (wpAny_call_entry slot_list_sort ⟨_,hD,rfl⟩ entry_list_sort ?body (args_list_sort (.ref D))))
 case body=>
  rw[list_sort_plain D]
  refine tw (listItems_at hD rfl (tw (rP hD rfl ?_ (by rw[size_toArray];omega) (tU _))))
  obtain⟨e1,hD1⟩:∃e1,(A2.update D (Obj.mapSeq λ_=>(#[]:Array Value))).get? D=some (seqObj "list" #[] e1):=⟨_,qe hD λ_ => #[]⟩
  have kC:∀b o,s.heap.get? b=some o->(A2.update D (Obj.mapSeq λ_=>(#[]:Array Value))).get? b=some o:=λb o e=>by
   rw[rY _ _ _ _ (tJ (tN (tG e) sA))]
   exact kB b o e
  dsimp only
  refine tw (pA hD1 rfl (tw (wpAny_newTuple ?_ (by show its.length<=sizeLine;omega))))
  refine tw (pr (tZ ?_) (tU _))
  dsimp only
  generalize A2.update D (Obj.mapSeq λ_=>(#[]:Array Value))=A3 at hD1 kC ⊢
  have hD3:=tu (seqObj "list" #[] 0) (tu (seqObj "tuple" its.toArray 0) hD1)
  have kF:∀b o,s.heap.get? b=some o->((A3.push (seqObj "tuple" its.toArray 0)).push (seqObj "list" #[] 0)).get? b=some o:=λb o e=>tu _ (tu _ (kC b o e))
  have nD:H D=none:=I.hok.fresh sA
  have fD:=I.fpOk (H':=H) sA nD
  have I0:Inv X ai σ H { s with heap:=(A3.push (seqObj "tuple" its.toArray 0)).push (seqObj "list" #[] 0) }:=I.kept (t':=s.toks) kF
  show wpAny (model X.prog X.w) X.A.in1.in1 _ _ _ { s with heap:=(A3.push (seqObj "tuple" its.toArray 0)).push (seqObj "list" #[] 0) }
  generalize (A3.push (seqObj "tuple" its.toArray 0)).push (seqObj "list" #[] 0)=A5 at hD3 kF I0 ⊢
  have fin:∀(p:List Nat),p.Perm (List.range xs.length)->(∀i j,i<j->j<p.length->HT.lexLt (kf (p.getD i 0)) (kf (p.getD j 0))=true)->
    EP X ai σ Q (.ref D) { s with heap:=A5.update D (Obj.mapSeq λ_=>List.toArray (p.map λi=>its.getD i Value.none)) }:=by
   intro p hp hs
   have pl2:p.length=xs.length:=by simpa using hp.length_eq
   obtain⟨c2,hc2⟩:∃c2,(A5.update D (Obj.mapSeq λ_=>List.toArray (p.map λi=>its.getD i Value.none))).get? D=some (seqObj "list" (List.toArray (p.map λi=>its.getD i Value.none)) c2):=⟨_,qe hD3 λ_=>List.toArray (p.map λi=>its.getD i Value.none)⟩
   have sb:=rZ A5 D (Obj.mapSeq λ_=>List.toArray (p.map λi=>its.getD i Value.none))
   have kp:∀b o,b≠D->A5.get? b=some o->(A5.update D (Obj.mapSeq λ_=>List.toArray (p.map λi=>its.getD i Value.none))).get? b=some o:=λb o n g=>(sb.2 b n).trans g
   have trk:∀b u,H b=some u->b≠D:=λb u g z=>by rw[z,nD]at g;cases g
   have sm:Same H (upd H D (.lst (p.map λi=>xs.getD i .non))):=λb u g=>by rw[zau (trk b u g)];exact g
   refine⟨.ref D,upd H D (.lst (p.map λi=>xs.getD i .non)),?_,rfl,h D _ p sm nD zan hp hs⟩
   refine Inv.step (s := { s with heap:=A5 }) (g':=s.gens) (d':=s.drawn) (t':=s.toks) (ch:=[D]) I0 (λb hb=>?_) (λb o _ _ hc g _=>kp b o (λz=>hc (by simp[z])) g) (λb o _ _ hc g _=>⟨o.slots,kp b o (λz=>hc (by simp[z])) g⟩) (λb o hc _ n=>?_) (λb o hc g=>⟨o,kp b o (λz=>hc (by simp[z])) g⟩)
    (λb ys g=>sm b _ g) (λb o u g=>sm b _ g) (λb lp lq g=>sm b _ g) (λmm hm=>?_) (λb u g=>?_) I0.bare
   ·have:b=D:=by simpa using hb
    subst this
    exact⟨fD.2.2.2.1,fD.2.1,fD.2.2.2.2.1,fD.2.2.2.2.2⟩
   ·rw[zau (λz=>hc (by simp[z]))]
    exact n
   ·obtain⟨o,es,ep,g,r⟩:=hm
    exact⟨o,es,ep,kp _ o (Ne.symm fD.2.1) g,r⟩
   ·by_cases z:b=D
    ·subst z
     rw[zan]at g
     cases g
     refine⟨by rw[tq,pl2];omega,_,c2,zhw rv p λi hi=>mem_range.mp (hp.mem_iff.mp hi),hc2⟩
    ·rw[zau z]at g
     refine(I0.hok b u g).stay (λd v hd q=>kp d v ?_ q) (λd q=>sm d _ q) (λd ys q=>sm d _ q) λd ob ys q=>sm d _ q
     rcases hd with y | y
     ·rw[y];exact trk b u g
     ·exact trk d _ y
  have tail:∀(st:SortSt)(p:List Nat),failedOf st=none->(arrOf st).map (·.2)=List.toArray (p.map λi=>its.getD i Value.none)->p.Perm (List.range xs.length)->(∀i j,i<j->j<p.length->HT.lexLt (kf (p.getD i 0)) (kf (p.getD j 0))=true)->(p.map λi=>its.getD i Value.none).length=its.length:=λst p _ _ hp _=>by
   rw[tq]
   have:=hp.length_eq
   simp at this
   omega
  by_cases n2:its.toArray.size<2
  ·rw[if_pos n2,if_pos n2]
   refine tw (tI ?_)
   rw[StateT.run_pure]
   refine tw (tI ?_)
   dsimp only
   rw[size_toArray]at n2
   have hout:(arrOf (SortSt.mk' general' (its.toArray.zip its.toArray) #[] 7 none)).map (·.2)=List.toArray ((List.range xs.length).map λi=>its.getD i Value.none):=by
    show((List.toArray its).zip its.toArray).map (·.2)=_
    rw[<-il,zqF]
    apply Array.toList_inj.mp
    rw[Array.toList_map,ksk_zip]
    exact pF (by simp)
   rw[hout]
   refine tw (pA hD3 rfl (tw (rP hD3 rfl ?_ (tU _) (by simp;omega))))
   simp only[bne_self_eq_false,Bool.false_eq_true,if_false]
   refine tI ⟨_,rfl,tI ⟨_,rfl,fin (List.range xs.length) (List.Perm.refl _) λi j ij jl=>?_⟩⟩
   rw[sU]at jl
   omega
  ·rw[if_neg n2,if_neg n2]
   rw[size_toArray]at n2
   refine tw (eK I0 (λi=>by rw[k1];exact m1) kin (by omega) ?_)
   refine tw (so (kat_run (ks:=its) (vs:=its) (Q:=λst' s''=>∃p:Array Nat,arrOf st'=p.map (kas_item ((List.toArray its).zip its.toArray))/\failedOf st'=none/\s'' = { s with heap:=A5 }/\Pm xs.length p/\Sd (λi j=>HT.lexLt (kf i) (kf j)) p xs.length) (G:=λp s''=>s'' = { s with heap:=A5 }/\Pm xs.length p/\Sd (λi j=>HT.lexLt (kf i) (kf j)) p xs.length)
    rfl (by omega) (by omega) (λp st' s'' _ a2 a3 a4=>⟨p,a2,a3,a4⟩) ?_) ?_ λ_ _ z=>z)
   ·rw[il]
    refine Asks.wp (n:=xs.length) (lt:=λi j=>HT.lexLt (kf i) (kf j)) (R:=λp=>Pm xs.length p/\Sd (λi j=>HT.lexLt (kf i) (kf j)) p xs.length) (λi j C hi hj hC=>?_) (λp hp=>⟨rfl,hp⟩) _ (eJ T (by omega))
    exact zlY I0 k1 kin (by omega) (by omega) hC
   ·rintro⟨⟨⟩,st'⟩ s'' ⟨p,har,hf,rfl,P,S⟩
    have hs:∀i j,i<j->j<p.toList.length->HT.lexLt (kf (p.toList.getD i 0)) (kf (p.toList.getD j 0))=true:=λi j ij jl=>by
     have e2:∀k,p.toList.getD k 0=p.getD k 0:=λk=>by rw[tK,atq];simp
     rw[e2,e2]
     exact S i j ij (by rw[Array.length_toList,P.sz]at jl;exact jl)
    have hout:=kat_snds (ks:=its) (vs:=its) rfl har
    have lo:=tail st' p.toList hf hout P.pm hs
    dsimp only
    rw[hout]
    refine tw (pA hD3 rfl (tw (rP hD3 rfl ?_ (tU _) (by rw[size_toArray,lo];omega))))
    rw[hf]
    simp only[bne_self_eq_false,Bool.false_eq_true,if_false]
    exact tI ⟨_,rfl,tI ⟨_,rfl,fin p.toList P.pm hs⟩⟩
end
end L2
namespace L2
open PySem PySem.Spec PyProof.Rows
abbrev Row:=Int × Int × Int
def Row.key(r:Row):List Int:=[r.1,r.2.1,r.2.2]
def rlt(r q:Row):Bool:=HT.lexLt (Row.key r) (Row.key q)
def rk(rows:List Row)(i:Nat):List Int:=match rows[i]? with
 | some r=>Row.key r
 | none=>[0,0,0]
noncomputable def mt(b l:Cl)(t:Int):Option Int:=open Classical in if h:∃u,Pass b l t (.int u)then some h.choose else none
structure RowsOf(cs:List Cl)(t:Int)(rows:List Row):Prop where
 srt:rows.Pairwise λr q=>rlt r q=true
 mem:∀r:Row,r∈rows↔∃b f,b∈cs/\f∈cs/\ahd f b t=true/\mt b f t=some r.1/\r.2.1=b.n/\r.2.2=f.n
structure IsRows(H:Hp)(l:Addr)(rs:List (Addr × Row)):Prop where
 at_:H l=some (.lst (rs.map λr=>V.ref r.1))
 rw:∀r,r∈rs->H r.1=some (.tup ((Row.key r.2).map V.int))
def Nols(H H':Hp):Prop:=∀b o,(∀xs,o≠HO.lst xs)->H b=some o->H' b=some o
def Same.nols{H H':Hp}(s:Same H H'):Nols H H':=λb o _ e=>s b o e
theorem zhz{α:Type}{K:PySem.W.Frag}{a:Addr}{xs:List V}{js:List Nat}{tc:TT}{te:TE}{σ:St}{H1:Hp}{Q:VK}(p:Nat->Bool)(f:Nat -> α)(W:Hp->Addr -> α->Prop)(mono:∀H H' u c,Nols H H'->W H u c->W H' u c)(hl:SqL K H1 a xs)
  (ht:∀i x Hh (Q':Bool->Hp->Prop),xs[i]?=some x->Same H1 Hh->(∀Hh',Same Hh Hh'->Q' (p i) Hh')->tc (some x::caps σ js) Hh Q')
  (he:∀i x Hh (Q':VK),xs[i]?=some x->p i=true->Same H1 Hh->(∀b Hh',Same Hh Hh'->W Hh' b (f i)->Q' (.ref b) Hh')->te (some x::caps σ js) Hh Q')
  (hz:xs.length<sizeLine) (q:∀D H2 (bs:List (Addr × α)),Same H1 H2->H1 D=none->H2 D=some (.lst (bs.map λb=>V.ref b.1))->bs.map (·.2)=((List.range xs.length).filter p).map f->(∀b,b∈bs->W H2 b.1 b.2)->Q (.ref D) H2):
  zep (Itl K a) js tc te σ H1 Q:=by
 intro D H2 s2 hD h2
 refine⟨λi m acc H3=>m=xs.length-i/\i<=xs.length/\∃bs:List (Addr × α),acc=(bs.map λb=>V.ref b.1)/\bs.map (·.2)=((List.range i).filter p).map f/\(∀b,b∈bs->W H3 b.1 b.2)/\Same H1 H3/\H3 D=some (.lst acc),⟨_,rfl,tU _,[],rfl,by simp,λb hb=>by simp at hb,s2,h2⟩,?_⟩
 rintro i m acc H3 ⟨rfl,hi,bs,ea,eb,hb,s3,h3⟩
 have hl3:SqL K H3 a xs:=s3.seq hl
 have hll:acc.length<=xs.length:=by
  have e:=tS List.length eb
  rw[tq,tq]at e
  rw[ea,tq,e]
  refine tM (t6 _ _) ?_
  rw[sU]
  exact hi
 refine⟨h3,by omega,?_⟩
 by_cases hlt:i<xs.length
 ·have hx:xs[i]?=some xs[i]:=tm hlt
  refine .inr ⟨⟨xs,_,hl3,hx⟩,λy H4 z=>?_⟩
  obtain⟨e,ey⟩:=z
  have ey2:=ey xs hl3
  subst e
  refine ht i y _ _ ey2 s3 λH5 s5=>?_
  have h5:=s5 _ _ h3
  have s35:=s3.trans s5
  have tk:(List.range (i+1)).filter p=(List.range i).filter p++(if p i=true then[i]else[]):=by
   rw[ph,rA]
   congr 1
   cases h:p i<;>simp[h]
  cases hp:p i with
  | true=>
    refine iteT (he i y _ _ ey2 hp s35 λb6 H6 s6 g6=>⟨s6 _ _ h5,λH7 k7 h7=>⟨xs.length-(i+1),by omega,rfl,hlt,bs++[(b6,f i)],?_,?_,λb hb'=>?_,λb o e=>?_,h7⟩⟩)
    ·rw[ea,tV]
     rfl
    ·rw[tV,eb,tk,hp,if_pos rfl,tV]
     rfl
    ·have nD:Nols H6 H7:=λc t nl g=>k7 _ _ (λz=>by
      rw[z,s6 _ _ h5]at g
      exact nl _ (tF g).symm) g
     rcases mem_append.mp hb' with h | h
     ·exact mono _ _ _ _ nD (mono _ _ _ _ ((s5.trans s6).nols) (hb b h))
     ·rw[mem_singleton.mp h]
      exact mono _ _ _ _ nD g6
    ·by_cases hbD:b=D
     ·subst hbD
      rw[hD]at e
      cases e
     ·exact k7 b o hbD (s6 b o (s35 b o e))
  | false=>
    refine iteF ⟨xs.length-(i+1),by omega,rfl,hlt,bs,ea,?_,λb h=>mono _ _ _ _ s5.nols (hb b h),s35,h5⟩
    rw[eb,tk,hp,if_neg tE,sM]
 ·have e:i=xs.length:=by omega
  subst e
  refine .inl ⟨⟨xs,hl3,tD _⟩,?_⟩
  rw[ea]at h3
  exact q D _ bs s3 hD h3 eb hb
def zfc{K:am}{a:Addr}{xs:List V}{js:List Nat}{tc:TT}{te:TE}{σ:St}{H1:Hp}{Q:VK}(p:Nat->Bool)(f:Nat->List V)(hl:SqL K H1 a xs)
    (ht:∀i x Hh (Q':Bool->Hp->Prop),xs[i]?=some x->Same H1 Hh->(∀Hh',Same Hh Hh'->Q' (p i) Hh')->tc (some x::caps σ js) Hh Q')
    (he:∀i x Hh (Q':VK),xs[i]?=some x->p i=true->Same H1 Hh->(∀b Hh',Same Hh Hh'->Hh' b=some (.tup (f i))->Q' (.ref b) Hh')->te (some x::caps σ js) Hh Q')
    (hz:xs.length<sizeLine) (q:∀D H2 (bs:List (Addr × List V)),Same H1 H2->H1 D=none->H2 D=some (.lst (bs.map λb=>V.ref b.1))->bs.map (·.2)=((List.range xs.length).filter p).map f->(∀b,b∈bs->H2 b.1=some (.tup b.2))->Q (.ref D) H2):
    zep (Itl K a) js tc te σ H1 Q:=
 zhz p f (λH u c=>H u=some (.tup c)) (λH H' u c t h=>t _ _ (λ_ z=>by cases z) h) hl ht he hz q
section
variable{X:Cx}{K:am}
def rIsC(K:am)(C:Addr):List V->Hp->VK->Prop:=λxs H Q=>∃x t b,xs=[x,.ref C]/\TyX K H x t/\W.kitOne K t (.ref C)=some b/\Q (.bl b) H
def ziP{C:Addr}(hK:X.K=K):zda X (.builtin "isinstance") (rIsC K C):=hK▸zhr (C:=C)
end
section
variable{X:Cx}
def ztb:TE:=λ_ H Q=>∀p H2,Same H H2->H p=none->H2 p=some (.dK [])->Q (.ref p) H2
theorem zfd{pos:Pos}:PE X (.Dict [] [] pos) ztb:=by
 with_unfolding_all
  exact λai s σ H Q I h=>zpz ai s σ H Q I λp n=>h p _ (zbq n _) n zan
end
def zoa:Expr->Bool
 | .Starred .. => true
 | _=>false
def zmI{e:Expr}(h:zoa e=false)(rest:List Expr)(env:Env):starEach (e::rest) env=(false,eval e env)::starEach rest env:=by
 cases e<;>first | rfl | cases h
section
variable{X:Cx}
def zpQ{e:Expr}{es:List Expr}{te:TE}{t:TA}(ha:PE X e te)(hr:PA X es t)(hs:zoa e=false:=by rfl):PA X (e::es) (zrw te t):=zaa ha hr (zmI hs es X.env)
end
theorem fC{lo:Int}{n:Nat}{js:List Nat}{tc:TT}{te:TE}{σ:St}{H1:Hp}{Q:VK}(p:Nat->Bool)(f:Nat->V)
  (ht:∀i Hh (Q':Bool->Hp->Prop),i<n->Same H1 Hh->Q' (p i) Hh->tc (some (.int (lo+i))::caps σ js) Hh Q') (he:∀i Hh (Q':VK),i<n->Same H1 Hh->Q' (f i) Hh->te (some (.int (lo+i))::caps σ js) Hh Q')
  (hz:n<sizeLine) (q:∀D H2,Same H1 H2->H1 D=none->H2 D=some (.lst (((List.range n).filter p).map f))->Q (.ref D) H2):
  zep (Itr lo n) js tc te σ H1 Q:=by
 intro D H2 s2 hD h2
 refine⟨λi m acc H3=>m=n-i/\i<=n/\acc=((List.range i).filter p).map f/\Same H1 H3/\H3 D=some (.lst acc),⟨_,rfl,tU _,by simp,s2,h2⟩,?_⟩
 rintro i m acc H3 ⟨rfl,hi,ea,s3,h3⟩
 have hl:acc.length<=n:=by
  rw[ea,tq]
  refine tM (t6 _ _) ?_
  rw[sU]
  exact hi
 refine⟨h3,by omega,?_⟩
 by_cases hlt:i<n
 ·refine .inr ⟨hlt,λy H4 z=>?_⟩
  obtain⟨e,ey⟩:=z
  subst e ey
  refine ht i _ _ hlt s3 ?_
  have tk:(List.range (i+1)).filter p=(List.range i).filter p++(if p i=true then[i]else[]):=by
   rw[ph,rA]
   congr 1
   cases h:p i<;>simp[h]
  cases hp:p i with
  | true=>
    refine iteT (he i _ _ hlt s3 ⟨h3,λH7 k7 h7=>⟨n-(i+1),by omega,rfl,hlt,?_,λb o e=>?_,h7⟩⟩)
    ·rw[tk,hp,if_pos rfl,tV,<-ea]
     rfl
    ·by_cases hb:b=D
     ·subst hb
      rw[hD]at e
      cases e
     ·exact k7 b o hb (s3 b o e)
  | false=>
    refine iteF ⟨n-(i+1),by omega,rfl,hlt,?_,s3,h3⟩
    rw[tk,hp,if_neg tE,sM]
    exact ea
 ·have e:i=n:=by omega
  subst e
  refine .inl ⟨tD _,?_⟩
  rw[ea]at h3
  exact q D _ s3 hD h3
theorem bi{k:Int}:∀{ns:List Int},inV (.int k) (ns.map V.int)=decide (k∈ns)
 | []=>by simp[inV]
 | n::ns=>by
   have ih:=bi (k:=k) (ns:=ns)
   unfold inV at ih ⊢
   rw[sf,qJ,ih]
   by_cases e:k=n
   ·subst e
    simp[eqV]
   ·simp[eqV,e,Ne.symm e]
def tak{α:Type}(xs:List α)(P : α->Bool)(i:Nat):Bool:=match xs[i]? with
 | some x=>P x
 | none=>false
theorem zbZ{α:Type}(P : α->Bool)(g : α->V):∀xs:List α,((List.range xs.length).filter (tak xs P)).map (itm xs g)=(xs.filter P).map g
 | []=>rfl
 | x::xs=>by
   rw[length_cons,sW,sQ,sP]
   have e1:(tak (x::xs) P ∘ Nat.succ)=tak xs P:=rfl
   have e2:∀l:List Nat,(l.map Nat.succ).map (itm (x::xs) g)=l.map (itm xs g):=λl=>by
    rw[tW]
    rfl
   rw[e1,sQ]
   have e3:tak (x::xs) P 0=P x:=rfl
   rw[e3]
   cases P x with
   | true=>
     rw[if_pos rfl,if_pos rfl,sf,sf,e2,zbZ P g xs]
     rfl
   | false=>
     rw[if_neg tE,if_neg tE,e2,zbZ P g xs]
def itl{α:Type}(xs:List α)(g : α->List V)(i:Nat):List V:=match xs[i]? with
 | some x=>g x
 | none=>[]
theorem zev{α:Type}(P : α->Bool)(g : α->List V):∀xs:List α,((List.range xs.length).filter (tak xs P)).map (itl xs g)=(xs.filter P).map g
 | []=>rfl
 | x::xs=>by
   rw[length_cons,sW,sQ,sP]
   have e1:(tak (x::xs) P ∘ Nat.succ)=tak xs P:=rfl
   have e2:∀l:List Nat,(l.map Nat.succ).map (itl (x::xs) g)=l.map (itl xs g):=λl=>by
    rw[tW]
    rfl
   rw[e1,sQ]
   have e3:tak (x::xs) P 0=P x:=rfl
   rw[e3]
   cases P x with
   | true=>
     rw[if_pos rfl,if_pos rfl,sf,sf,e2,zev P g xs]
     rfl
   | false=>
     rw[if_neg tE,if_neg tE,e2,zev P g xs]
section
variable{X:Cx}
@[irreducible] def PAi(X:Cx)(es:List Expr)(t:TA):Prop:=PA X es t
def zaL:PAi X [] tNil:=by
 unfold PAi
 exact zaf
def zad{e:Expr}{es:List Expr}{te:TE}{t:TA}(ha:PE X e te)(hr:PAi X es t)(hs:zoa e=false:=by rfl):PAi X (e::es) (zrw te t):=by
 unfold PAi at *
 exact zpQ ha hr hs
def pai{es:List Expr}{t:TA}(h:PAi X es t):PA X es t:=by
 unfold PAi at h
 exact h
end
def Walk(cs:List Cl)(r:Row):Prop:=∃b f,b∈cs/\f∈cs/\b.n≠f.n/\ahd f b (r.1-1)=true/\ahd b f r.1=true/\r.2.1=b.n/\r.2.2=f.n
structure Betw(cs:List Cl)(t u:Int)(rows:List Row):Prop where
 srt:rows.Pairwise λr q=>rlt r q=true
 mem:∀r:Row,r∈rows↔(t<r.1/\r.1<=u)/\Walk cs r
end L2
namespace L2
open PySem
theorem ul1{α:Type}{us:List α}(h:us.length=1):∃a1,us=[a1]:=by
 match us,h with
 | [a1],_=>exact⟨a1,rfl⟩
theorem ul2{α:Type}{us:List α}(h:us.length=2):∃a1 a2,us=[a1,a2]:=by
 match us,h with
 | [a1,a2],_=>exact⟨a1,a2,rfl⟩
theorem ul3{α:Type}{us:List α}(h:us.length=3):∃a1 a2 a3,us=[a1,a2,a3]:=by
 match us,h with
 | [a1,a2,a3],_=>exact⟨a1,a2,a3,rfl⟩
theorem ul4{α:Type}{us:List α}(h:us.length=4):∃a1 a2 a3 a4,us=[a1,a2,a3,a4]:=by
 match us,h with
 | [a1,a2,a3,a4],_=>exact⟨a1,a2,a3,a4,rfl⟩
theorem ul5{α:Type}{us:List α}(h:us.length=5):∃a1 a2 a3 a4 a5,us=[a1,a2,a3,a4,a5]:=by
 match us,h with
 | [a1,a2,a3,a4,a5],_=>exact⟨a1,a2,a3,a4,a5,rfl⟩
theorem ul6{α:Type}{us:List α}(h:us.length=6):∃a1 a2 a3 a4 a5 a6,us=[a1,a2,a3,a4,a5,a6]:=by
 match us,h with
 | [a1,a2,a3,a4,a5,a6],_=>exact⟨a1,a2,a3,a4,a5,a6,rfl⟩
theorem ul7{α:Type}{us:List α}(h:us.length=7):∃a1 a2 a3 a4 a5 a6 a7,us=[a1,a2,a3,a4,a5,a6,a7]:=by
 match us,h with
 | [a1,a2,a3,a4,a5,a6,a7],_=>exact⟨a1,a2,a3,a4,a5,a6,a7,rfl⟩
end L2
namespace L2
open PySem PySem.Spec PyProof.Rows
def Cl.at(d:Cl)(x:Int):Cl:=⟨d.n,d.wt,d.wb,d.st,d.sb,x⟩
def ovr(c d:Cl)(t:Int):Bool:=decide (0<gap d c t)
def abl(c d:Cl)(x u:Int):Bool:=ovr c (d.at x) x||ovr c (d.at x) u
inductive LastAt(c d:Cl)(b u:Int):V->Prop
 | no:(∀x,b<=x->x<=u->abl c d x u=false)->LastAt c d b u .non
 | at (r:Int):b<=r->r<=u->abl c d r u=true->(∀x,r<x->x<=u->abl c d x u=false)->LastAt c d b u (.int r)
section
variable{X:Cx}
end
def CompScopeN.of{X:Cx}{scope:Scope}{nk:Nat}{N:List Str}{js:List Nat}(c1:scope.kind=.function)(c2:(scope.names.all λy=>y.2 != .cell)=true)
    (c3:(scope.names.all λy=>y.2 != .local||scope.names.lookup y.1==some .local)=true) (c4:((N.take nk).all λx=>scope.names.lookup x==some .local)=true) (c5:(scope.names.all λy=>y.2 != .free||X.env.kindOf y.1==some .cell)=true)
    (nd:N.Nodup) (len:N.length=js.length+nk) (c6:(scope.names.all λy=>y.2 != .free||scope.names.lookup y.1 != some .local)=true)
    (c7:(((N.drop nk).zip js).all λp=>X.N[p.2]?==some p.1&&X.env.scope.names.lookup p.1==some .cell&&scope.names.contains (p.1,NameKind.free))=true):CompScopeN X scope nk N js where
 kind:=c1
 nocell:=λy hy e=>by
  have:=all_eq_true.mp c2 y hy
  rw[e]at this
  exact absurd this (by decide)
 loc:=λy hy e=>by
  have:=all_eq_true.mp c3 y hy
  rw[e]at this
  simpa using this
 own:=λi x e h=>by
  have m:x∈N.take nk:=tz (i:=i) (by rw[List.getElem?_take,if_pos h];exact e)
  simpa using all_eq_true.mp c4 x m
 free:=λy hy e=>by
  have:=all_eq_true.mp c5 y hy
  rw[e]at this
  simpa using this
 nd:=nd
 len:=len
 apart:=λy hl hm=>by
  have:=all_eq_true.mp c6 _ hm
  rw[hl]at this
  simp at this
 cap:=λk j y h1 h2=>by
  have hz:((N.drop nk).zip js)[k]?=some (y,j):=by
   rw[rS]
   exact⟨by rw[List.getElem?_drop,Nat.add_comm];exact h1,h2⟩
  have:=all_eq_true.mp c7 _ (tz hz)
  simp only[Bool.and_eq_true,beq_iff_eq]at this
  obtain⟨⟨a,b⟩,c⟩:=this
  exact⟨a,.inr (.inl b),b,by simpa using c⟩
def eP{X:Cx}{iter elt tg:Expr}{nk:Nat}{g:TG}{y:Str}{i:Nat}{py spos:Pos}{ifs:List Expr}{scope:Scope}{pos:Pos}{wi:TI}{N:List Str}{js:List Nat}{tc:TT}{te:TE}
    (hN:X.N.Nodup) (hiN:X.N[i]?=some y) (hyl:X.env.scope.names.lookup y=some .local)
    (hc:X.calm=true) (S:CompScopeN X scope nk N js) (hg:∀cl C s₀ H₀ ex,(∀(i:Nat)(x:Str)(px:Pos),N[i]?=some x->i<nk->PG (zaQ X N scope cl C s₀ H₀ ex) (.Name x px) (zhf i))->PG (zaQ X N scope cl C s₀ H₀ ex) tg g) (hi:PI X tg iter wi)
    (ht:∀cl C s₀ H₀ ex,zhq (zaQ X N scope cl C s₀ H₀ ex) ifs tc) (he:∀cl C s₀ H₀ ex,PE (zaQ X N scope cl C s₀ H₀ ex) elt te)
    (hsw:swapsWith (.ListComp elt [⟨tg,iter,ifs,0⟩] scope pos) (some (.Name y py)) spos.line X.env=pure true:=by rfl)
    (hs:∀x,foldedSetIterable iter X.env x=pure x:=by intro _;rfl):
    PS X (.Assign [.Name y py] (.ListComp elt [⟨tg,iter,ifs,0⟩] scope pos) spos) (tAsg (zsP wi nk g js tc te) (zhf i)):=by
 with_unfolding_all
  intro ai s σ H DD I h
  have hcells:∀y∈scope.names,y.2=.free->∃c,X.env.cells.lookup y.1=some c:=λy hy hf=>I.ok.has y.1 (.inl (S.free y hy hf))
  obtain⟨cl,ecl,cl1,cl2⟩:=ziL hcells
  rw[exec_Assign_Name_used _ _ _ _ hsw]
  refine tw (rO (tw ?_))
  show wpAny _ X.A (do let _ <-comprehension (.ListComp elt [⟨tg,iter,ifs,0⟩] scope pos) scope X.env _ (newList []) false (eval iter X.env) (some (assign (.Name y py) X.env))) _ _ s
  refine tw (so (wpAny_comprehension_free (use:=some (assign (.Name y py) X.env)) (Q:=λ_ s'=>SP X ai DD .next s') rfl hs ecl S.kind S.loc (thn (hi ai s σ H _ I h) λv s1 h1=>thn h1 λitv s2 h2=>?_)) (λ_ s' hq=>tI (tI hq)) λ_ _ e=>e)
  obtain⟨it,fp,tn,J,H2,e,I2,T,st2,f2,q2⟩:=h2
  subst e
  refine pe (qI S.nocell (by intro y hy;simp at hy) (λh₁ hns₁ hsb₁=>?_) S.kind)
  dsimp only at hns₁ hsb₁ ⊢
  generalize hP2:s2.heap.push { cls:=.type "list",dict:=none,data:=.seq ([]:ah).toArray }=P2 at hns₁ hsb₁ ⊢
  have hC:P2.objs.size=s2.heap.objs.size+1:=by rw[<-hP2,qy]
  have below:∀b,b<s2.heap.objs.size->b≠P2.objs.size/\b≠s2.heap.objs.size:=λb hb=>⟨by rw[hC];exact tJ (qu hb),tJ hb⟩
  have hDC:s2.heap.objs.size≠P2.objs.size:=by rw[hC];exact tJ (ss _)
  have old:∀b o,s2.heap.get? b=some o->h₁.get? b=some o:=λb o e=>hsb₁.extBut b o (below b (tG e)).1 (tu _ (hP2▸tu _ e))
  have hD:h₁.get? s2.heap.objs.size=some { cls:=.type "list",dict:=none,data:=.seq ([]:ah).toArray }:=hsb₁.extBut _ _ hDC (tu _ (hP2▸tH _ rfl))
  have hDn:H2 s2.heap.objs.size=none:=I2.hok.fresh (tD _)
  have hCn:H2 P2.objs.size=none:=I2.hok.fresh (by rw[hC];exact sj _)
  obtain⟨W,⟨m0,w0⟩,turn⟩:=q2 s2.heap.objs.size _ (zbq hDn (.lst [])) hDn zan
  have fpl:∀b∈fp,b<s2.heap.objs.size:=λb hb=>by
   obtain⟨o,e,_⟩:=T.obj 0 _ st2 b hb
   exact tG e
  have yok:(zaQ X N scope cl P2.objs.size s2 H2 fp).Ok:=
   { mod:=I2.ok.mod
     kind:=S.kind
     glob:=I2.ok.glob
     blt:=I2.ok.blt
     above:=by show s2.heap.objs.size<=P2.objs.size;rw[hC];exact sj _
     inj:=λy z c h1 h2=>I2.ok.inj y z c (cl1 y c h1) (cl1 z c h2)
     has:=λy hy=>by
      have hy':(y,NameKind.free)∈scope.names:=by
       rcases hy with hy | hy
       ·exact zcM (env:=X.env) hy (.inl rfl) S.nocell
       ·exact zcM (env:=X.env) hy (.inr rfl) S.nocell
      exact cl2 y hy'
     cab:=λy c hf _=>by cases hf
     hd:=λhc'=>I2.ok.hd hc'
     frames:=I2.ok.frames
     stk:=.inl rfl
     exf:=λb hb=>⟨(below b (fpl b hb)).1,λy c e=>(f2 b hb).2.2.2.2.1 y c (cl1 y c e)⟩
     bs:=I2.bs
     bsz:=tM I2.ok.bsz I2.sz
     noex:=λb o e hb=>by
      rcases(f2 b hb).2.2.2.1 with z | z
      ·exact I2.ok.noex b o e z
      ·exact absurd (tN (tN (tG e) I2.ok.bsz) z) (rM _)
     exfs:=λb hb hf=>by
      rcases mem_cons.mp (I2.stkSub b hf)with z | z
      ·exact(f2 b hb).2.1 z
      ·exact(f2 b hb).2.2.1 z
     funs:=I2.stack
     frf:=I2.stkFree }
  have hokD:HOk X.prog X.w (upd H2 s2.heap.objs.size (.lst [])) h₁:=I2.hok.laid old (tD _) ⟨tU _,[],0,.nil,hD⟩
  have I3:Inv (zaQ X N scope cl P2.objs.size s2 H2 fp) [] (List.replicate nk none++caps σ js) (upd H2 s2.heap.objs.size (.lst [])) { s2 with heap:=h₁,toks:=s2.toks+([]:List (Str × Value)).length }:=
   { ok:=yok
     os:=rfl
     bare:=I2.bare
     bf:=Un.laid old (tD _) hDn
     loc:=by
      refine⟨_,hns₁,λi y v e1 e2 e3=>?_⟩
      by_cases ik:i<nk
      ·rw[si (by simpa using ik),qd,if_pos ik]at e2
       cases e2
      ·obtain⟨k,rfl⟩:∃k,i=k+nk:=⟨i-nk,by omega⟩
       have e2':(caps σ js)[k]?=some (some v):=by
        rw[t7 (by simp)]at e2
        simpa using e2
       unfold caps at e2'
       rw[getElem?_map]at e2'
       cases ej:js[k]? with
       | none=>rw[ej]at e2';cases e2'
       | some j=>
         rw[ej]at e2'
         have e4:(σ[j]?).join=some v:=tF e2'
         have e5 : σ[j]?=some (some v):=by
          cases eσ : σ[j]? with
          | none=>rw[eσ]at e4;cases e4
          | some o=>rw[eσ]at e4;exact tS some e4
         obtain⟨n1,n2,n3,n4⟩:=S.cap k j y e1 ej
         obtain⟨mX,_,lX⟩:=I2.loc
         obtain⟨u,ru,lk⟩:=lX j y v n1 e5 n2
         refine⟨u,ru,?_⟩
         rcases lk with⟨lk,_⟩ | ⟨_,c,ec,cell⟩
         ·rw[n3]at lk;cases lk
         ·obtain⟨c',ec'⟩:=cl2 y n4
          have:c'=c:=tF ((cl1 y c' ec').symm.trans ec)
          subst this
          obtain⟨o,ho,hd⟩:=cell
          refine .inr ⟨?_,c',ec',⟨o,old _ _ ho,hd⟩⟩
          have e3':(relabel scope X.env).names.lookup y=some .local\/(relabel scope X.env).names.lookup y=some .cell\/(relabel scope X.env).names.lookup y=some .free:=e3
          rcases e3' with z | z | z
          ·exfalso
           have hm:=sg z
           obtain⟨⟨n,k'⟩,hn,e⟩:=mem_map.mp hm
           dsimp only at e
           by_cases cc:(k'==NameKind.free&&X.env.scope.kind==.function&&X.env.kindOf n==some .cell)=true
           ·rw[if_pos cc]at e
            cases e
           ·rw[if_neg cc]at e
            cases e
            have l1:=S.loc _ hn rfl
            have l2:=sT (env:=X.env) l1
            have f1:=S.free _ n4 rfl
            exact S.apart y l1 n4
          ·exact .inl z
          ·exact .inr z
     cell:=λy c e=>by
      obtain⟨v,o,ho,hd⟩:=I2.cell y c (cl1 y c e)
      exact⟨v,o,old _ _ ho,hd⟩
     free:=by show upd H2 s2.heap.objs.size (.lst []) P2.objs.size=none;rw[zau (Ne.symm hDC)];exact hCn
     freeC:=λy c e=>by
      obtain⟨v,o,ho,hd⟩:=I2.cell y c (cl1 y c e)
      rw[zau (below c (tG ho)).2]
      exact I2.freeC y c (cl1 y c e)
     pin:=λp hp=>by simp at hp
     hok:=hokD
     len:=by show(List.replicate nk none++caps σ js).length=N.length;rw[S.len];simp[caps,Nat.add_comm] }
  have st3:tn 0 h₁:=T.keep 0 _ _ st2 λb _ o e=>old b o e
  have fr3:∀b∈fp,(upd H2 s2.heap.objs.size (.lst [])) b=none:=λb hb=>by
   rw[zau (below b (fpl b hb)).2]
   exact(f2 b hb).1
  have stat:∀{H':Hp},(∀b∈fp,H' b=none)->∀b∈fp,FpOk (zaQ X N scope cl P2.objs.size s2 H2 fp) [] H' b:=λhn b hb=>
   ⟨hn b hb,(below b (fpl b hb)).1,yok.exfs b hb,.inl hb,λy c e=>(f2 b hb).2.2.2.2.1 y c (cl1 y c e),λp hp=>by simp at hp⟩
  have pgn:PG (zaQ X N scope cl P2.objs.size s2 H2 fp) tg g:=hg cl _ s2 H2 fp λi x px e1 e2=>zaH S.nd e1 (.inl (sT (S.own i x e1 e2))) (.inr (sT (S.own i x e1 e2)))
  have loop:∀s₃:Shared,s₃ = { s2 with heap:=h₁,toks:=s2.toks+([]:List (Str × Value)).length }->
    codeAny (model X.prog X.w) X.A (.compLoop (.ListComp elt [⟨tg,iter,ifs,0⟩] scope pos) 0 (.ref it) (.ref s2.heap.objs.size) (compEnvC scope cl P2.objs.size X.env))
     (compPost (model X.prog X.w) X.A X.xe (some (assign (.Name y py) X.env)) (λ_ s'=>SP X ai DD .next s') (.ref s2.heap.objs.size) P2.objs.size) s₃:=by
   rintro s₃ rfl
   refine codeAny_loop rfl (λn s'=>∃i,∃o:St,∃acc H',o.length=nk/\Inv (zaQ X N scope cl P2.objs.size s2 H2 fp) [] (o++caps σ js) H' s'/\tn i s'.heap/\(∀b∈fp,H' b=none)/\W i n acc H') ?_ m0 ⟨0,List.replicate nk none,[],_,qF,I3,st3,fr3,w0⟩
   rintro n s4 ⟨i,o,acc,H4,ol,I4,st4,fr4,w4⟩
   show wpAny _ X.A ((compTurn (.ListComp elt [⟨tg,iter,ifs,0⟩] scope pos) 0 (.ref it) (.ref s2.heap.objs.size) (compEnvC scope cl P2.objs.size X.env)).onRaise (λx=>do noteFrame x (compEnvC scope cl P2.objs.size X.env);theTreesLotGoes x)) _ _ s4
   refine wpAny_noted ?_
   rw[compTurn_list]
   refine tw (rO (tw ?_))
   obtain⟨hD4,hz4,alt⟩:=turn i n acc H4 w4
   rcases alt with⟨stop,qn⟩ | ⟨go,step⟩
   ·refine thn (T.done (zaQ X N scope cl P2.objs.size s2 H2 fp) rfl rfl rfl hc i [] s4 _ H4 _ I4 (stat fr4) st4 stop) λr s5 ⟨hr,I5⟩=>?_
    subst hr
    refine tI ?_
    obtain⟨m5,n5,_⟩:=I5.loc
    have u5:=I5.bf
    have nC:∀b o,s2.heap.get? b=some o->b≠P2.objs.size:=λb o e=>(below b (tG e)).1
    have IX:Inv X ai σ H4 s5:=by
     refine I2.call' (s':=s5) (ch:=fp) I5.os ?_ I5.hok I5.bare λb hb=>⟨(f2 b hb).2.2.2.1,(f2 b hb).2.1,(f2 b hb).2.2.2.2.1,(f2 b hb).2.2.2.2.2⟩
     exact⟨u5.keep,u5.slot,u5.free,u5.there,u5.tups,u5.frzs,u5.tbls⟩
    obtain⟨g0,g1,g2,g3,g4,g5⟩:=I2.fpOk (b:=P2.objs.size) (H':=H4) (by rw[hC];exact sj _) I5.free
    refine pd (zhc IX hN hiN (.inl hyl) (v:=.ref s2.heap.objs.size) rfl (λs6 I6 ⟨aa,sb6,ha⟩=>?_) (.inr hyl))
    have hCa:P2.objs.size≠aa:=by
     rcases ha with rfl | ha
     ·exact g1
     ·exact λz=>g4 _ _ ha z.symm
    refine⟨m5,n5.sameBut sb6 hCa,λh' sb=>⟨_,H4,?_,qn⟩⟩
    exact I6.turned (t':=s6.toks) (λb o hb e=>sb.extBut b o hb e) g0 g1 g3 g4 g5
   ·refine thn (T.item (zaQ X N scope cl P2.objs.size s2 H2 fp) rfl rfl rfl hc i [] s4 _ H4 _ I4 (stat fr4) st4 go) λr s5 ⟨u,hr,h5⟩=>?_
    subst hr
    refine tw (thn h5 λ_ s6 ⟨y,H6,I6,r6,y6,st6,fr6⟩=>?_)
    have I6':=I6.pinned (stat fr6) (T.obj _ _ st6)
    refine tw (so (pgn _ s6 (o++caps σ js) H6 y u _ I6' r6 (step o ol y _ y6)) (λ_ s7 ⟨σ7,H7,I7,o7,l7,e7,q7⟩=>?_) λ_ _ z=>z.elim)
    subst e7
    have back:∀{s9:Shared}{H9:Hp}{acc9:List V}{m9:Nat},Inv (zaQ X N scope cl P2.objs.size s2 H2 fp) ([]++ziE fp s6.heap) (o7++caps σ js) H9 s9->m9<n->W (i+1) m9 acc9 H9->
      ∃m,m<n/\∃i,∃o:St,∃acc H',o.length=nk/\Inv (zaQ X N scope cl P2.objs.size s2 H2 fp) [] (o++caps σ js) H' s9/\tn i s9.heap/\(∀b∈fp,H' b=none)/\W i m acc H':=λ{s9 H9 acc9 m9} I9 hm w9=>by
     refine⟨m9,hm,i+1,o7,acc9,H9,l7,I9.unpinned,T.keep _ _ _ st6 λb hb o e=>(I9.pin (b,o) (tR _ (tR _ (zcq hb e)))).1,λb hb=>?_,w9⟩
     obtain⟨o,e,d⟩:=T.obj _ _ st6 b hb
     exact(I9.pin (b,o) (tR _ (tR _ (zcq hb e)))).2.1
    refine tw (so (ht cl _ s2 H2 fp _ s7 _ _ _ I7 q7) (λok s8 ⟨H8,I8,q8⟩=>?_) λ_ _ z=>z.elim)
    cases ok with
    | false=>
      obtain⟨m9,hm,w9⟩:=q8
      exact tI ⟨rfl,back I8 hm w9⟩
    | true=>
      refine tw (tw (so (he cl _ s2 H2 fp _ s8 _ _ _ I8 q8) (λxv s9 ⟨v9,H9,I9,r9,hD9,q9⟩=>?_) λ_ _ z=>z.elim))
      refine tw (so (zhn (X:=zaQ X N scope cl P2.objs.size s2 H2 fp) _ s9 _ H9 (.ref s2.heap.objs.size) [v9] (.ref s2.heap.objs.size) [xv] (λ_ H'=>H'=upd H9 s2.heap.objs.size (.lst (acc++[v9]))) I9 rfl (.cons r9 .nil) ⟨_,acc,v9,rfl,rfl,hD9,hz4,rfl⟩) (λ_ s10 ⟨v10,H10,I10,_,e10⟩=>?_) λ_ _ z=>z.elim)
      subst e10
      obtain⟨m9,hm,w9⟩:=q9 _ (λb o hb e=>by rw[zau hb];exact e) zan
      exact tI (tI ⟨rfl,back I10 hm w9⟩)
  exact codeAny_compStart_list (loop _ rfl) (T.self _ 0 _ _ _ st3 (loop _ rfl))
section
variable{X:Cx}
def rEqE(K:am):R2:=λx y H Q=>∃a b xs,x=.ref a/\y=.ref b/\SqL K H a xs/\SqL K H b []/\Q (.bl xs.isEmpty) H
theorem zob(hu:X.A.units<cLine):OpR X (compareOp .Eq) (rEqE X.K):=by
 intro ai s σ H x y v u Q I rx ry h
 obtain⟨a,b,xs,rfl,rfl,hx,hy,q⟩:=h
 cases xs with
 | nil=>exact znL hu ai s σ H _ _ v u Q I rx ry ⟨a,b,[],[],rfl,rfl,hx,hy,rfl,rfl,q⟩
 | cons z zs=>
   cases rx
   cases ry
   obtain⟨its,r,pl,hz⟩:=I.list hx
   obtain⟨its2,r2,pl2,hz2⟩:=I.list hy
   have e1:its.toArray.size=zs.length+1:=by simp[<-r.length]
   have e2:its2.toArray.size=0:=by simp[<-r2.length]
   refine SeqAt.eq_list_lengthsAt pl.isList pl2.isList ?_ hu ⟨.bl _,H,I,rfl,q⟩
   rw[e1,e2]
   simp
theorem zqI(hu:X.A.units<cLine):OpR X (compareOp .NotEq) (λx y H Q=>∃a b xs,x=.ref a/\y=.ref b/\SqL X.K H a xs/\SqL X.K H b []/\Q (.bl (!xs.isEmpty)) H):=by
 intro ai s σ H x y v u Q I rx ry h
 obtain⟨a,b,xs,rfl,rfl,hx,hy,q⟩:=h
 cases xs with
 | nil=>exact znR hu ai s σ H _ _ v u Q I rx ry ⟨a,b,[],[],rfl,rfl,hx,hy,rfl,rfl,q⟩
 | cons z zs=>
   cases rx
   cases ry
   obtain⟨its,r,pl,hz⟩:=I.list hx
   obtain⟨its2,r2,pl2,hz2⟩:=I.list hy
   have e1:its.toArray.size=zs.length+1:=by simp[<-r.length]
   have e2:its2.toArray.size=0:=by simp[<-r2.length]
   refine SeqAt.RcNeAt.lists_lengths pl.isList pl2.isList ?_ hu X.prog X.w X.xe _ ⟨.bl _,H,I,rfl,q⟩
   rw[e1,e2]
   simp
end
theorem zmJ{K:am}{a:Addr}{xs:List V}{nk:Nat}{g:TG}{js:List Nat}{tc:TT}{te:TE}{σ:St}{H1:Hp}{Q:VK}(o:Nat->St)(p:Nat->Bool)(f:Nat->V)(hl:SqL K H1 a xs)(ho:∀i,(o i).length=nk)
  (hg:∀i x Hh os (R:St->Hp->Prop),xs[i]?=some x->Same H1 Hh->os.length=nk->R (o i++caps σ js) Hh->g x (os++caps σ js) Hh R)
  (ht:∀i x Hh (Q':Bool->Hp->Prop),xs[i]?=some x->Same H1 Hh->(∀Hh',Same Hh Hh'->Q' (p i) Hh')->tc (o i++caps σ js) Hh Q')
  (he:∀i x Hh (Q':VK),xs[i]?=some x->p i=true->Same H1 Hh->(∀Hh',Same Hh Hh'->Q' (f i) Hh')->te (o i++caps σ js) Hh Q')
  (hz:xs.length<sizeLine) (q:∀D H2,Same H1 H2->H1 D=none->H2 D=some (.lst (((List.range xs.length).filter p).map f))->Q (.ref D) H2):
  aZ (Itl K a) nk g js tc te σ H1 Q:=by
 intro D H2 s2 hD h2
 refine⟨λi m acc H3=>m=xs.length-i/\i<=xs.length/\acc=((List.range i).filter p).map f/\Same H1 H3/\H3 D=some (.lst acc),⟨_,rfl,tU _,by simp,s2,h2⟩,?_⟩
 rintro i m acc H3 ⟨rfl,hi,ea,s3,h3⟩
 have hl3:SqL K H3 a xs:=s3.seq hl
 have hll:acc.length<=xs.length:=by
  rw[ea,tq]
  refine tM (t6 _ _) ?_
  rw[sU]
  exact hi
 refine⟨h3,by omega,?_⟩
 by_cases hlt:i<xs.length
 ·have hx:xs[i]?=some xs[i]:=tm hlt
  refine .inr ⟨⟨xs,_,hl3,hx⟩,λos ol y H4 z=>?_⟩
  obtain⟨e,ey⟩:=z
  have ey2:=ey xs hl3
  subst e
  refine hg i y _ os _ ey2 s3 ol ⟨o i,ho i,rfl,?_⟩
  refine ht i y _ _ ey2 s3 λH5 s5=>?_
  have h5:=s5 _ _ h3
  have s35:=s3.trans s5
  have tk:(List.range (i+1)).filter p=(List.range i).filter p++(if p i=true then[i]else[]):=by
   rw[ph,rA]
   congr 1
   cases h:p i<;>simp[h]
  cases hp:p i with
  | true=>
    refine iteT (he i y _ _ ey2 hp s35 λH6 s6=>⟨s6 _ _ h5,λH7 k7 h7=>⟨xs.length-(i+1),by omega,rfl,hlt,?_,λb o e=>?_,h7⟩⟩)
    ·rw[tk,hp,if_pos rfl,tV,<-ea]
     rfl
    ·by_cases hb:b=D
     ·subst hb
      rw[hD]at e
      cases e
     ·exact k7 b o hb (s6 b o (s35 b o e))
  | false=>
    refine iteF ⟨xs.length-(i+1),by omega,rfl,hlt,?_,s35,h5⟩
    rw[tk,hp,if_neg tE,sM]
    exact ea
 ·have e:i=xs.length:=by omega
  subst e
  refine .inl ⟨⟨xs,hl3,tD _⟩,?_⟩
  rw[ea]at h3
  exact q D _ s3 hD h3
theorem zmK{K:am}{a:Addr}{xs:List V}{nk:Nat}{g:TG}{js:List Nat}{tc:TT}{te:TE}{σ:St}{H1:Hp}{Q:VK}(o:Nat->St)(p:Nat->Bool)(f:Nat->List V)(hl:SqL K H1 a xs)(ho:∀i,(o i).length=nk)
  (hg:∀i x Hh os (R:St->Hp->Prop),xs[i]?=some x->Same H1 Hh->os.length=nk->R (o i++caps σ js) Hh->g x (os++caps σ js) Hh R)
  (ht:∀i x Hh (Q':Bool->Hp->Prop),xs[i]?=some x->Same H1 Hh->(∀Hh',Same Hh Hh'->Q' (p i) Hh')->tc (o i++caps σ js) Hh Q')
  (he:∀i x Hh (Q':VK),xs[i]?=some x->p i=true->Same H1 Hh->(∀b Hh',Same Hh Hh'->Hh' b=some (.tup (f i))->Q' (.ref b) Hh')->te (o i++caps σ js) Hh Q')
  (hz:xs.length<sizeLine) (q:∀D H2 (bs:List (Addr × List V)),Same H1 H2->H1 D=none->H2 D=some (.lst (bs.map λb=>V.ref b.1))->bs.map (·.2)=((List.range xs.length).filter p).map f->(∀b,b∈bs->H2 b.1=some (.tup b.2))->Q (.ref D) H2):
  aZ (Itl K a) nk g js tc te σ H1 Q:=by
 intro D H2 s2 hD h2
 refine⟨λi m acc H3=>m=xs.length-i/\i<=xs.length/\∃bs:List (Addr × List V),acc=(bs.map λb=>V.ref b.1)/\bs.map (·.2)=((List.range i).filter p).map f/\(∀b,b∈bs->H3 b.1=some (.tup b.2))/\Same H1 H3/\H3 D=some (.lst acc),⟨_,rfl,tU _,[],rfl,by simp,λb hb=>by simp at hb,s2,h2⟩,?_⟩
 rintro i m acc H3 ⟨rfl,hi,bs,ea,eb,hb,s3,h3⟩
 have hl3:SqL K H3 a xs:=s3.seq hl
 have hll:acc.length<=xs.length:=by
  have e:=tS List.length eb
  rw[tq,tq]at e
  rw[ea,tq,e]
  refine tM (t6 _ _) ?_
  rw[sU]
  exact hi
 refine⟨h3,by omega,?_⟩
 by_cases hlt:i<xs.length
 ·have hx:xs[i]?=some xs[i]:=tm hlt
  refine .inr ⟨⟨xs,_,hl3,hx⟩,λos ol y H4 z=>?_⟩
  obtain⟨e,ey⟩:=z
  have ey2:=ey xs hl3
  subst e
  refine hg i y _ os _ ey2 s3 ol ⟨o i,ho i,rfl,?_⟩
  refine ht i y _ _ ey2 s3 λH5 s5=>?_
  have h5:=s5 _ _ h3
  have s35:=s3.trans s5
  have tk:(List.range (i+1)).filter p=(List.range i).filter p++(if p i=true then[i]else[]):=by
   rw[ph,rA]
   congr 1
   cases h:p i<;>simp[h]
  cases hp:p i with
  | true=>
    refine iteT (he i y _ _ ey2 hp s35 λb6 H6 s6 g6=>⟨s6 _ _ h5,λH7 k7 h7=>⟨xs.length-(i+1),by omega,rfl,hlt,bs++[(b6,f i)],?_,?_,λb hb'=>?_,λb o e=>?_,h7⟩⟩)
    ·rw[ea,tV]
     rfl
    ·rw[tV,eb,tk,hp,if_pos rfl,tV]
     rfl
    ·have nD:∀c t,H6 c=some (.tup t)->c≠D:=λc t g z=>by
      rw[z,s6 _ _ h5]at g
      cases g
     rcases mem_append.mp hb' with h | h
     ·have g:=s6 _ _ (s5 _ _ (hb b h))
      exact k7 _ _ (nD _ _ g) g
     ·have:b=(b6,f i):=by simpa using h
      subst this
      exact k7 _ _ (nD _ _ g6) g6
    ·by_cases hbD:b=D
     ·subst hbD
      rw[hD]at e
      cases e
     ·exact k7 b o hbD (s6 b o (s35 b o e))
  | false=>
    refine iteF ⟨xs.length-(i+1),by omega,rfl,hlt,bs,ea,?_,λb hb'=>s5 _ _ (hb b hb'),s35,h5⟩
    rw[tk,hp,if_neg tE,sM]
    exact eb
 ·have e:i=xs.length:=by omega
  subst e
  refine .inl ⟨⟨xs,hl3,tD _⟩,?_⟩
  rw[ea]at h3
  exact q D _ bs s3 hD h3 eb hb
def sts{α:Type}(k:Nat)(xs:List α)(g : α->List V)(i:Nat):St:=match xs[i]? with
 | some x=>(g x).map some
 | none=>List.replicate k none
theorem zoc{α:Type}{k:Nat}{xs:List α}{g : α->List V}(h:∀x,(g x).length=k)(i:Nat):(sts k xs g i).length=k:=by
 unfold sts
 cases xs[i]? with
 | none=>exact qF
 | some x=>show((g x).map some).length=k;rw[tq];exact h x
theorem len2{os:St}(h:os.length=2):∃a b,os=[a,b]:=by
 match os,h with
 | [a,b],_=>exact⟨a,b,rfl⟩
section
variable{pg:Program}{wd:World}{Ar:Around}{Rs:Result->Shared->Prop}{It:Addr}{fp wr:List Addr}{n:Nat}{Pv:Nat->Value->Prop}{Sv:Nat->Heap->Prop}
end
section
variable{X:Cx}
end
structure IsPrs(H:Hp)(l:Addr)(rs:List (Addr × Row)):Prop where
 at_:H l=some (.lst (rs.map λr=>V.ref r.1))
 rw:∀r,r∈rs->H r.1=some (.tup [.int r.2.2.1,.int r.2.2.2])
structure IsCh(K:am)(H:Hp)(p:Addr)(x:Cl × Int):Prop where
 ex:∃pc,H p=some (.tup [.ref pc,.int x.2])/\IsCl K H pc x.1
def IsCh.same{K:am}{H H':Hp}{p:Addr}{x:Cl × Int}(s:Same H H')(h:IsCh K H p x):IsCh K H' p x:=let ⟨pc,a,b⟩:=h.ex;⟨pc,s _ _ a,b.same s⟩
def IsCh.but{K:am}{H H':Hp}{p q:Addr}{x:Cl × Int}{xs:List V}(s:But q H H')(hq:H q=some (.lst xs))(h:IsCh K H p x):IsCh K H' p x:=by
 obtain⟨pc,a,b⟩:=h.ex
 exact⟨pc,s _ _ (λz=>by rw[z,hq]at a;cases a) a,b.but s hq⟩
structure IsChs(K:am)(H:Hp)(l:Addr)(xs:List (Addr × Cl × Int)):Prop where
 at_:H l=some (.lst (xs.map λq=>V.ref q.1))
 ch:∀q,q∈xs->IsCh K H q.1 q.2
def IsChs.same{K:am}{H H':Hp}{l:Addr}{xs:List (Addr × Cl × Int)}(s:Same H H')(h:IsChs K H l xs):IsChs K H' l xs:=⟨s _ _ h.at_,λq hq=>(h.ch q hq).same s⟩
def IsChs.but{K:am}{H H':Hp}{l a:Addr}{xs:List (Addr × Cl × Int)}{ys:List V}(s:But a H H')(ha:H a=some (.lst ys))(ne:l≠a)(h:IsChs K H l xs):IsChs K H' l xs:=⟨s _ _ ne h.at_,λq hq=>(h.ch q hq).but s ha⟩
def kcOf(H:Hp)(p:Addr):Addr:=match H p with
 | some (.tup (.ref pc::_))=>pc
 | _=>p
def IsCh.kc{K:am}{H:Hp}{p:Addr}{x:Cl × Int}(h:IsCh K H p x):H p=some (.tup [.ref (kcOf H p),.int x.2])/\IsCl K H (kcOf H p) x.1:=by
 obtain⟨pc,a,b⟩:=h.ex
 have e:kcOf H p=pc:=by
  unfold kcOf
  rw[a]
 rw[e]
 exact⟨a,b⟩
def zpR(ns:List Int)(lo hi:Option Int):∃ms:List Int,cutV (ns.map V.int) lo hi=ms.map V.int:=by
 unfold cutV
 refine⟨(ns.drop (HT.sIx (ns.map V.int).length 0 lo)).take (HT.sIx (ns.map V.int).length (ns.map V.int).length hi-HT.sIx (ns.map V.int).length 0 lo),?_⟩
 rw[map_take,List.map_drop]
structure ChOk(B:Int)(x:Cl × Int):Prop where
 ok:x.1.Ok
 l0:0<=x.2
 l1:x.2<=12
 cm:x.1.came<=B
def rnk(cs:List Cl)(t:Int)(c:Cl):Nat:=(cs.filter λo=>decide (o.n≠c.n)&&ahd o c t).length
structure RkD(cs:List Cl)(t:Int)(h i:Nat)(kvs:List (Key × V)):Prop where
 len:kvs.length=((cs.take i).filter λc=>decide (rnk cs t c<h)).length
 val:∀(k:Nat) c,k<i->cs[k]?=some c->rnk cs t c<h->valV kvs (.inl (rnk cs t c:Int))=some (.int c.n)
 key:∀j:Key,valV kvs j≠none->∃(k:Nat)(c:Cl),k<i/\cs[k]?=some c/\j=.inl (rnk cs t c:Int)
def zbu(ws:List Int)(x:Cl × Int):Int:=if x.1.n∈ws then x.2-1 else x.2
def behL(H:Hp)(ws:List Int)(xs:List (Addr × Cl × Int)):List (Addr × Cl × Int):=(xs.map λk=>(kcOf H k.1,k.2.1,zbu ws k.2)).filter λk=>decide (0<k.2.2)
structure IsBh(H:Hp)(l:Addr)(ys:List (Addr × Cl × Int))(bs:List (Addr × List V)):Prop where
 at_:H l=some (.lst (bs.map λb=>V.ref b.1))
 rw:∀b,b∈bs->H b.1=some (.tup b.2)
 eq:bs.map (·.2)=ys.map λk=>[V.ref k.1,V.int k.2.2]
def IsBh.same{H H':Hp}{l:Addr}{ys:List (Addr × Cl × Int)}{bs:List (Addr × List V)}(s:Same H H')(h:IsBh H l ys bs):IsBh H' l ys bs:=⟨s _ _ h.at_,λb hb=>s _ _ (h.rw b hb),h.eq⟩
def IsBh.len{H:Hp}{l:Addr}{ys:List (Addr × Cl × Int)}{bs:List (Addr × List V)}(h:IsBh H l ys bs):bs.length=ys.length:=by
 have:=tS List.length h.eq
 rw[tq,tq]at this
 exact this
def zipB(bs:List (Addr × List V))(ys:List (Addr × Cl × Int)):List (Addr × Cl × Int):=List.zipWith (λb k=>(b.1,k.2)) bs ys
def IsBh.chs{K:am}{H:Hp}{l:Addr}{ys:List (Addr × Cl × Int)}{bs:List (Addr × List V)}(h:IsBh H l ys bs)(hc:∀k,k∈ys->IsCl K H k.1 k.2.1):
    IsChs K H l (zipB bs ys)/\(zipB bs ys).map (·.2)=ys.map (·.2):=by
 have hl:=h.len
 have e2:(zipB bs ys).map (·.2)=ys.map (·.2):=by
  unfold zipB
  rw[map_zipWith]
  refine rE (by simp[hl]) λi h1 h2=>?_
  simp
 have e1:((zipB bs ys).map λq=>V.ref q.1)=bs.map λb=>V.ref b.1:=by
  unfold zipB
  rw[map_zipWith]
  refine rE (by simp[hl]) λi h1 h2=>?_
  simp
 refine⟨⟨by rw[e1];exact h.at_,λq hq=>?_⟩,e2⟩
 obtain⟨i,hi,ei⟩:=tX hq
 have hi2:i<bs.length/\i<ys.length:=by
  unfold zipB at hi
  rw[List.length_zipWith]at hi
  omega
 have eq:q=(bs[i].1,ys[i].2):=by
  have e3:(zipB bs ys)[i]?=some (bs[i].1,ys[i].2):=by
   unfold zipB
   rw[List.getElem?_zipWith,tm hi2.1,tm hi2.2]
  rw[tm hi,ei]at e3
  exact tF e3
 have eb:bs[i].2=[V.ref ys[i].1,V.int ys[i].2.2]:=by
  have:=tS (λl:List (List V)=>l[i]?) h.eq
  simp[hi2.1,hi2.2]at this
  exact this
 have hb:=h.rw _ (sJ hi2.1)
 rw[eb]at hb
 subst eq
 exact⟨ys[i].1,hb,hc _ (sJ hi2.2)⟩
def zqJ{X:Cx}{K:am}(hK:X.K=K):OpR X (compareOp .In) (rIn K false):=hK▸znF
def Room.units1{k:Nat}{A:Around}(r:Room k A):A.units+1<cLine:=by have:=r.un;omega
def zrR{K:am}{H H':Hp}{p:Addr}{x:Cl × Int}(h:IsCh K H p x)(s:Same H H'):kcOf H' p=kcOf H p:=by
 obtain⟨pc,a,_⟩:=h.ex
 unfold kcOf
 rw[a,s _ _ a]
def eQ{K:am}{H H':Hp}{l:Addr}{xs:List (Addr × Cl × Int)}(h:IsChs K H l xs)(s:Same H H')(ws:List Int):behL H' ws xs=behL H ws xs:=by
 unfold behL
 congr 1
 exact rV λk hk=>by rw[zrR (h.ch k hk) s]
def zew(t:Int)(k:Addr × Cl × Int):Bool:=decide (0<k.2.2)&&decide (k.2.1.came<=t)
def zdd(H:Hp)(t:Int)(xs:List (Addr × Cl × Int)):List (Addr × Cl):=(xs.filter (zew t)).map λk=>(kcOf H k.1,k.2.1)
def csOf(t:Int)(xs:List (Addr × Cl × Int)):List Cl:=(xs.filter (zew t)).map (·.2.1)
def zfe(H:Hp)(t:Int)(xs:List (Addr × Cl × Int)):(zdd H t xs).map (·.2)=csOf t xs:=by
 unfold zdd csOf
 rw[tW]
 rfl
def zcV(t:Int)(h:Nat)(xs:List (Addr × Cl × Int)):List Int:=((ord (csOf t xs) t).map (·.n)).take h
def zod{t:Int}{xs:List (Addr × Cl × Int)}(ok:∀q,q∈xs->q.2.1.Ok)(nd:(xs.map (·.2.1.n)).Nodup):Good (csOf t xs):=by
 refine⟨λc hc=>?_,?_⟩
 ·obtain⟨k,hk,rfl⟩:=mem_map.mp hc
  exact ok k (mem_filter.mp hk).1
 ·unfold csOf
  rw[tW]
  exact nd.sublist (List.Sublist.map _ filter_sublist)
def ziQ(H:Hp)(t:Int)(xs:List (Addr × Cl × Int)):(zdd H t xs).length<=xs.length:=by
 unfold zdd
 rw[tq]
 exact t6 _ _
def eR{K:am}{H:Hp}{l:Addr}{xs:List (Addr × Cl × Int)}(h:IsChs K H l xs)(t:Int){q:Addr × Cl}(hq:q∈zdd H t xs):IsCl K H q.1 q.2:=by
 obtain⟨k,hk,rfl⟩:=mem_map.mp hq
 exact(h.ch k (mem_filter.mp hk).1).kc.2
def zhA(H:Hp)(t:Int)(xs:List (Addr × Cl × Int)):(zdd H t xs).map (λq=>V.ref q.1)=(xs.filter (zew t)).map λk=>V.ref (kcOf H k.1):=by
 unfold zdd
 rw[tW]
 rfl
def eS{H:Hp}{ws:List Int}{xs:List (Addr × Cl × Int)}{k:Addr × Cl × Int}(h:k∈behL H ws xs):∃q,q∈xs/\k=(kcOf H q.1,q.2.1,zbu ws q.2)/\0<zbu ws q.2:=by
 obtain⟨h1,h2⟩:=mem_filter.mp h
 obtain⟨q,hq,rfl⟩:=mem_map.mp h1
 exact⟨q,hq,rfl,t4 h2⟩
def zrS{H:Hp}{ws:List Int}{xs:List (Addr × Cl × Int)}(nd:(xs.map (·.2.1.n)).Nodup):((behL H ws xs).map (·.2.1.n)).Nodup:=by
 have e:((xs.map λk=>(kcOf H k.1,k.2.1,zbu ws k.2)).map (·.2.1.n))=xs.map (·.2.1.n):=by
  rw[tW]
  rfl
 rw[<-e]at nd
 exact nd.sublist (List.Sublist.map _ filter_sublist)
def zpS(H:Hp)(ws:List Int)(xs:List (Addr × Cl × Int)):(behL H ws xs).length<=xs.length:=by
 have:=t6 (λk:Addr × Cl × Int=>decide (0<k.2.2)) (xs.map λk=>(kcOf H k.1,k.2.1,zbu ws k.2))
 rw[tq]at this
 exact this
def plV:List V->Bool
 | [_,.int i]=>decide (0<i)
 | _=>false
def ztc{H:Hp}{ws:List Int}{xs:List (Addr × Cl × Int)}{bs:List (Addr × List V)}(eb:bs.map (·.2)=xs.map λk=>[V.ref (kcOf H k.1),V.int (zbu ws k.2)]):
    (bs.filter λb=>plV b.2).map (·.2)=(behL H ws xs).map λk=>[V.ref k.1,V.int k.2.2]:=by
 have e:(bs.filter λb=>plV b.2).map (·.2)=(bs.map (·.2)).filter plV:=by
  rw[sP]
  rfl
 rw[e,eb,sP]
 unfold behL
 rw[sP,tW]
 rfl
def zcN{α:Type}(xs:List α):(xs.filter λ_=>true)=xs:=filter_eq_self.mpr λ_ _=>rfl
def zuj(K:am):R2:=λx y H Q=>∃l b xs zs,x=.ref l/\y=.ref b/\SqL K H l xs/\SqL K H b zs/\xs.length+zs.length<=sizeLine/\∀p H2,Same H H2->H p=none->H2 p=some (.lst (xs++zs))->Q (.ref p) H2
def bj{X:Cx}:OpR X (binaryOp .Add) (zuj X.K):=by
 intro ai s σ H x y v u Q I rx ry h
 obtain⟨l,b,xs,zs,rfl,rfl,hx,hy,hz,q⟩:=h
 cases rx
 cases ry
 obtain⟨its,r,p1,z1⟩:=I.list hx
 obtain⟨jts,r2,p2,z2⟩:=I.list hy
 obtain⟨⟨c1,d1,t1,f1⟩,g1,e1,n1,k1⟩:=p1.isList
 obtain⟨⟨c2,d2,t2,f2⟩,g2,e2,n2,k2⟩:=p2.isList
 simp only at e1 k1 e2 k2
 subst e1 k1 e2 k2
 have ea:its.toArray++jts.toArray=(its++jts).toArray:=by simp
 have l1:=r.length
 have l2:=r2.length
 refine concat_meets ⟨_,g1,rfl⟩ ⟨_,g2,rfl⟩ noFill_list_add seq_list_add F.slot_list_add F.entry_list_add (F.args_list_add_2 _ _) (list_addW l b its.toArray jts.toArray n1 n2 d1 d2 f1 f2 (by rw[size_toArray,size_toArray];omega)) ⟨g1,g2,?_⟩
 rw[ea]
 exact⟨.ref _,_,I.lnew (t':=s.toks) (r.append r2) (by rw[tQ];omega),rfl,q _ _ (zbq I.fresh _) I.fresh zan⟩
structure FunD(K:am)(x qual:Str)(st:Stmt)(f:Addr)(fd:FuncData):Prop where
 ex:∃(oc:Value)(od:aj)(T:Addr)(kV doc pm:Value)(an:aj)(cdv ct:Value)(osl:ap)(o:Obj)(n:Nat),
  fd=W.fnOf x qual (zat st) (zam st) (zac st) (.ref T) kV doc pm an cdv ct/\K.lookup f=some ⟨oc,od,.func fd,osl⟩/\W.codeIn K cdv qual=true/\K.lookup T=some o/\o.data=.seq #[.none] n
 kp:W.keepIn K (.ref f)=true
def zrT{K:am}{x qual:Str}{st:Stmt}{f T:Addr}{oc:Value}{od an:aj}{osl:ap}{kV doc pm cdv ct:Value}{o:Obj}{n:Nat}
    (l:K.lookup f=some ⟨oc,od,.func (W.fnOf x qual (zat st) (zam st) (zac st) (.ref T) kV doc pm an cdv ct),osl⟩) (c:W.codeIn K cdv qual=true) (k:W.keepIn K (.ref f)=true)
    (t:K.lookup T=some o) (d:o.data=.seq #[.none] n):FunD K x qual st f (W.fnOf x qual (zat st) (zam st) (zac st) (.ref T) kV doc pm an cdv ct):=⟨⟨oc,od,T,kV,doc,pm,an,cdv,ct,osl,o,n,rfl,l,c,t,d⟩,k⟩
def FunD.ok{P:Program}{w:World}{K:am}{mg:af}{bf:Heap}{x qual:Str}{st:Stmt}{f:Addr}{fd:FuncData}{N ps:List Str}{k:Nat}{sp:Sp}(F:FunD K x qual st f fd)(S:FnScope N ps (zac st))(len:∀vs H Q E,sp vs H Q E->vs.length=ps.length)
    (hbody:∀(cdv:Value)(A:Around)(outer:List Env)(s:Shared)(H:Hp)(vs:List V)(Q:VK)(E:XK),Room k (A.deeper (envOfC qual (zac st) s.heap.objs.size f cdv))->sp vs H Q E->
      ∃t,PSs (cxOf CX0 P w K mg bf N qual (zac st) f cdv A outer s H E).nox (zam st) t/\t { nx:=λ_ H'=>Q .non H',rt:=Q } (zgP N vs) H):FnOk P w K mg bf CX0 (k+1) f fd ps sp:=by
 obtain⟨oc,od,T,kV,doc,pm,an,cdv,ct,osl,o,n,rfl,lk,hcd,_,_⟩:=F.ex
 refine zny lk hcd S len λA outer s H vs Q E hr hsp=>?_
 obtain⟨t,h,q⟩:=hbody cdv A outer s H vs Q E hr hsp
 exact⟨t,h.nox,q⟩
def FunD.binds{K:am}{x qual:Str}{st:Stmt}{f:Addr}{fd:FuncData}{ps:List Str}(F:FunD K x qual st f fd)
    (h:∀(dV kV doc pm:Value)(an:aj)(cdv ct:Value)(us:ah),us.length=ps.length->∃k:Option (Array Value)->Sem (List (Str × Value)),bindArgs (W.fnOf x qual (zat st) (zam st) (zac st) dV kV doc pm an cdv ct) ⟨us,[]⟩=(seqItems? dV >>= k)/\k (some #[.none])=pure (ps.zip us)):zbp K fd ps []:=by
 obtain⟨oc,od,T,kV,doc,pm,an,cdv,ct,osl,o,n,rfl,lk,hcd,t,d⟩:=F.ex
 intro s us KX hl
 obtain⟨k,k1,k2⟩:=h (.ref T) kV doc pm an cdv ct us (by simpa using hl)
 exact rB (T:=T) (o:=o) (items := #[.none]) (n:=n) (k:=k) rfl (KX T o t) d k1 (by rw[k2,sM])
def FunD.bindsD{K:am}{x qual:Str}{st:Stmt}{f:Addr}{fd:FuncData}{ps:List Str}(F:FunD K x qual st f fd)
    (h:∀(dV kV doc pm:Value)(an:aj)(cdv ct:Value)(us:ah),(us++[Value.none]).length=ps.length->∃k:Option (Array Value)->Sem (List (Str × Value)),bindArgs (W.fnOf x qual (zat st) (zam st) (zac st) dV kV doc pm an cdv ct) ⟨us,[]⟩=(seqItems? dV >>= k)/\k (some #[.none])=pure (ps.zip (us++[.none]))):zbp K fd ps [.none]:=by
 obtain⟨oc,od,T,kV,doc,pm,an,cdv,ct,osl,o,n,rfl,lk,hcd,t,d⟩:=F.ex
 intro s us KX hl
 obtain⟨k,k1,k2⟩:=h (.ref T) kV doc pm an cdv ct us hl
 exact rB (T:=T) (o:=o) (items := #[.none]) (n:=n) (k:=k) rfl (KX T o t) d k1 k2
structure DfnD(K:am)(mg:af)(x:Str)(st:Stmt)(ps:List Str)(f:Addr)(fd:FuncData):Prop where
 F:FunD K x x st f fd
 b:zbp K fd ps []
 bd:zbp K fd ps [.none]
 m:mg x=some (.ref f)
structure CalD(P:Program)(w:World)(K:am)(mg:af)(bf:Heap)(x:Str)(k:Nat)(ps:List Str)(sp:Sp):Prop where
 ex:∃f fd,FnOk P w K mg bf CX0 k f fd ps sp/\zbp K fd ps []/\zbp K fd ps [.none]/\mg x=some (.ref f)/\W.keepIn K (.ref f)=true
def DfnD.cal{P:Program}{w:World}{K:am}{mg:af}{bf:Heap}{x:Str}{st:Stmt}{ps:List Str}{f:Addr}{fd:FuncData}{k:Nat}{sp:Sp}
    (D:DfnD K mg x st ps f fd) (G:FnOk P w K mg bf CX0 k f fd ps sp):CalD P w K mg bf x k ps sp:=⟨⟨f,fd,G,D.b,D.bd,D.m,D.F.kp⟩⟩
section
variable{X:Cx}{k:Nat}{ps:List Str}{sp:Sp}{x:Str}{p pos:Pos}{e:Expr}{es:List Expr}{t:TA}
def bF(C:CalD X.prog X.w X.K X.mg X.bf x k ps sp)(hr:Room k X.A)(hg:Gl X x)(ha:PA X (e::es) t)(hdb:(x==("__debug__" : Str))=false:=by decide)
    (he:starEach (e::es) X.env=(false,eval e X.env)::starEach es X.env:=by rfl) (hpl:(backTo pos (starEach es X.env)).any (·.1)=false:=by rfl):
    PE X (.Call (.Name x p) (e::es) [] pos) (zrx sp [.non] E0 t):=by
 obtain⟨f,fd,G,_,b,m,kp⟩:=C.ex
 exact znw G hr hg m kp b (.cons rfl .nil) zaD ha hdb he hpl
end
abbrev Ch:=List (Cl × Int)
def csC(t:Int)(c:Ch):List Cl:=(c.filter λk=>decide (0<k.2)&&decide (k.1.came<=t)).map (·.1)
def wkC(t:Int)(h:Nat)(c:Ch):List Int:=((ord (csC t c) t).map (·.n)).take h
def bhC(ws:List Int)(c:Ch):Ch:=(c.map λk=>(k.1,zbu ws k)).filter λk=>decide (0<k.2)
def ztd(t:Int)(xs:List (Addr × Cl × Int)):csOf t xs=csC t (xs.map (·.2)):=by
 unfold csOf csC
 rw[sP,tW]
 rfl
def zoe(t:Int)(h:Nat)(xs:List (Addr × Cl × Int)):zcV t h xs=wkC t h (xs.map (·.2)):=by
 unfold zcV wkC
 rw[ztd]
def zte(H:Hp)(ws:List Int)(xs:List (Addr × Cl × Int)):(behL H ws xs).map (·.2)=bhC ws (xs.map (·.2)):=by
 unfold behL bhC
 rw[sP,sP,tW,sP,tW]
 rfl
def runN(h:Nat):Nat->Int->Ch->List (Int × List Int) × Ch
 | 0,_,c=>([],c)
 | n+1,t,c=>let r:=runN h n t c;(r.1++[(t+n,wkC (t+n) h r.2)],bhC (wkC (t+n) h r.2) r.2)
def sumC(c:Ch):Nat:=(c.map λk=>k.2.toNat).sum
def zhB{ws:List Int}{c:Ch}{k:Cl × Int}(h:k∈bhC ws c):0<k.2:=t4 (mem_filter.mp h).2
theorem zof(ws:List Int):∀c:Ch,sumC (bhC ws c)<=sumC c
 | []=>tD _
 | k::c=>by
   have ih:=zof ws c
   have e:bhC ws (k::c)=(if decide (0<zbu ws k)=true then[(k.1,zbu ws k)]else[])++bhC ws c:=by
    unfold bhC
    rw[sf,sQ]
    split<;>rfl
   rw[e]
   have le:zbu ws k<=k.2:=by
    unfold zbu
    split<;>omega
   unfold sumC at *
   split
   ·simp
    omega
   ·simp
    omega
theorem zqK{ws:List Int}:∀{c:Ch}{k:Cl × Int},k∈c->0<k.2->k.1.n∈ws->sumC (bhC ws c)<sumC c
 | [],_,hk,_,_=>absurd hk not_mem_nil
 | j::c,k,hk,pos,hw=>by
   have ih:=zof ws c
   have e:bhC ws (j::c)=(if decide (0<zbu ws j)=true then[(j.1,zbu ws j)]else[])++bhC ws c:=by
    unfold bhC
    rw[sf,sQ]
    split<;>rfl
   rw[e]
   have le:zbu ws j<=j.2:=by
    unfold zbu
    split<;>omega
   rcases mem_cons.mp hk with rfl | hk
   ·have lt:zbu ws k=k.2-1:=by
     unfold zbu
     rw[if_pos hw]
    unfold sumC at *
    split
    ·simp
     omega
    ·simp
     omega
   ·have ih2:=zqK hk pos hw
    unfold sumC at *
    split
    ·simp
     omega
    ·simp
     omega
def zpT{t:Int}{h:Nat}{c:Ch}(h0:0<h)(hc:c≠[])(pos:∀k,k∈c->0<k.2)(cm:∀k,k∈c->k.1.came<=1000):sumC (bhC (wkC t h c) c)+(1001-(t+1)).toNat<sumC c+(1001-t).toNat:=by
 by_cases e:csC t c=[]
 ·
  have late:t<1000:=by
   cases c with
   | nil=>exact(hc rfl).elim
   | cons k c=>
     have:k∉(k::c).filter λk=>decide (0<k.2)&&decide (k.1.came<=t):=λz=>by
      have:k.1∈csC t (k::c):=mem_map.mpr ⟨k,z,rfl⟩
      rw[e]at this
      cases this
     have p:=pos k tP
     have q:=cm k tP
     refine Int.not_le.mp λz=>this (mem_filter.mpr ⟨tP,?_⟩)
     rw[decide_eq_true p,decide_eq_true (show k.1.came<=t by omega)]
     rfl
  have:=zof (wkC t h c) c
  omega
 ·have lo:(ord (csC t c) t).length=(csC t c).length:=(zeh _ _).length_eq
  have lp:0<(csC t c).length:=List.length_pos_iff.mpr e
  obtain⟨x,xs,eo⟩:=List.exists_cons_of_ne_nil (show ord (csC t c) t≠[]from λz=>by rw[z]at lo;simp at lo;omega)
  have hm:x.n∈wkC t h c:=by
   unfold wkC
   rw[eo]
   cases h with
   | zero=>omega
   | succ h=>simp
  have mem:x∈csC t c:=(zeh (csC t c) t).mem_iff.mp (by rw[eo];exact tP)
  obtain⟨k,hk,ek⟩:=mem_map.mp mem
  rw[<-ek]at hm
  have hk:=(mem_filter.mp hk).1
  have:=zqK (ws:=wkC t h c) hk (pos k hk) hm
  omega
def bH(c:Ch):bhC [] c=c.filter λk=>decide (0<k.2):=by
 unfold bhC
 have e:(c.map λk=>(k.1,zbu [] k))=c:=by
  have:∀k:Cl × Int,(k.1,zbu [] k)=k:=λk=>by
   unfold zbu
   rw[if_neg (by simp)]
  rw[show(λk:Cl × Int=>(k.1,zbu [] k))=id from funext this,List.map_id]
 rw[e]
def zbA(h n:Nat)(t:Int)(c:Ch):runN h (n+1) t c=((runN h n t c).1++[(t+n,wkC (t+n) h (runN h n t c).2)],bhC (wkC (t+n) h (runN h n t c).2) (runN h n t c).2):=rfl
theorem zfL(h:Nat)(t:Int)(c:Ch):∀n,(runN h n t c).1.length=n
 | 0=>rfl
 | n+1=>by
   rw[zbA,tQ,zfL h t c n]
   rfl
def zpU{h:Nat}{t:Int}{c:Ch}{n m:Nat}(e1:(runN h n t c).2=[])(l1:∀k,k<n->(runN h k t c).2≠[])(e2:(runN h m t c).2=[])(l2:∀k,k<m->(runN h k t c).2≠[]):n=m:=by
 rcases Nat.lt_trichotomy n m with z | z | z
 ·exact(l2 n z e1).elim
 ·exact z
 ·exact(l1 m z e2).elim
structure IsRun(H:Hp)(l:Addr)(rs:List (Addr × Addr × Int × List Int)):Prop where
 at_:H l=some (.lst (rs.map λr=>V.ref r.1))
 row:∀r,r∈rs->H r.1=some (.tup [.int r.2.2.1,.ref r.2.1])
 num:∀r,r∈rs->H r.2.1=some (.lst (r.2.2.2.map V.int))
def IsRun.same{H H':Hp}{l:Addr}{rs:List (Addr × Addr × Int × List Int)}(s:Same H H')(h:IsRun H l rs):IsRun H' l rs:=⟨s _ _ h.at_,λr hr=>s _ _ (h.row r hr),λr hr=>s _ _ (h.num r hr)⟩
def IsRun.app{H H':Hp}{l p m:Addr}{rs:List (Addr × Addr × Int × List Int)}{t:Int}{ws:List Int}(h:IsRun H l rs)(k:But l H H')(e:H' l=some (.lst ((rs.map λr=>V.ref r.1)++[.ref p])))(hp:H p=some (.tup [.int t,.ref m]))(hm:H m=some (.lst (ws.map V.int)))
    (ne:m≠l) (nl:∀r,r∈rs->r.2.1≠l):IsRun H' l (rs++[(p,m,t,ws)]):=by
 have np:∀q ys,H q=some (.tup ys)->q≠l:=λq ys g z=>by
  rw[z,h.at_]at g
  cases g
 refine⟨by rw[e,tV];rfl,λr hr=>?_,λr hr=>?_⟩
 ·rcases mem_append.mp hr with hr | hr
  ·exact k _ _ (np _ _ (h.row r hr)) (h.row r hr)
  ·rw[mem_singleton.mp hr]
   exact k _ _ (np _ _ hp) hp
 ·rcases mem_append.mp hr with hr | hr
  ·exact k _ _ (nl r hr) (h.num r hr)
  ·rw[mem_singleton.mp hr]
   exact k _ _ ne hm
def Itd(a:Addr)(o:Obj)(kvs:List (Key × V)):It:=
 ⟨λi H=>H a=some (.frz o (.dK kvs))/\i<kvs.length,λi H x H'=>H'=H/\∃kv,kvs[i]?=some kv/\x=kV kv.1,λi H=>H a=some (.frz o (.dK kvs))/\kvs.length<=i⟩
theorem zog{P:Program}{w:World}{k:Key}{u:Value}(h:(zaG P w).is k u=true):RelV (kV k) u:=by
 rw[ziA]at h
 cases k with
 | inl i=>
   cases u<;>first
    | (exact absurd h tE)
    | (have h:(_==_)=true:=h;rw[beq_iff_eq]at h;subst h;exact⟨_,rfl⟩)
 | inr x=>
   cases u<;>first
    | (exact absurd h tE)
    | (have h:(_==_)=true:=h;rw[beq_iff_eq]at h;subst h;exact⟨_,rfl⟩)
def zqL{P:Program}{w:World}{H:Hp}{h:Heap}{a:Addr}{o:Obj}{kvs:List (Key × V)}{es:Array DictEntry}{ep:Nat}(ok:HOk P w H h)(e:H a=some (.frz o (.dK kvs)))(d:o.data=.dict es ep):
    ∃vs,KV kvs vs/\h.DictAt (zaG P w) a vs ep:=by
 obtain⟨ho,_,_,vs,rel,ob,es',ep',h1,h2,h3,h4⟩:=(show h.get? a=some o/\zbw P w H h a (.dK kvs)from ok a _ e)
 rw[ho]at h1
 cases h1
 rw[d]at h3
 cases h3
 exact⟨vs,rel,o,es,ho,h2,d,h4⟩
def zoh{P:Program}{w:World}{K:am}{tg:Expr}(a it:Addr)(o:Obj)(kvs:List (Key × V)){es:Array DictEntry}{ep:Nat}(d:o.data=.dict es ep):
    Turn P w K tg (Itd a o kvs) [it] it (λi h=>h.IsKeyIter it a i kvs.length ep) where
 mem:=by simp
 obj:=λi h st b hb=>by
  have e:b=it:=by simpa using hb
  subst e
  obtain⟨o,e,c,d⟩:=st
  exact⟨o,e,λv z=>by rw[d]at z;cases z⟩
 keep:=λi h h' st k=>st.at λo e=>k it (by simp) o e
 item:=by
  intro X hP hw hK hc i ai s σ H E I hf st hg
  subst hP hw hK
  obtain⟨hq,hi⟩:=hg
  obtain⟨vs,rel,dd⟩:=zqL I.hok hq d
  obtain⟨f0,f1,f2,f3,f4,f5⟩:=hf it (by simp)
  have lv:=rel.length
  obtain⟨⟨k,x⟩,hx⟩:∃p,vs[i]?=some p:=⟨vs[i]'(by omega),tm (by omega)⟩
  obtain⟨⟨k',x'⟩,hx'⟩:∃p,kvs[i]?=some p:=⟨kvs[i]'hi,tm hi⟩
  have ek:k'=k:=by
   have:=tS (·[i]?) rel.keys
   simp only[getElem?_map,hx,hx',Option.map_some]at this
   exact tF this
  subst ek
  rw[lv]at st
  refine wpAny_pyNext_dict_item st dd hx λkey h' hkey st' sb=>?_
  have I1:Inv X ai σ H { s with heap:=h' }:=I.turned (t':=s.toks) (λb o hb e=>(sb.2 b hb).trans e) f0 f1 f3 f4 f5
  obtain⟨o',e,c,d'⟩:=id st'
  rw[<-lv]at st'
  exact⟨key,rfl,zmx (s := { s with heap:=h' }) e c d' (by decide) ⟨kV k',H,I1,zog hkey,⟨rfl,_,hx',rfl⟩,st',λb hb=>(hf b hb).1⟩⟩
 done:=by
  intro X hP hw hK hc i ai s σ H E I hf st hg
  subst hP hw hK
  obtain⟨hq,hi⟩:=hg
  obtain⟨vs,rel,dd⟩:=zqL I.hok hq d
  obtain⟨f0,f1,f2,f3,f4,f5⟩:=hf it (by simp)
  have lv:=rel.length
  rw[lv]at st
  exact wpAny_pyNext_dict_end (I.ok.hd hc) st dd (sZ (by omega)) λh' eb=>⟨rfl,I.turned (t':=s.toks) (λb o hb e=>eb b o hb e) f0 f1 f3 f4 f5⟩
 self:=λ_ _ _ _ _ st h=>wpAny_pyIter_keyiter st h
section
variable{X:Cx}{tg:Expr}
def zuk(tl:TE):TI:=λσ H R=>tl σ H λx H1=>∃a kvs,x=.ref a/\Rd H1 a (.dK kvs)/\∀o H2,But a H1 H2->H2 a=some (.frz o (.dK kvs))->R (Itd a o kvs) H2
def zja{l:Expr}{tl:TE}(hl:PE X l tl):PI X tg l (zuk tl):=by
 with_unfolding_all
  intro ai s σ H R I h
  refine thn (hl ai s σ H _ I h) λv s1 ⟨x,H1,I1,r1,q1⟩=>?_
  obtain⟨a,kvs,e,hq,q⟩:=q1
  subst e
  cases r1
  obtain⟨z,y,vs,rel,o,es,ep,ho,oc,od,r⟩:=zgQ I1.hok hq
  have lv:=rel.length
  refine wpAny_pyIter_dict y (show s1.heap.DictAt (zaG X.prog X.w) a vs ep from⟨o,es,ho,oc,od,r⟩) ?_
  have I2:∃H2,But a H1 H2/\H2 a=some (.frz o (.dK kvs))/\Inv X ai σ H2 s1:=by
   rcases hq with hq | ⟨o',hq⟩
   ·exact⟨_,λb u hb e=>by rw[zau hb];exact e,zan,I1.write (x:=a) (e:=a) (o:=.frz o (.dK kvs)) (h':=s1.heap) (t':=s1.toks) (by rw[hq];trivial) (.inl rfl) (λ_ _ _ q=>q) ⟨o,ho⟩ ⟨ho,z,y,vs,rel,o,es,ep,ho,oc,od,r⟩⟩
   ·obtain⟨ho',_⟩:=(show s1.heap.get? a=some o'/\_ from I1.hok a _ hq)
    rw[ho]at ho'
    cases ho'
    exact⟨H1,λ_ _ _ e=>e,hq,I1⟩
  obtain⟨H2,k2,h2,I2⟩:=I2
  refine⟨s1.heap.objs.size,[s1.heap.objs.size],_,_,H2,rfl,I2.kept (t':=s1.toks) λb o e=>tu _ e,zoh a _ o kvs od,?_,λb hb=>?_,q o H2 k2 h2⟩
  ·show Heap.IsKeyIter _ _ _ _ _ _
   rw[lv]
   exact⟨_,tH _ rfl,rfl,rfl⟩
  ·have e:b=s1.heap.objs.size:=by simpa using hb
   subst e
   exact I2.fpOk (tD _) (I2.hok.fresh (tD _))
end
theorem zhC{a:Addr}{ob:Obj}{kvs:List (Key × V)}{js:List Nat}{tc:TT}{te:TE}{σ:St}{H1:Hp}{Q:VK}(p:Nat->Bool)(f:Nat->V)(hl:H1 a=some (.frz ob (.dK kvs)))
  (ht:∀i kv Hh (Q':Bool->Hp->Prop),kvs[i]?=some kv->Same H1 Hh->(∀Hh',Same Hh Hh'->Q' (p i) Hh')->tc (some (kV kv.1)::caps σ js) Hh Q')
  (he:∀i kv Hh (Q':VK),kvs[i]?=some kv->p i=true->Same H1 Hh->(∀Hh',Same Hh Hh'->Q' (f i) Hh')->te (some (kV kv.1)::caps σ js) Hh Q')
  (hz:kvs.length<sizeLine) (q:∀D H2,Same H1 H2->H1 D=none->H2 D=some (.lst (((List.range kvs.length).filter p).map f))->Q (.ref D) H2):
  zep (Itd a ob kvs) js tc te σ H1 Q:=by
 intro D H2 s2 hD h2
 refine⟨λi m acc H3=>m=kvs.length-i/\i<=kvs.length/\acc=((List.range i).filter p).map f/\Same H1 H3/\H3 D=some (.lst acc),⟨_,rfl,tU _,by simp,s2,h2⟩,?_⟩
 rintro i m acc H3 ⟨rfl,hi,ea,s3,h3⟩
 have hl3:=s3 _ _ hl
 have hll:acc.length<=kvs.length:=by
  rw[ea,tq]
  refine tM (t6 _ _) ?_
  rw[sU]
  exact hi
 refine⟨h3,by omega,?_⟩
 by_cases hlt:i<kvs.length
 ·refine .inr ⟨⟨hl3,hlt⟩,λy H4 z=>?_⟩
  obtain⟨e,kv,ey2,rfl⟩:=z
  subst e
  refine ht i kv _ _ ey2 s3 λH5 s5=>?_
  have h5:=s5 _ _ h3
  have s35:=s3.trans s5
  have tk:(List.range (i+1)).filter p=(List.range i).filter p++(if p i=true then[i]else[]):=by
   rw[ph,rA]
   congr 1
   cases h:p i<;>simp[h]
  cases hp:p i with
  | true=>
    refine iteT (he i kv _ _ ey2 hp s35 λH6 s6=>⟨s6 _ _ h5,λH7 k7 h7=>⟨kvs.length-(i+1),by omega,rfl,hlt,?_,λb o e=>?_,h7⟩⟩)
    ·rw[tk,hp,if_pos rfl,tV,<-ea]
     rfl
    ·by_cases hb:b=D
     ·subst hb
      rw[hD]at e
      cases e
     ·exact k7 b o hb (s6 b o (s35 b o e))
  | false=>
    refine iteF ⟨kvs.length-(i+1),by omega,rfl,hlt,?_,s35,h5⟩
    rw[tk,hp,if_neg tE,sM]
    exact ea
 ·have e:i=kvs.length:=by omega
  subst e
  refine .inl ⟨⟨hl3,tD _⟩,?_⟩
  rw[ea]at h3
  exact q D _ s3 hD h3
section
variable{X:Cx}
def rInD:R2:=λx y H Q=>∃(a:Addr)(o:Option V),y=.ref a/\DGet H a x o/\Q (.bl o.isSome) H
def ztf(hu:X.A.units+1<cLine):OpR X (compareOp .In) rInD:=by
 intro ai s σ H x y v u Q I rx ry h
 obtain⟨a,o,rfl,g,q⟩:=h
 cases ry
 exact d_in hu I g rx λs' I'=>⟨.bl _,H,I',rfl,q⟩
theorem zoi{its:ah}{ns:List Int}(h:IntsAre its ns):Vals (ns.map V.int) its:=by
 induction h with
 | nil=>exact .nil
 | cons n t h ih=>exact .cons ⟨t,rfl⟩ ih
def ztg(K:am):List V->Hp->VK->Prop:=λvs H Q=>∃(l:Addr)(ns:List Int),vs=[.ref l]/\SqL K H l (ns.map V.int)/\ns.length<64/\
 ∀D H' (ms:List Int),Same H H'->H D=none->H' D=some (.lst (ms.map V.int))->ms.Perm ns->ms.Pairwise (· <= ·)->Q (.ref D) H'
def zmL:zda X (.builtin "sorted") (ztg X.K):=by
 intro ai s σ H xs us Q I r h
 obtain⟨a,ns,rfl,hq,h64,q⟩:=h
 obtain⟨u,rfl,r1⟩:=zdR r
 cases(show u=Value.ref a from r1)
 obtain⟨its,rv,p,hz⟩:=I.list hq
 have hi:IntsAre its ns:=ziK rv
 have hl:its.length=ns.length:=by
  have:=rv.length
  rw[tq]at this
  exact this.symm
 refine sorted_ints p.isList hi (by omega) λout ms a1 a2 a3=>?_
 obtain⟨e,he⟩:=sortedAll_at s.heap its out
 have hn:H (s.heap.objs.size+1)=none:=I.hok.fresh (sj _)
 have ml:ms.length<64:=by rw[a2.length_eq];exact h64
 have sl:(100:Nat)<=sizeLine:=by decide
 refine⟨.ref _,upd H (s.heap.objs.size+1) (.lst (ms.map V.int)),I.laid (t':=s.toks) (λb o e=>sortedAll_old e) (sj _) ⟨by rw[tq];omega,out.toList,e,zoi a1,by rw[he]⟩,rfl,q _ _ ms (λb u g=>by rw[zau (zaA g hn)];exact g) hn zan a2 a3⟩
end
def dI(L:ak):List (Key × V):=L.map λp=>(.inl p.1,V.int p.2)
def valI(L:ak)(k:Int):Option Int:=(L.find? λp=>decide (p.1=k)).map (·.2)
def putI(L:ak)(k v:Int):List (Int × Int):=if(L.any λp=>decide (p.1=k))=true then L.map (λp=>if p.1=k then(p.1,v)else p)else L++[(k,v)]
theorem bo(L:ak)(k:Int):valV (dI L) (.inl k)=(valI L k).map V.int:=by
 induction L with
 | nil=>rfl
 | cons p L ih=>
   unfold dI valI at *
   rw[sf]
   by_cases e:p.1=k
   ·rw[zbf (by rw[e]),List.find?_cons_of_pos (by simp[e])]
    rfl
   ·rw[zaY (λz=>e (qr z)),List.find?_cons_of_neg (by simp[e])]
    exact ih
theorem zth(L:ak)(k:Int):((dI L).any λkv=>decide (kv.1=.inl k))=L.any λp=>decide (p.1=k):=by
 induction L with
 | nil=>rfl
 | cons p L ih=>
   unfold dI at *
   rw[sf,qJ,qJ,ih]
   congr 1
   by_cases e:p.1=k
   ·simp[e]
   ·rw[tL e]
    exact tL λz=>e (qr z)
def zoj(L:ak)(k v:Int):putK (dI L) (.inl k) (.int v)=dI (putI L k v):=by
 unfold putK putI
 rw[zth]
 by_cases c:(L.any λp=>decide (p.1=k))=true
 ·rw[if_pos c,if_pos c]
  unfold dI
  rw[tW,tW]
  refine rV λp _=>?_
  show(if(Sum.inl p.1:Key)=.inl k then _ else _)=_
  by_cases e:p.1=k
  ·rw[if_pos (by rw[e])]
   show _=(λq:Int × Int=>((Sum.inl q.1:Key),V.int q.2)) (if p.1=k then(p.1,v)else p)
   rw[if_pos e]
  ·rw[if_neg (λz=>e (qr z))]
   show _=(λq:Int × Int=>((Sum.inl q.1:Key),V.int q.2)) (if p.1=k then(p.1,v)else p)
   rw[if_neg e]
 ·rw[if_neg c,if_neg c]
  unfold dI
  rw[tV]
  rfl
def ziR(L:ak):(dI L).length=L.length:=tq _
def zpV(L:ak)(k v:Int):(putI L k v).length<=L.length+1:=by
 unfold putI
 split
 ·rw[tq]
  omega
 ·rw[tQ]
  exact tD _
theorem bq{L:ak}{p:Int × Int}(h:p∈L):∃v,valI L p.1=some v:=by
 unfold valI
 cases e:L.find? λq=>decide (q.1=p.1) with
 | some q=>exact⟨_,rfl⟩
 | none=>
   have:=List.find?_eq_none.mp e p h
   simp at this
def zdO(t:Int):List Int->List (Int × Int)->List (Int × Int)
 | [],L=>L
 | n::ns,L=>zdO t ns (putI L n t)
def zbr:List (Int × List Int)->List (Int × Int)->List (Int × Int)
 | [],L=>L
 | r::rs,L=>zbr rs (zdO r.1 r.2 L)
theorem zfM(t n:Int):∀(ns:List Int)(L:ak),zdO t (ns++[n]) L=putI (zdO t ns L) n t
 | [],L=>rfl
 | m::ns,L=>zfM t n ns (putI L m t)
theorem zfN(r:Int × List Int):∀(rs:List (Int × List Int))(L:ak),zbr (rs++[r]) L=zdO r.1 r.2 (zbr rs L)
 | [],L=>rfl
 | q::rs,L=>zfN r rs (zdO q.1 q.2 L)
theorem zhD(t:Int):∀(ns:List Int)(L:ak),(zdO t ns L).length<=L.length+ns.length
 | [],L=>tD _
 | n::ns,L=>by
   have a:=zhD t ns (putI L n t)
   have b:=zpV L n t
   show(zdO t ns (putI L n t)).length<=_
   rw[length_cons]
   omega
theorem zka{B:Nat}:∀(rs:List (Int × List Int))(L:ak),(∀r,r∈rs->r.2.length<=B)->(zbr rs L).length<=L.length+B*rs.length
 | [],L,_=>tD _
 | r::rs,L,h=>by
   have a:=zka rs (zdO r.1 r.2 L) λq hq=>h q (tO _ hq)
   have b:=zhD r.1 r.2 L
   have c:=h r tP
   show(zbr rs (zdO r.1 r.2 L)).length<=_
   rw[length_cons,Nat.mul_succ]
   omega
def zff(L T:ak)(k:Int):Bool:=match valI T k with
 | some v=>decide (v<(valI L k).getD 0)
 | none=>false
def zel(L T:ak):List Int:=(L.map (·.1)).filter (zff L T)
def zok(L T:ak):(L.filter λp=>zff L T p.1).map (λp=>V.int p.1)=(zel L T).map V.int:=by
 unfold zel
 rw[sP,tW]
 rfl
theorem zpW{L T:ak}{k:Int}(h:k∈zel L T):∃v u,valI T k=some v/\valI L k=some u/\v<u:=by
 obtain⟨h1,h2⟩:=mem_filter.mp h
 obtain⟨p,hp,rfl⟩:=mem_map.mp h1
 obtain⟨u,hu⟩:=bq hp
 unfold zff at h2
 cases e:valI T p.1 with
 | none=>rw[e]at h2;cases h2
 | some v=>
   rw[e]at h2
   rw[hu]at h2
   exact⟨v,u,rfl,hu,t4 h2⟩
def zdK{H:Hp}{a:Addr}{L:ak}(h:Rd H a (.dK (dI L)))(k:Int):DGet H a (.int k) ((valI L k).map V.int):=.inl ⟨_,.inl k,h,rfl,(bo L k).symm⟩
def Rd.same{H H':Hp}{a:Addr}{u:HO}(s:Same H H')(h:Rd H a u):Rd H' a u:=h.imp (s _ _) λ⟨o,e⟩=>⟨o,s _ _ e⟩
theorem zkb{P P':Program}{w w':World}:∀{es:List DictEntry}{vs:List (Key × Value)},Pairs (zaG P w) es vs->Pairs (zaG P' w') es vs
 | _,_,.nil=>.nil
 | _,_,.cons a b c=>.cons a b (zkb c)
theorem zkc{P:Program}{w:World}:∀{es:List DictEntry}{vs:List (Key × Value)},Pairs (zaG P w) es vs->∀e,e∈es->∃kv,kv∈vs/\(zaG P w).is kv.1 e.key=true
 | _,_,.nil,e,h=>by cases h
 | _,_,.cons a b c,e,h=>by
   rcases mem_cons.mp h with rfl | h
   ·exact⟨_,tP,a⟩
   ·obtain⟨kv,h1,h2⟩:=zkc c e h
    exact⟨kv,tO _ h1,h2⟩
def eU{P P':Program}{w w':World}{h:Heap}{a:Addr}{vs:List (Key × Value)}(hi:∀kv,kv∈vs->∃i,kv.1=.inl i)(d:h.DictOf (zaG P w) a vs):h.DictOf (zaG P' w') a vs:=by
 obtain⟨o,es,ep,h1,h2,h3,hk,hp,hn⟩:=d
 refine⟨o,es,ep,h1,h2,h3,λe he=>?_,zkb hp,hn⟩
 obtain⟨k,k1,k2⟩:=hk e he
 obtain⟨kv,m1,m2⟩:=zkc hp e (by simpa using he)
 obtain⟨i,ei⟩:=hi kv m1
 have:=(zaG P w).inj _ _ _ k1 m2
 rw[ei]at this
 subst this
 exact⟨.inl i,k1,k2⟩
theorem zol{k:Key}{v:Value}:∀{vs:List (Key × Value)},(vs.map (·.1)).Nodup->(k,v)∈vs->valueAt vs k=some v
 | [],_,h=>by cases h
 | p::vs,nd,h=>by
   unfold valueAt
   rcases mem_cons.mp h with e | h
   ·subst e
    rw[List.find?_cons_of_pos (by simp)]
    rfl
   ·rw[sf,nodup_cons]at nd
    have ne:¬p.1=k:=λz=>nd.1 (by rw[z];exact mem_map.mpr ⟨_,h,rfl⟩)
    rw[List.find?_cons_of_neg (by simpa using ne)]
    exact zol nd.2 h
theorem zom{A:Around}{s:Shared}{kb:List (Key × Value)}:∀{l:List (Key × Value)},(∀kv,kv∈l->∃y,valueAt kb kv.1=some y/\SeqAt.EqAt A s kv.2 y true)->W.KeqHits A s kb l true
 | [],_=>.nil
 | (k,v)::l,h=>by
   obtain⟨y,e,q⟩:=h (k,v) tP
   exact .hit (e:=true) (b:=true) e q (zom λkv hkv=>h kv (tO _ hkv))
section
variable{X:Cx}{ai:ae}{σ:St}{H:Hp}{s:Shared}
theorem zon(I:Inv X ai σ H s){A:Around}{c d:Addr}{L:ak}(hu:A.units+1<cLine)(hc:Rd H c (.dK (dI L)))(hd:Rd H d (.dK (dI L))):SeqAt.EqAt A s (.ref c) (.ref d) true:=by
 by_cases cd:c=d
 ·subst cd
  exact qP _
 refine SeqAt.EqAt.of_refs cd λprog w E Q hq=>?_
 obtain⟨z1,y1,vs1,r1,d1⟩:=zgQ I.hok hc
 obtain⟨z2,y2,vs2,r2,d2⟩:=zgQ I.hok hd
 have ik:∀{vs:List (Key × Value)},KV (dI L) vs->∀kv,kv∈vs->∃i,kv.1=.inl i:=λ{vs} r kv hkv=>by
  have:kv.1∈vs.map (·.1):=mem_map.mpr ⟨kv,hkv,rfl⟩
  rw[<-r.keys]at this
  unfold dI at this
  rw[tW]at this
  obtain⟨p,_,e⟩:=mem_map.mp this
  exact⟨p.1,e.symm⟩
 obtain⟨_,_,_,_,_,_,_,_,nd1⟩:=id d1
 have e1:=eU (P':=prog) (w':=w) (ik r1) d1
 have e2:=eU (P':=prog) (w':=w) (ik r2) d2
 have len:vs1.length=vs2.length:=by rw[<-r1.length,<-r2.length]
 refine W.keq_eq (knd:=zaG prog w) y1 y2 e1 e2 (by omega) (λ_=>zom λkv hkv=>?_) (r:=true) ?_
 ·obtain⟨i,ei⟩:=ik r1 kv hkv
  have v1:=zol nd1 (show(kv.1,kv.2)∈vs1 from hkv)
  have a1:=r1.val kv.1
  have a2:=r2.val kv.1
  rw[v1]at a1
  rw[ei]at a1 a2 ⊢
  rw[bo]at a1 a2
  cases ev:valI L i with
  | none=>rw[ev]at a1;cases a1
  | some j=>
    rw[ev]at a1 a2
    obtain⟨y,hy,ry⟩:=RelO.some_of (v:=.int j) a2
    obtain⟨y',hy',ry'⟩:=RelO.some_of (v:=.int j) a1
    cases hy'
    exact⟨y,hy,zkZ ry' ry (.inl rfl)⟩
 ·rw[len,rX,rp]
  exact hq
end
section
variable{X:Cx}
def zqM(K:am)(n:Nat)(x y:V)(H:Hp):Prop:=∃a b xs ys,x=.ref a/\y=.ref b/\SqL K H a xs/\SqL K H b ys/\xs.length=ys.length/\∀(j:Nat) u v,xs[j]?=some u->ys[j]?=some v->Deq K H n u v\/∃c d L,u=.ref c/\v=.ref d/\Rd H c (.dK (dI L))/\Rd H d (.dK (dI L))
end
structure GdC(c:Ch):Prop where
 ok:∀k,k∈c->k.1.Ok
 nd:(c.map (·.1.n)).Nodup
def zti{ws:List Int}{c:Ch}{j:Cl × Int}(hj:j∈c)(h:0<zbu ws j):(j.1,zbu ws j)∈bhC ws c:=
 mem_filter.mpr ⟨mem_map.mpr ⟨j,hj,rfl⟩,decide_eq_true h⟩
inductive Hist(h:Nat)(b:Int)(c0:Ch):Nat->List (Int × List Int)->Ch->Prop
 | zero:Hist h b c0 0 [] c0
 | succ {n:Nat} {rs:List (Int × List Int)} {c:Ch} {h':Nat}:Hist h b c0 n rs c->h<=h'->Hist h b c0 (n+1) (rs++[(b+n,wkC (b+n) h' c)]) (bhC (wkC (b+n) h' c) c)
theorem zhE{h:Nat}{b:Int}{d:Ch}{j:Int}:∀(q m:Nat),j∈(runN h m b d).2.map (·.1.n)->(∀k,k∈(runN h m b d).2->0<k.2)->(runN h (m+q) b d).2=[]->∃i,m<=i/\i<m+q/\j∈wkC (b+i) h (runN h i b d).2
 | 0,m,hj,_,e=>by
   rw[Nat.add_zero]at e
   rw[e]at hj
   cases hj
 | q+1,m,hj,pos,e=>by
   by_cases w:j∈wkC (b+m) h (runN h m b d).2
   ·exact⟨m,tD _,by omega,w⟩
   ·obtain⟨k,hk,ek⟩:=mem_map.mp hj
    have hj':j∈(runN h (m+1) b d).2.map (·.1.n):=by
     rw[zbA]
     have lk:zbu (wkC (b+m) h (runN h m b d).2) k=k.2:=if_neg (by rw[ek];exact w)
     exact mem_map.mpr ⟨_,zti hk (by rw[lk];exact pos k hk),ek⟩
    have pos':∀k,k∈(runN h (m+1) b d).2->0<k.2:=by
     rw[zbA]
     exact λk hk=>zhB hk
    obtain⟨i,a1,a2,a3⟩:=zhE q (m+1) hj' pos' (by rw[show m+1+q=m+(q+1) by omega];exact e)
    exact⟨i,by omega,by omega,a3⟩
theorem zjb{h:Nat}{b:Int}{d:Ch}{i:Nat}:∀{n:Nat},i<n->(b+i,wkC (b+i) h (runN h i b d).2)∈(runN h n b d).1
 | n+1,hi=>by
   rw[zbA]
   by_cases e:i=n
   ·subst e
    exact mem_append.mpr (.inr (mem_singleton.mpr rfl))
   ·exact mem_append.mpr (.inl (zjb (by omega)))
theorem zoo{h:Nat}{b:Int}{d:Ch}:∀n,(runN h n b d).1.Pairwise (λr q=>r.1<q.1)/\∀r,r∈(runN h n b d).1->r.1<b+n
 | 0=>⟨.nil,λr hr=>by cases hr⟩
 | n+1=>by
   obtain⟨p,u⟩:=zoo (h:=h) (b:=b) (d:=d) n
   rw[zbA]
   refine⟨List.pairwise_append.mpr ⟨p,List.pairwise_singleton _ _,λr hr q hq=>?_⟩,λr hr=>?_⟩
   ·rw[mem_singleton.mp hq]
    exact u r hr
   ·rcases mem_append.mp hr with hr | hr
    ·have:=u r hr
     omega
    ·rw[mem_singleton.mp hr]
     show b+(n:Int)<b+((n+1:Nat):Int)
     omega
theorem zpX{L:ak}{k v j:Int}:valI (putI L k v) j=if j=k then some v else valI L j:=by
 have h:=zbz (dI L) (.inl k) (.inl j) (V.int v)
 rw[zoj,bo,bo]at h
 by_cases e:j=k
 ·rw[if_pos (by rw[e])]at h
  rw[if_pos e]
  cases z:valI (putI L k v) j with
  | none=>rw[z]at h;cases h
  | some u=>rw[z]at h;cases h;rfl
 ·rw[if_neg (λz=>e (qr z))]at h
  rw[if_neg e]
  cases z:valI (putI L k v) j with
  | none=>
    rw[z]at h
    cases y:valI L j with
    | none=>rfl
    | some u=>rw[y]at h;cases h
  | some w=>
    rw[z]at h
    cases y:valI L j with
    | none=>rw[y]at h;cases h
    | some u=>rw[y]at h;cases h;rfl
theorem zfg{t j:Int}:∀{ns:List Int}{L:ak},valI (zdO t ns L) j=if j∈ns then some t else valI L j
 | [],L=>by simp[zdO]
 | n::ns,L=>by
   show valI (zdO t ns (putI L n t)) j=_
   rw[zfg (ns:=ns),zpX]
   by_cases a:j∈ns
   ·rw[if_pos a,if_pos (tO _ a)]
   ·rw[if_neg a]
    by_cases e:j=n
    ·rw[if_pos e,if_pos (by rw[e];exact tP)]
    ·rw[if_neg e,if_neg (λz=>(mem_cons.mp z).elim e a)]
theorem zei{j:Int}:∀{rs:List (Int × List Int)}{L:ak}{v:Int},rs.Pairwise (λr q=>r.1<q.1)->(valI L j=some v/\(∀r,r∈rs->v<=r.1))\/(∃r,r∈rs/\r.1=v/\j∈r.2)->∃u,valI (zbr rs L) j=some u/\v<=u
 | [],L,v,_,h=>by
   rcases h with⟨h,_⟩ | ⟨r,hr,_⟩
   ·exact⟨v,h,rL _⟩
   ·cases hr
 | r::rs,L,v,p,h=>by
   rw[pairwise_cons]at p
   show ∃u,valI (zbr rs (zdO r.1 r.2 L)) j=some u/\v<=u
   rcases h with⟨h,le⟩ | ⟨q,hq,e,hj⟩
   ·have lr:=le r tP
    by_cases a:j∈r.2
    ·obtain⟨u,h1,h2⟩:=zei (rs:=rs) (L:=zdO r.1 r.2 L) (v:=r.1) p.2 (.inl ⟨by rw[zfg,if_pos a],λq hq=>rK (p.1 q hq)⟩)
     exact⟨u,h1,by omega⟩
    ·exact zei p.2 (.inl ⟨by rw[zfg,if_neg a];exact h,λq hq=>le q (tO _ hq)⟩)
   ·rcases mem_cons.mp hq with z | hq
    ·subst z
     refine zei p.2 (.inl ⟨by rw[zfg,if_pos hj,e],λq hq=>?_⟩)
     rw[<-e]
     exact rK (p.1 q hq)
    ·exact zei p.2 (.inr ⟨q,hq,e,hj⟩)
section
variable{X:Cx}{ai:ae}{σ:St}{H:Hp}{s:Shared}
end
theorem zhF{α β:Type}{F : α -> β->Prop}:∀{l₁:List α}{l₂:List β},l₁.length=l₂.length->(∀(j:Nat) a b,l₁[j]?=some a->l₂[j]?=some b->F a b)->Paired F l₁ l₂
 | [],[],_,_=>.nil
 | a::l₁,b::l₂,h,f=>.cons (f 0 a b rfl rfl) (zhF (by simpa using h) λj x y hx hy=>f (j+1) x y hx hy)
theorem zfO{α β:Type}{F : α -> β->Prop}:∀{l₁:List α}{l₂:List β},Paired F l₁ l₂->∀{j:Nat}{a : α}{b : β},l₁[j]?=some a->l₂[j]?=some b->F a b
 | _,_,.nil,j,a,b,h,_=>by simp at h
 | _,_,.cons x r,0,a,b,h1,h2=>by
   cases h1
   cases h2
   exact x
 | _,_,.cons x r,j+1,a,b,h1,h2=>zfO r (j:=j) h1 h2
inductive Shw(K:am)(H:Hp):V->Str->Prop
 | non:Shw K H .non "None"
 | bl (b:Bool):Shw K H (.bl b) (if b then "True" else "False")
 | int (i:Int) (h:i.natAbs.log2<1920):Shw K H (.int i) (toString i)
 | str (x:Str) (h:(reprText x).length<=sizeLine):Shw K H (.str x) (reprText x)
 | lst {a:Addr} (i:Int) (h:SqL K H a [.int i]) (hs:(PyData.list [.int i]).showable=true) (hz:(PyData.list [.int i]).shown.length<=sizeLine):Shw K H (.ref a) (PyData.list [.int i]).shown
 | tup {a:Addr} (i:Int) (h:SqT K H a [.int i]) (hs:(PyData.tuple [.int i]).showable=true) (hz:(PyData.tuple [.int i]).shown.length<=sizeLine):Shw K H (.ref a) (PyData.tuple [.int i]).shown
section
variable{X:Cx}
theorem ziS(hh:X.A.handled=none):zda X (.type "list") (λxs H Q=>∃a kvs,xs=[V.ref a]/\Rd H a (.dK kvs)/\∀l H2,Same H H2->H l=none->H2 l=some (.lst (kvs.map λkv=>kV kv.1))->Q (.ref l) H2):=by
 intro ai s σ H xs us Q I r h
 obtain⟨a,kvs,rfl,hd,q⟩:=h
 obtain⟨u,rfl,ru⟩:=zdR r
 cases(show u=Value.ref a from ru)
 obtain⟨z,y,vs,rel,o,es,ep,ho,oc,od,rr⟩:=zgQ I.hok hd
 have lv:=rel.length
 refine W.kdl_call (W.kdl_dict (knd:=zaG X.prog X.w) (kvs:=vs) (ep:=ep) y) hh (show s.heap.DictAt (zaG X.prog X.w) a vs ep from⟨o,es,ho,oc,od,rr⟩) (by omega) λh' tk acc' c' hk hS hacc=>?_
 have hn:H s.heap.objs.size=none:=I.hok.fresh (tD _)
 have len:acc'.toList.length=kvs.length:=by rw[Array.length_toList,hacc.1];exact lv.symm
 have rl:Vals (kvs.map λkv=>kV kv.1) acc'.toList:=by
  refine zhF (by rw[tq,len]) λj x v hx hv=>?_
  obtain⟨k,w,hk1,hk2⟩:=hacc.2 j v (by rw[<-Array.getElem?_toList];exact hv)
  rw[getElem?_map]at hx
  cases e:kvs[j]? with
  | none=>rw[e]at hx;cases hx
  | some kv=>
    rw[e]at hx
    cases hx
    have ek:kv.1=k:=by
     have:=tS (·[j]?) rel.keys
     simp only[getElem?_map,hk1,e,Option.map_some]at this
     exact tF this
    show RelV (kV kv.1) v
    rw[ek]
    exact zog hk2
 refine⟨.ref _,upd H s.heap.objs.size (.lst (kvs.map λkv=>kV kv.1)),I.laid (t':=tk) (h':=h') hk (tD _) ⟨by rw[tq];exact z,acc'.toList,c',rl,?_⟩,rfl,q _ _ (zbq hn _) hn zan⟩
 rw[hS]
end
section
variable{X:Cx}{tg:Expr}
end
section
variable{X:Cx}
end
abbrev Cel:=Addr × Obj × V
def ztj(p:Cel):HO:=.ext λh=>h.get? p.1=some p.2.1
structure CellOk(p:Cel):Prop where
 ex:∃u,p.2.1.data=.cell (some u)/\RelV p.2.2 u
structure FnV(P:Program)(w:World)(K:am)(mg:af)(bf:Heap)(k:Nat)(H:Hp)(f:Addr)(sp:Sp):Prop where
 obj:∃o fd,H f=some (.frz o (.own f))/\o.data=.func fd
 run:∀(A:Around)(outer:List Env)(s:Shared)(H1:Hp)(us:ah)(vs:List V)(Q:VK),Room k A->Env0 P w K mg bf A outer s H1->Same H H1->Vals vs us->sp vs H1 Q E0->
  codeAny (model P w) A (.call (.ref f) ⟨us,[]⟩) (λr s'=>∃u,r=.ok (.ret u)/\CE outer P w H1 s Q u s') s
section
variable{X:Cx}{k i:Nat}{x:Str}{p pos:Pos}{e:Expr}{es:List Expr}{t:TA}
end
structure LScope(scope:Scope)(x:Str)(N:List Str):Prop where
 kind:scope.kind=.function
 nocell:∀y∈scope.names,y.2≠.cell
 own:scope.names.lookup x=some .local
 head:N[0]?=some x
 apart:∀y,scope.names.lookup y=some .local->(y,NameKind.free)∉scope.names
structure CloV(H:Hp)(q:Str)(ar:Arguments)(body:Expr)(scope:Scope)(f:Addr)(cl:List (Str × Addr))(N:List Str)(cs:List Cel):Prop where
 ex:∃pm c ct oc us t o,H f=some (.frz o (.own f))/\o.data=.func (W.kla_fn "<lambda>" q ar body scope cl pm (.ref c) ct)/\H c=some (.frz oc (.own c))/\oc.data=.fields us/\us[1]?=some (.str q t)
 inj:∀y z c,cl.lookup y=some c->cl.lookup z=some c->y=z
 has:∀x,(x,NameKind.free)∈scope.names->∃c,cl.lookup x=some c
 cov:∀x c,cl.lookup x=some c->∃p,p∈cs/\p.1=c
 len:N.length=cs.length+1
 cap:∀(k:Nat)(p:Cel)(y:Str),N[k+1]?=some y->cs[k]?=some p->cl.lookup y=some p.1/\(y,NameKind.free)∈scope.names
 cel:∀p,p∈cs->H p.1=some (ztj p)/\CellOk p
 nd:(cs.map (·.1)).Nodup
theorem zhG{α:Type}(R:Nat -> α->Prop):∀n,(∀k,k<n->∃a,R k a)->∃l:List α,l.length=n/\∀k a,l[k]?=some a->R k a
 | 0,_=>⟨[],rfl,λk a h=>by simp at h⟩
 | n+1,h=>by
   obtain⟨l,e,r⟩:=zhG R n λk hk=>h k (by omega)
   obtain⟨a,ha⟩:=h n (by omega)
   refine⟨l++[a],by rw[tQ,e];rfl,λk b hb=>?_⟩
   by_cases z:k<n
   ·rw[si (by omega)]at hb
    exact r k b hb
   ·rw[t7 (by omega),e]at hb
    cases y:k-n with
    | zero=>
      rw[y]at hb
      cases hb
      rw[show k=n by omega]
      exact ha
    | succ j=>rw[y]at hb;cases hb
end L2
namespace L2
open PySem PySem.Spec PyProof.Rows PySem.W
end L2
namespace PySem
open Sem (wp)
namespace F
def entry_dict_loop:entryFor table "dict.update.loop" = some Builtin.«dict.update.loop» := entryFor_of_tree (by kernel_rfl)
def plain_dict_loop:plainId "dict.update.loop" = true:=by decide +kernel
def miss_list_keys:typeLookup (.type "list") "keys" = pure none:=by rw[typeLookup_type,builtinLookup_eq_fast];kernel_rfl
end F
def zkd{prog:Program}{w:World}{A:Around}{E:ac}{s:Shared}{a:Addr}{o:Obj}{xs:Array Value}{k:Nat}{Q:Option Value->Shared->Prop}
    (hx:s.heap.get? a=some o) (hc:o.cls=.type "list") (hdat:o.data=.seq xs k) (hd:o.dict=none) (hA:A.handled=none)
    (h:∀h' tk,(∀b o,s.heap.get? b=some o->h'.get? b=some o)->Q none { s with heap:=h',toks:=tk }):
    wpAny (model prog w) A (getAttr? (.ref a) "keys") Q E s:=by
 obtain⟨c,dct,dat,sl⟩:=o
 cases(show c=_ from hc);cases(show dat=_ from hdat);cases(show dct=_ from hd)
 rcases s with⟨h0,gs,dr,n0,oz⟩
 have isL:∀tk',(⟨h0,gs,dr,tk',oz⟩:Shared).TypeIs (.ref a) "list" := λ_=>⟨_,hx,rfl⟩
 have v1:=sub_AttributeError;have v5:=am_list_getattr_none
 have v3:=F.slot_list_getattribute.lookup;have v4:=F.slot_list_getattribute.bind (.ref a)
 unfold getAttr? getAttrBy?;unfold getAttrBy
 repeat (any_goals (first | assumption | exact isL _ | ((with_reducible show wpAny _ _ (call (Value.builtin "list.__getattribute__") _ _) _ _ _);refine call_meets F.slot_list_getattribute (isL _) am_entry_list_getattribute (F.args_list_getattribute_2 _ _) (meets_getattribute_miss_list a xs k sl "keys" _ F.miss_list_keys (by decide +kernel) (by decide +kernel)) ⟨hx,hA,λh' tk' e hx'=>?_⟩) | wp_step))
 rcases hx'.there with⟨_,_,he⟩
 have hE:∀tk'',(⟨h',gs,dr,tk'',oz⟩:Shared).TypeIs (.ref e) "AttributeError" := λ_=>⟨_,he,rfl⟩
 (show wpAny _ _ (getattributeRaised _ _ _ _ _ _ _) _ _ _);unfold getattributeRaised
 repeat (any_goals (first | assumption | exact hE _ | wp_step))
 exact h h' tk' hx'.keeps
section
variable{prog:Program}{w:World}{K:Type} [DecidableEq K] {knd:KeyKind prog w K} {A:Around} {R:Result->Shared->Prop}
def zfP(kvs:List (K × Value)):List (Addr × K × Value × Value)->List (K × Value)
 | []=>kvs
 | p::ps=>zfP (stored kvs p.2.1 p.2.2.2) ps
def zmM(kvs:List (K × Value))(k:K)(v:Value):(stored kvs k v).length<=kvs.length+1:=by
 unfold stored
 split<;>simp
theorem zfQ(d l it:Addr)(hh:A.handled=none)(ps:List (Addr × K × Value × Value))(n1:it≠d)(n2:it≠l)(n3:d≠l)(n4:∀p,p∈ps->p.1≠it/\p.1≠d)(hk:∀p,p∈ps->knd.is p.2.1 p.2.2.1=true):
  ∀(m i:Nat)(s:Shared)(kvs:List (K × Value)),ps.length-i=m->i<=ps.length->s.heap.IsListIter it l i->s.heap.IsList l (ps.map λp=>Value.ref p.1).toArray->(∀p,p∈ps->s.heap.IsTuple p.1 #[p.2.2.1,p.2.2.2])->s.heap.DictOf knd d kvs->kvs.length+(ps.length-i)<=sizeLine->
   (∀h' tk,(∀b o,b≠it->b≠d->s.heap.get? b=some o->h'.get? b=some o)->h'.DictOf knd d (zfP kvs (ps.drop i))->R (.ok (.ret .none)) { s with heap:=h',toks:=tk })->
   codeAny (model prog w) A (.builtin "dict.update.loop" ⟨[.ref d,.ref it,rawInt i,.none],[]⟩) R s:=by
 intro m
 induction m with
 | zero=>
   intro i s kvs hm hi hit hl hp hd hz hR
   have e:i=ps.length:=by omega
   subst e
   refine qg F.entry_dict_loop ?_
   rw[rQ F.plain_dict_loop _]
   show wpAny _ A.in1 (pyNext (.ref it) >>= _) _ _ s
   refine tw (qC hh hit hl (by simp) λh' eb=>?_)
   show wpAny _ A.in1 (Builtin.Dict.addKeywords d [] >>= λ_=>ret Value.none) _ _ _
   refine tw (tI ?_)
   refine tI (hR h' s.toks (λb o h1 h2 e=>eb b o h1 e) ?_)
   rw[List.drop_length]
   obtain⟨o,es,ep,ho,r⟩:=hd
   exact⟨o,es,ep,eb d o n1.symm ho,r⟩
 | succ m ih=>
   intro i s kvs hm hi hit hl hp hd hz hR
   have il:i<ps.length:=by omega
   have ei:ps[i]?=some ps[i]:=tm il
   have hpm:ps[i]∈ps:=sJ il
   have ed:ps.drop i=ps[i]::ps.drop (i+1):=List.drop_eq_getElem_cons il
   generalize ps[i]=p at ei hpm ed
   refine qg F.entry_dict_loop ?_
   rw[rQ F.plain_dict_loop _]
   show wpAny _ A.in1 (pyNext (.ref it) >>= _) _ _ s
   refine tw (ql hit hl (x:=.ref p.1) (by simp[ei]) λh' hit' sb=>?_)
   have kp:∀b o,b≠it->s.heap.get? b=some o->h'.get? b=some o:=λb o hb e=>(sb.2 b hb).trans e
   have htup:h'.IsTuple p.1 #[p.2.2.1,p.2.2.2]:=let ⟨o,e,r⟩:=hp p hpm;⟨o,kp _ o (n4 p hpm).1 e,r⟩
   have hd':h'.DictOf knd d kvs:=let ⟨o,es,ep,ho,r⟩:=hd;⟨o,es,ep,kp d o n1.symm ho,r⟩
   obtain⟨ot,ht1,ht2,nt,ht3⟩:=id htup
   show wpAny _ A.in1 (holding [Value.ref p.1] _ >>= _) _ _ _
   refine tw (tZ ?_)
   refine tw (wpAny_tryCatch ?_)
   unfold Builtin.Dict.pairItems
   refine tw (wpAny_typeOf (T := "tuple") ⟨ot,ht1,ht2⟩ ?_)
   rw[if_pos (by decide)]
   obtain⟨oc,od,dt,osl⟩:=ot
   cases(show dt=.seq #[p.2.2.1,p.2.2.2] nt from ht3)
   refine tw (m:=seqItems? (.ref p.1)) ?_
   unfold seqItems?
   refine tw (wpAny_load ht1 (tI (tI ?_)))
   show wpAny _ A.in1 (holding [p.2.2.1,p.2.2.2] (dictSet d p.2.2.1 p.2.2.2)) _ _ _
   refine tZ (wpAny_dictSet_pairs (hk p hpm) hd' (λh2 hd2 sb2=>?_) (by omega))
   have kp2:∀b o,b≠it->b≠d->s.heap.get? b=some o->h2.get? b=some o:=λb o h1 h3 e=>(sb2.2 b h3).trans (kp b o h1 e)
   refine tI ⟨plainId_quiet F.plain_dict_loop _,?_⟩
   refine ih (i+1) _ (stored kvs p.2.1 p.2.2.2) (by omega) il ?_ ?_ (λq hq=>?_) hd2 (by have:=zmM kvs p.2.1 p.2.2.2;omega) λh3 tk h4 h5=>?_
   ·obtain⟨o,e,r⟩:=hit'
    exact⟨o,(sb2.2 it n1).trans e,r⟩
   ·obtain⟨o,e,r⟩:=hl
    exact⟨o,kp2 l o n2.symm n3.symm e,r⟩
   ·obtain⟨o,e,r⟩:=hp q hq
    exact⟨o,kp2 q.1 o (n4 q hq).1 (n4 q hq).2 e,r⟩
   ·refine hR h3 tk (λb o h1 h2' e=>h4 b o h1 h2' (kp2 b o h1 h2' e)) ?_
    rw[ed]
    exact h5
def zhH{E:ac}{s:Shared}{l:Addr}{ol:Obj}{nl:Nat}(hh:A.handled=none)(ps:List (Addr × K × Value × Value)){Q:ac}(g1:s.heap.get? l=some ol)(g2:ol.cls=.type "list")(g3:ol.data=.seq (ps.map λp=>Value.ref p.1).toArray nl)(g4:ol.dict=none)
    (hp:∀p,p∈ps->s.heap.IsTuple p.1 #[p.2.2.1,p.2.2.2]) (hk:∀p,p∈ps->knd.is p.2.1 p.2.2.1=true) (hz:ps.length<=sizeLine)
    (h:∀h' tk,(∀b o,s.heap.get? b=some o->h'.get? b=some o)->h'.DictOf knd s.heap.objs.size (zfP [] ps)->Q (.ref s.heap.objs.size) { s with heap:=h',toks:=tk }):
    wpAny (model prog w) A (call (.type "dict") [.ref l]) Q E s:=by
 refine callType_codes (Q₁:=λx t=>x=.ref s.heap.objs.size/\t = { s with heap:=s.heap.push { cls:=.type "dict",data:=.dict #[] } }) F.kt_called_dict (F.kt_typeCall_dict_1 _) F.entry_dict_init (kt_code_dict_new _ ⟨rfl,rfl⟩) ?_
 rintro obj s₁ ⟨rfl,rfl⟩
 have neu:(s.heap.push { cls:=.type "dict",data:=.dict #[] }).DictOf knd s.heap.objs.size []:=Heap.DictOf.new _
 have old1:∀b o,s.heap.get? b=some o->(s.heap.push { cls:=.type "dict",data:=.dict #[] }).get? b=some o:=λb o e=>tu _ e
 refine⟨neu.typeIs,F.args_dict_init_2 _ _,?_⟩
 unfold Builtin.«dict.__init__»;refine tw ?_
 unfold Builtin.Dict.selfAndRest;refine tw (wpAny_notOrdered_dict neu.typeIs ?_)
 show wpAny _ _ (pure (s.heap.objs.size,[Value.ref l])) _ _ _
 refine tI ?_
 show wpAny _ _ (Builtin.Dict.updateFrom "dict.__init__" s.heap.objs.size (.ref l) [] .none) _ _ _
 unfold Builtin.Dict.updateFrom;refine tw (wpAny_typeOf (T := "list") ⟨ol,old1 _ _ g1,g2⟩ ?_)
 rw[if_pos (by decide)]
 refine tw (zkd (old1 _ _ g1) g2 g3 g4 hh λh1 tk1 k1=>?_)
 rw[if_pos (by rfl)]
 refine tw (wpAny_rule ?_)
 have old2:∀b o,s.heap.get? b=some o->h1.get? b=some o:=λb o e=>k1 b o (old1 b o e)
 have hl2:h1.IsList l (ps.map λp=>Value.ref p.1).toArray:=⟨ol,old2 _ _ g1,g2,nl,g3⟩
 refine tw (rg hl2 ?_)
 have lt:s.heap.objs.size<h1.objs.size:=by
  obtain⟨o,es,ep,ho,_⟩:=neu
  exact tG (k1 _ o ho)
 have old3:∀b o,h1.get? b=some o->(h1.push { cls:=.type "list_iterator",data:=.fields #[.ref l,.int 0 0] }).get? b=some o:=λb o e=>tu _ e
 have ltl:l<s.heap.objs.size:=tG g1
 have ltp:∀p,p∈ps->p.1<s.heap.objs.size:=λp hpp=>let ⟨o,e,_⟩:=hp p hpp;tG e
 refine tI ⟨plainId_quiet F.plain_dict_loop _,zfQ (A:=A.in1) (knd:=knd) s.heap.objs.size l h1.objs.size hh ps (qB lt) (qB (qZ ltl lt)) (qB ltl) (λp hpp=>⟨tJ (qZ (ltp p hpp) lt),tJ (ltp p hpp)⟩) hk ps.length 0 _ [] rfl (tU _) ⟨_,tH _ rfl,rfl,rfl⟩ ⟨ol,old3 _ _ (old2 _ _ g1),g2,nl,g3⟩ (λp hpp=>?_) ?_ (by simpa using hz) λh' tk kp hd=>?_⟩
 ·obtain⟨o,e,r⟩:=hp p hpp
  exact⟨o,old3 _ _ (old2 _ _ e),r⟩
 ·obtain⟨o,es,ep,ho,r⟩:=neu
  exact⟨o,es,ep,old3 _ _ (k1 _ _ ho),r⟩
 ·refine⟨rfl,h h' tk (λb o e=>?_) hd⟩
  have lb:=tG e
  exact kp b o (tJ (qZ lb lt)) (tJ lb) (old3 _ _ (old2 _ _ e))
end
end PySem
namespace L2
open PySem PySem.Spec PyProof.Rows
def zde(kvs:List (Key × V)):List (Key × V)->List (Key × V)
 | []=>kvs
 | p::ps=>zde (putK kvs p.1 p.2) ps
theorem KV.all{kvs:List (Key × V)}{vs:List (Key × Value)}{qs:List (Addr × Key × Value × Value)}{ps:List (Key × V)}(r:KV kvs vs)(h:Paired (λ(p:Key × V)(q:Addr × Key × Value × Value)=>p.1=q.2.1/\RelV p.2 q.2.2.2) ps qs):KV (zde kvs ps) (zfP vs qs):=by
 induction h generalizing kvs vs with
 | nil=>exact r
 | cons x _ ih=>
   obtain⟨e,rv⟩:=x
   show KV (zde (putK _ _ _) _) (zfP (stored _ _ _) _)
   rw[<-e]
   exact ih (r.put _ rv)
theorem zmN{X:Cx}(hh:X.A.handled=none):zda X (.type "dict") (λxs H Q=>∃(l:Addr)(bs:List (Addr × Key × V)),xs=[V.ref l]/\H l=some (.lst (bs.map λb=>V.ref b.1))/\(∀b,b∈bs->H b.1=some (.tup [kV b.2.1,b.2.2]))/\
  ∀d H2,Same H H2->H d=none->H2 d=some (.dK (zde [] (bs.map (·.2))))->Q (.ref d) H2):=by
 intro ai s σ H xs us Q I r h
 obtain⟨l,bs,rfl,hl,hb,q⟩:=h
 obtain⟨u,rfl,ru⟩:=zdR r
 cases(show u=Value.ref l from ru)
 obtain⟨hz,its,n,rv,g⟩:=(show _ from I.hok l _ hl)
 have hn:H s.heap.objs.size=none:=I.hok.fresh (tD _)
 have R:∀i,i<bs.length->∃q:Addr × Key × Value × Value,∃b,bs[i]?=some b/\q.1=b.1/\s.heap.IsTuple q.1 #[q.2.2.1,q.2.2.2]/\(zaG X.prog X.w).is q.2.1 q.2.2.1=true/\b.2.1=q.2.1/\RelV b.2.2 q.2.2.2:=λi hi=>by
  have eb:bs[i]?=some bs[i]:=tm hi
  have hm:=sJ hi
  generalize bs[i]=b at eb hm
  obtain⟨_,ws,rw',p⟩:=(show _ from I.hok b.1 _ (hb b hm))
  obtain⟨u1,u2,rfl,r1,r2⟩:=zrr rw'
  have hkey:(zaG X.prog X.w).is b.2.1 u1=true:=by
   rw[ziA]
   cases hk:b.2.1 with
   | inl i=>
     rw[hk]at r1
     obtain⟨t,rfl⟩:=r1
     exact rX _
   | inr x=>
     rw[hk]at r1
     obtain⟨t,rfl⟩:=r1
     exact rX _
  exact⟨(b.1,b.2.1,u1,u2),b,eb,rfl,p,hkey,rfl,r2⟩
 obtain⟨qs,lq,rq⟩:=zhG _ bs.length R
 have eits:its=qs.map λp=>Value.ref p.1:=by
  have l1:its.length=bs.length:=by
   have:=rv.length
   rw[tq]at this
   exact this.symm
  refine qx λi=>?_
  rw[getElem?_map]
  cases e:qs[i]? with
  | none=>
    have:=getElem?_eq_none_iff.mp e
    rw[sZ (by omega)]
    rfl
  | some q'=>
    obtain⟨b,e1,e2,_⟩:=rq i q' e
    have il:i<its.length:=by
     have:=(List.getElem?_eq_some_iff.mp e).1
     omega
    have ei:=tm il
    have:=zfO rv (show(bs.map λb=>V.ref b.1)[i]?=some (V.ref b.1) by rw[getElem?_map,e1];rfl) ei
    rw[ei]
    show some its[i]=some (Value.ref q'.1)
    rw[show its[i]=Value.ref b.1 from this,e2]
 have mem:∀q',q'∈qs->s.heap.IsTuple q'.1 #[q'.2.2.1,q'.2.2.2]/\(zaG X.prog X.w).is q'.2.1 q'.2.2.1=true:=λq' hq=>by
  obtain⟨i,hi,ei⟩:=tX hq
  have e:=tm hi
  rw[ei]at e
  obtain⟨_,_,_,a3,a4,_⟩:=rq i q' e
  exact⟨a3,a4⟩
 have zq:qs.length<=sizeLine:=by
  rw[tq]at hz
  omega
 refine zhH (knd:=zaG X.prog X.w) hh qs g rfl (by rw[<-eits]) rfl (λq' hq=>(mem q' hq).1) (λq' hq=>(mem q' hq).2) zq λh' tk kp hd=>?_
 have rel:KV (zde [] (bs.map (·.2))) (zfP [] qs):=KV.all .nil (zhF (by rw[tq,lq]) λj p q' hp hq=>by
  obtain⟨b,e1,_,_,_,a5,a6⟩:=rq j q' hq
  rw[getElem?_map,e1]at hp
  cases hp
  exact⟨a5,a6⟩)
 have zl:(zde [] (bs.map (·.2))).length<=sizeLine:=by
  have:∀(ps:List (Key × V))(kvs:List (Key × V)),(zde kvs ps).length<=kvs.length+ps.length:=by
   intro ps
   induction ps with
   | nil=>intro kvs;exact tD _
   | cons p ps ih=>
     intro kvs
     have h1:=ih (putK kvs p.1 p.2)
     have h2:(putK kvs p.1 p.2).length<=kvs.length+1:=by
      unfold putK
      split
      ·rw[tq]
       omega
      ·rw[tQ]
       exact tD _
     show(zde (putK kvs p.1 p.2) ps).length<=_
     rw[length_cons]
     omega
  have:=this (bs.map (·.2)) []
  rw[tq,length_nil]at this
  omega
 exact⟨.ref _,_,I.laid (a:=s.heap.objs.size) (o:=.dK (zde [] (bs.map (·.2)))) (h':=h') (t':=tk) kp (tD _) (znA zl (beq_eq_false_iff_ne.mpr (Ne.symm (tJ I.big))) rel hd),rfl,q _ _ (zbq hn _) hn zan⟩
theorem ziT:∀(ps kvs:List (Key × V)),((kvs++ps).map (·.1)).Nodup->zde kvs ps=kvs++ps
 | [],kvs,_=>by simp[zde]
 | p::ps,kvs,nd=>by
   have no:valV kvs p.1=none:=by
    cases e:valV kvs p.1 with
    | none=>rfl
    | some v=>
      rw[tV,List.nodup_append]at nd
      have hm:p.1∈kvs.map (·.1):=by
       clear nd
       induction kvs with
       | nil=>rw[aY]at e;cases e
       | cons q kvs ih=>
         by_cases z:q.1=p.1
         ·rw[sf,z]
          exact tP
         ·rw[zaY z]at e
          exact tO _ (ih e)
      exact(nd.2.2 _ hm _ tP rfl).elim
   show zde (putK kvs p.1 p.2) ps=_
   rw[aM _ no,ziT ps (kvs++[(p.1,p.2)]) (by rw[pJ];exact nd),pJ]
   rfl
def ztk{L:ak}(nd:(L.map (·.1)).Nodup):zde [] (dI L)=dI L:=by
 rw[ziT]
 ·rfl
 ·show((dI L).map (·.1)).Nodup
  unfold dI
  rw[tW]
  have:(L.map ((λx:Key × V=>x.1) ∘ λp:Int × Int=>((Sum.inl p.1:Key),V.int p.2)))=(L.map (·.1)).map (λi=>(Sum.inl i:Key)):=by
   rw[tW]
   rfl
  rw[this,List.nodup_iff_pairwise_ne,List.pairwise_map]
  exact(List.nodup_iff_pairwise_ne.mp nd).imp λh z=>h (qr z)
def zul(K:am):List V->Hp->VK->Prop:=λxs H Q=>∃p ys,xs=[.ref p]/\(SqL K H p ys\/SqT K H p ys)/\∀l H2,Same H H2->H l=none->H2 l=some (.lst ys)->Q (.ref l) H2
def zmO{X:Cx}{K:am}(hK:X.K=K):zda X (.type "list") (zul K):=hK▸zhs
end L2
namespace PySem
open Sem (wp)
section
variable{prog:Program}{w:World}{A:Around}{E:ac}{s:Shared}
end
end PySem
namespace PySem
open Sem (wp)
open AutoSeq1 (wpAny_loadPart')
set_option maxHeartbeats 8000000 in
section
variable{prog:Program}{w:World}{A:Around}{E:ac}{s:Shared}
end
end PySem
namespace L2
open PySem PySem.Spec PyProof.Rows
section
variable{M:Model}{A:Around}{E:ac}{s:Shared}{env:Env}
end
structure Zap(z TI TO i1 i2:Addr):Prop where
 n1:TI≠z
 n2:TO≠z
 n3:i1≠z
 n4:i2≠z
 n5:TI≠TO
 n6:TI≠i1
 n7:TI≠i2
 n8:TO≠i1
 n9:TO≠i2
 n0:i1≠i2
structure RowOk(ds:List Cl)(lf:Int->Int)(h:Nat)(t:Int)(ws:List Int):Prop where
 len:ws.length<=h
 nd:ws.Nodup
 inn:∀w,w∈ws->∃d,d∈ds/\d.n=w/\1<=lf w/\d.came<=t
 srt:∀(i:Nat) d e,ws[i]?=some d.n->ws[i+1]?=some e.n->d∈ds->e∈ds->ahd d e t=true
 rest:∀d,d∈ds->d.n∉ws->0<lf d.n->d.came<=t->ws.length=h/\∀e,e∈ds->ws.getLast?=some e.n->ahd e d t=true
def dn(ws:List Int)(L:ak):List (Int × Int):=L.map λp=>(p.1,if p.1∈ws then p.2-1 else p.2)
def zpY{a:Addr}{ob:Obj}{kvs:List (Key × V)}{g:TG}{tb:TS}{D:Ends}{σ:St}{H:Hp}(Pv:Nat->St->Hp->Prop)(h0:Pv 0 σ H)(hl:∀i σ H,Pv i σ H->H a=some (.frz ob (.dK kvs)))
    (hs:∀i kv σ H,kvs[i]?=some kv->Pv i σ H->g (kV kv.1) σ H λσ2 H2=>tb { D with nx:=Pv (i+1),ct:=Pv (i+1),bk:=D.nx } σ2 H2) (hd:∀ σ H,Pv kvs.length σ H->D.nx σ H):
    ∃W:Nat->Nat->St->Hp->Prop,(∃m,W 0 m σ H)/\∀i m σ H,W i m σ H->
     ((Itd a ob kvs).stop i H/\D.nx σ H)\/((Itd a ob kvs).go i H/\∃N:St->Hp->Prop,(∀ σ' H',N σ' H'->∃m',m'<m/\W (i+1) m' σ' H')/\∀x H',(Itd a ob kvs).yld i H x H'->g x σ H' λσ2 H2=>tb { D with nx:=N,ct:=N,bk:=D.nx } σ2 H2):=by
 refine⟨λi m σ H=>m=kvs.length-i/\i<=kvs.length/\Pv i σ H,⟨kvs.length,by simp,tU _,h0⟩,?_⟩
 rintro i m σ H ⟨rfl,hi,p⟩
 have q:=hl i σ H p
 by_cases hlt:i<kvs.length
 ·refine .inr ⟨⟨q,hlt⟩,Pv (i+1),λσ' H' p'=>⟨kvs.length-(i+1),by omega,rfl,hlt,p'⟩,λx H' y=>?_⟩
  obtain⟨rfl,kv,hk,rfl⟩:=y
  exact hs i kv σ _ hk p
 ·have e:i=kvs.length:=by omega
  subst e
  exact .inl ⟨⟨q,tD _⟩,hd σ H p⟩
end L2
namespace PySem
open Sem (wp)
section
variable{prog:Program}{w:World}{A:Around}{E:ac}{s:Shared}
end
end PySem
namespace PySem
open Sem (wp)
section
variable{prog:Program}{w:World}{A:Around}{E:ac}{s:Shared}
end
end PySem
namespace L2
open PySem PySem.Spec PyProof.Rows
section
variable{X:Cx}
end
section
variable{X:Cx}
end
section
variable{X:Cx}
end
section
variable{X:Cx}{tg:Expr}
end
structure MOk(CX:CXT)(P:Program)(w:World)(K:am)(mg:af)(bf:Heap)(k:Nat)(C:Addr)(m:Str)(sp:Sp):Prop where
 cl:Cls K C
 ex:∃f fd ps,Meth K C m f/\FnOk P w K mg bf CX k f fd ps sp/\zbp K fd ps []
inductive EMth(P:Program)(w:World)(K:am)(mg:af)(bf:Heap)(CX:CXT)(k:Nat)(m:Str)(E:XK)(t:TA)(σ:St)(Q:VK)(x:V)(H:Hp):Prop
 | mk (a C dx:Addr) (fs:List (Str × V)) (sp:Sp) (hx:x=.ref a) (h:H a=some (.ins C dx fs)) (l:fs.lookup m=none) (M:MOk CX P w K mg bf k C m sp) (q:t σ H λvs H2=>sp (x::vs) H2 Q E):EMth P w K mg bf CX k m E t σ Q x H
def tMth(P:Program)(w:World)(K:am)(mg:af)(bf:Heap)(CX:CXT)(k:Nat)(m:Str)(E:XK)(ta:TE)(t:TA):TE:=λσ H Q=>ta σ H (EMth P w K mg bf CX k m E t σ Q)
section
variable{X:Cx}{CX:CXT}{k:Nat}{E:XK}{m:Str}{pos apos:Pos}{e o:Expr}{es:List Expr}{ta:TE}{t:TA}
def zbd{pl:Sem Bool}(he:PE X o ta)(hr:Room k X.A)(hx:zdS CX X E)(ha:PA X (e::es) t)
    (hst:starEach (e::es) X.env=(false,eval e X.env)::starEach es X.env:=by rfl) (hpl:(backTo pos (starEach es X.env)).any (·.1)=false:=by rfl)
    (ht:eval (.Call (.Attribute o m apos) (e::es) [] pos) X.env=(do
      let ov <-eval o X.env
      standAt apos.atName
      let (f,first) <-holding [ov] (getMethod ov m pl)
      callWith pos f first (backTo pos (starEach (e::es) X.env)) (backToKw pos (keywordEach [] X.env))):=by rfl):
    PE X (.Call (.Attribute o m apos) (e::es) [] pos) (tMth X.prog X.w X.K X.mg X.bf CX k m E ta t):=by
 with_unfolding_all
  intro ai s σ H Q I h
  refine W.methodCall_KW (pl:=pl) (thn (he ai s σ H _ I h) λu s1 ⟨x,H1,I1,rx,a,C,dx,fs,sp,ex,ea,l,M,q⟩=>?_) ht
  subst ex
  obtain rfl:u=Value.ref a:=rx
  obtain⟨f,fd,ps,hm,F,hb⟩:=M.ex
  refine zfE I1 ea M.cl hm l ?_
  refine qX (first:=[.ref a]) (h₀:=X.bf) I.ok.mod.kin hm.kp (thn (ha pos ai s1 σ H1 _ I1 q) λus s2 ⟨vs,H2,I2,r,q2⟩=>⟨I2.kIn,?_⟩) hst hpl
  exact zlI (us:=.ref a::us) (vs:=.ref a::vs) (dvs:=[]) F hr hb .nil hx I2 (.cons rfl r) (by rw[sM];exact q2)
def zaI{pl:Sem Bool}(he:PE X o ta)(hr:Room k X.A)(hx:zdS CX X E)
    (ht:eval (.Call (.Attribute o m apos) [] [] pos) X.env=(do
      let ov <-eval o X.env
      standAt apos.atName
      let (f,first) <-holding [ov] (getMethod ov m pl)
      callWith pos f first (backTo pos (starEach [] X.env)) (backToKw pos (keywordEach [] X.env))):=by rfl):
    PE X (.Call (.Attribute o m apos) [] [] pos) (tMth X.prog X.w X.K X.mg X.bf CX k m E ta tNil):=by
 with_unfolding_all
  intro ai s σ H Q I h
  refine W.methodCall_KW (pl:=pl) (thn (he ai s σ H _ I h) λu s1 ⟨x,H1,I1,rx,a,C,dx,fs,sp,ex,ea,l,M,q⟩=>?_) ht
  subst ex
  obtain rfl:u=Value.ref a:=rx
  obtain⟨f,fd,ps,hm,F,hb⟩:=M.ex
  refine zfE I1 ea M.cl hm l ?_
  exact W.callWith_K0 (first:=[.ref a]) I1.kIn hm.kp (zlI (us:=[.ref a]) (vs:=[.ref a]) (dvs:=[]) F hr hb .nil hx I1 (.cons rfl .nil) q)
end
structure FunE(K:am)(x qual:Str)(st:Stmt)(f:Addr)(fd:FuncData)(u:Value):Prop where
 ex:∃(oc:Value)(od:aj)(T:Addr)(kV doc pm:Value)(an:aj)(cdv ct:Value)(osl:ap)(o:Obj)(n:Nat),
  fd=W.fnOf x qual (zat st) (zam st) (zac st) (.ref T) kV doc pm an cdv ct/\K.lookup f=some ⟨oc,od,.func fd,osl⟩/\W.codeIn K cdv qual=true/\K.lookup T=some o/\o.data=.seq #[u] n
 kp:W.keepIn K (.ref f)=true
def zrU{K:am}{x qual:Str}{st:Stmt}{f T:Addr}{oc:Value}{od an:aj}{osl:ap}{kV doc pm cdv ct u:Value}{o:Obj}{n:Nat}
    (l:K.lookup f=some ⟨oc,od,.func (W.fnOf x qual (zat st) (zam st) (zac st) (.ref T) kV doc pm an cdv ct),osl⟩) (c:W.codeIn K cdv qual=true) (k:W.keepIn K (.ref f)=true)
    (t:K.lookup T=some o) (d:o.data=.seq #[u] n):FunE K x qual st f (W.fnOf x qual (zat st) (zam st) (zac st) (.ref T) kV doc pm an cdv ct) u:=⟨⟨oc,od,T,kV,doc,pm,an,cdv,ct,osl,o,n,rfl,l,c,t,d⟩,k⟩
def FunE.ok{P:Program}{w:World}{K:am}{mg:af}{bf:Heap}{x qual:Str}{st:Stmt}{f:Addr}{fd:FuncData}{u:Value}{N ps:List Str}{k:Nat}{sp:Sp}(F:FunE K x qual st f fd u)(S:FnScope N ps (zac st))(len:∀vs H Q E,sp vs H Q E->vs.length=ps.length)
    (hbody:∀(cdv:Value)(A:Around)(outer:List Env)(s:Shared)(H:Hp)(vs:List V)(Q:VK)(E:XK),Room k (A.deeper (envOfC qual (zac st) s.heap.objs.size f cdv))->sp vs H Q E->
      ∃t,PSs (cxOf CX0 P w K mg bf N qual (zac st) f cdv A outer s H E).nox (zam st) t/\t { nx:=λ_ H'=>Q .non H',rt:=Q } (zgP N vs) H):FnOk P w K mg bf CX0 (k+1) f fd ps sp:=by
 obtain⟨oc,od,T,kV,doc,pm,an,cdv,ct,osl,o,n,rfl,lk,hcd,_,_⟩:=F.ex
 refine zny lk hcd S len λA outer s H vs Q E hr hsp=>?_
 obtain⟨t,h,q⟩:=hbody cdv A outer s H vs Q E hr hsp
 exact⟨t,h.nox,q⟩
def FunE.binds{K:am}{x qual:Str}{st:Stmt}{f:Addr}{fd:FuncData}{u:Value}{ps:List Str}(F:FunE K x qual st f fd u)
    (h:∀(dV kV doc pm:Value)(an:aj)(cdv ct:Value)(us:ah),us.length=ps.length->∃k:Option (Array Value)->Sem (List (Str × Value)),bindArgs (W.fnOf x qual (zat st) (zam st) (zac st) dV kV doc pm an cdv ct) ⟨us,[]⟩=(seqItems? dV >>= k)/\k (some #[u])=pure (ps.zip us)):zbp K fd ps []:=by
 obtain⟨oc,od,T,kV,doc,pm,an,cdv,ct,osl,o,n,rfl,lk,hcd,t,d⟩:=F.ex
 intro s us KX hl
 obtain⟨k,k1,k2⟩:=h (.ref T) kV doc pm an cdv ct us (by simpa using hl)
 exact rB (T:=T) (o:=o) (items := #[u]) (n:=n) (k:=k) rfl (KX T o t) d k1 (by rw[k2,sM])
def FunE.bindsD{K:am}{x qual:Str}{st:Stmt}{f:Addr}{fd:FuncData}{u:Value}{ps:List Str}(F:FunE K x qual st f fd u)
    (h:∀(dV kV doc pm:Value)(an:aj)(cdv ct:Value)(us:ah),(us++[u]).length=ps.length->∃k:Option (Array Value)->Sem (List (Str × Value)),bindArgs (W.fnOf x qual (zat st) (zam st) (zac st) dV kV doc pm an cdv ct) ⟨us,[]⟩=(seqItems? dV >>= k)/\k (some #[u])=pure (ps.zip (us++[u]))):zbp K fd ps [u]:=by
 obtain⟨oc,od,T,kV,doc,pm,an,cdv,ct,osl,o,n,rfl,lk,hcd,t,d⟩:=F.ex
 intro s us KX hl
 obtain⟨k,k1,k2⟩:=h (.ref T) kV doc pm an cdv ct us hl
 exact rB (T:=T) (o:=o) (items := #[u]) (n:=n) (k:=k) rfl (KX T o t) d k1 k2
def br(K:am)(names:List Str):Sp:=λvs H Q _=>∃(x C dx:Addr)(args:List V),vs=.ref x::args/\H x=some (.ins C dx [])/\Cls K C/\(∀f,f∈names->zak K C f)/\args.length=names.length/\
 ∀H',But x H H'->H' x=some (.ins C dx (names.zip args))->Q .non H'
structure Mak(P:Program)(w:World)(K:am)(mg:af)(bf:Heap)(x:Str)(C:Addr)(k:Nat)(names:List Str)(dv:V):Prop where
 cl:Cls K C
 no:∀f,f∈names->zak K C f
 ex:∃f fd ps u,Mk K C f/\FnOk P w K mg bf CX0 k f fd ps (br K names)/\zbp K fd ps []/\(RelV dv u->zbp K fd ps [u])/\RelV dv u/\mg x=some (.ref C)
def tMak(C:Addr)(names:List Str)(dvs:List V)(t:TA):TE:=λσ H Q=>t σ H λvs H1=>(vs++dvs).length=names.length/\∀a dx H2,Same H1 H2->H1 a=none->H2 a=some (.ins C dx (names.zip (vs++dvs)))->Q (.ref a) H2
section
variable{X:Cx}{k:Nat}{x:Str}{C:Addr}{names:List Str}{dv:V}{p pos:Pos}{e:Expr}{es:List Expr}{t:TA}
def zke{H:Hp}{vs:List V}{Q:VK}(cl:Cls X.K C)(no:∀f,f∈names->zak X.K C f)(l:vs.length=names.length)(q:∀a dx H2,Same H H2->H a=none->H2 a=some (.ins C dx (names.zip vs))->Q (.ref a) H2):
    ∀y dx,H y=none->H dx=none->dx≠y->br X.K names (.ref y::vs) (upd (upd H dx (.own y)) y (.ins C dx [])) (λv H2=>v=.non/\Q (.ref y) H2) E0:=λy dx ny nd ne=>
 ⟨y,C,dx,vs,rfl,zan,cl,no,l,λH' k h=>⟨rfl,q y dx H' (λb o e=>by
   have b1:b≠y:=λz=>by rw[z,ny]at e;cases e
   have b2:b≠dx:=λz=>by rw[z,nd]at e;cases e
   refine k b o b1 ?_
   rw[zau b1,zau b2]
   exact e) ny h⟩⟩
def zop(M:Mak X.prog X.w X.K X.mg X.bf x C k names dv)(hr:Room (k+1) X.A)(hg:Gl X x)(ha:PA X (e::es) t)(hdb:(x==("__debug__" : Str))=false:=by decide)
    (he:starEach (e::es) X.env=(false,eval e X.env)::starEach es X.env:=by rfl) (hpl:(backTo pos (starEach es X.env)).any (·.1)=false:=by rfl):PE X (.Call (.Name x p) (e::es) [] pos) (tMak C names [] t):=by
 obtain⟨f,fd,ps,u,mk,F,b,_,_,m⟩:=M.ex
 with_unfolding_all
  intro ai s σ H Q I h
  refine sO (zhd I hg m ?_ hdb)
  refine qX (h₀:=X.bf) I.ok.mod.kin mk.kp (thn (ha pos ai s σ H _ I h) λus s1 ⟨vs,H1,I1,r,l,q⟩=>⟨I1.kIn,?_⟩) he hpl
  exact zlJ mk F hr b .nil zaD I1 r (zke M.cl M.no l q)
def zjc(M:Mak X.prog X.w X.K X.mg X.bf x C k names dv)(hr:Room (k+1) X.A)(hg:Gl X x)(ha:PA X (e::es) t)(hdb:(x==("__debug__" : Str))=false:=by decide)
    (he:starEach (e::es) X.env=(false,eval e X.env)::starEach es X.env:=by rfl) (hpl:(backTo pos (starEach es X.env)).any (·.1)=false:=by rfl):PE X (.Call (.Name x p) (e::es) [] pos) (tMak C names [dv] t):=by
 obtain⟨f,fd,ps,u,mk,F,_,b,ru,m⟩:=M.ex
 with_unfolding_all
  intro ai s σ H Q I h
  refine sO (zhd I hg m ?_ hdb)
  refine qX (h₀:=X.bf) I.ok.mod.kin mk.kp (thn (ha pos ai s σ H _ I h) λus s1 ⟨vs,H1,I1,r,l,q⟩=>⟨I1.kIn,?_⟩) he hpl
  exact zlJ mk F hr (b ru) (.cons ru .nil) zaD I1 r (zke M.cl M.no l q)
end
structure Own(K:am)(C:Addr):Prop where
 cl:Cls K C
 ha:W.findIn K (.ref C) "__class__" = some (some (.builtin "object.__class__"))
 hn:W.specialIn K (.builtin "object.__class__") "__get__" = some (some (.builtin "getset_descriptor.__get__"))
 htk:W.takesIn K (.builtin "object.__class__")=some true
 hm:W.mroIn K C (.type "object")=some true
def Own.ty{K:am}{C a dx:Addr}{H:Hp}{fs:List (Str × V)}(o:Own K C)(e:H a=some (.ins C dx fs)):TyOf K H (.ref a) (.ref C):=.ins e o.cl o.ha o.hn o.htk o.hm
structure Mfn(K:am)(x qual:Str)(st:Stmt)(ps:List Str)(f:Addr)(fd:FuncData):Prop where
 F:Fun K x qual st f fd
 b:zbp K fd ps []
structure MfnE(K:am)(x qual:Str)(st:Stmt)(ps:List Str)(f:Addr)(fd:FuncData)(u:Value):Prop where
 F:FunE K x qual st f fd u
 b:zbp K fd ps []
 bd:zbp K fd ps [u]
def MfnE.mak{P:Program}{w:World}{K:am}{mg:af}{bf:Heap}{x qual cn:Str}{st:Stmt}{ps names:List Str}{f C:Addr}{fd:FuncData}{u:Value}{k:Nat}{dv:V}
    (D:MfnE K x qual st ps f fd u) (G:FnOk P w K mg bf CX0 k f fd ps (br K names)) (cl:Cls K C) (no:∀f,f∈names->zak K C f) (mk:Mk K C f) (m:mg cn=some (.ref C)) (r:RelV dv u):Mak P w K mg bf cn C k names dv:=
 ⟨cl,no,f,fd,ps,u,mk,G,D.b,λ_=>D.bd,r,m⟩
inductive EFldS(K:am)(f:Str)(y:V)(N:Hp->Prop)(x:V)(H:Hp):Prop
 | mk (a C dx:Addr) (fs:List (Str × V)) (hx:x=.ref a) (h:H a=some (.ins C dx fs)) (c:Cls K C) (n:zak K C f) (l:fs.length<1000) (q:∀H3,But a H H3->H3 a=some (.ins C dx (putF f y fs))->N H3):EFldS K f y N x H
def zum(K:am)(ta tv:TE)(f:Str):TS:=λD σ H=>tv σ H λy H1=>ta σ H1 (EFldS K f y (D.nx σ))
section
variable{X:Cx}{o value:Expr}{f:Str}{pos pos':Pos}{ta tv:TE}
def zaP(ha:PE X o ta)(hv:PE X value tv)(hs:swapsWith value (some (.Attribute o f pos')) pos.line X.env=pure false:=by rfl):PS X (.Assign [.Attribute o f pos'] value pos) (zum X.K ta tv f):=by
 with_unfolding_all
  intro ai s σ H D I h
  refine plainObj_wpAny_Assign_Attribute (thn (hv ai s σ H _ I h) λu s1 ⟨y,H1,I1,ry,q⟩=>thn (ha ai s1 σ H1 _ I1 q) λov s2 ⟨x,H2,I2,rx,a,C,dx,fs,ex,ea,c,n,l,q2⟩=>?_) hs
  subst ex
  obtain rfl:ov=Value.ref a:=rx
  exact ziH I2 ea c n l ry λs3 I3=>⟨σ,_,I3,q2 _ (But.upd a H2 _) zan⟩
end
section
variable{X:Cx}{k:Nat}{ps:List Str}{sp:Sp}{x:Str}{p pos:Pos}
end
section
variable{κ:Type} [DecidableEq κ]
def metK(val:Nat -> κ):Nat->List κ
 | 0=>[]
 | i+1=>if val i∈metK val i then metK val i else metK val i++[val i]
theorem zoq(val:Nat -> κ):∀i,(metK val i).length<=i
 | 0=>tD _
 | i+1=>by
   have ih:=zoq val i
   show(if val i∈metK val i then metK val i else metK val i++[val i]).length<=i+1
   split
   ·omega
   ·rw[tQ]
    show _+1<=i+1
    omega
theorem bu(val:Nat -> κ):∀i k,k∈metK val i↔∃j,j<i/\val j=k
 | 0,k=>⟨λh=>(not_mem_nil h).elim,λ⟨j,h,_⟩=>absurd h (Nat.not_lt_zero j)⟩
 | i+1,k=>by
   have ih:=bu val i
   show k∈(if val i∈metK val i then metK val i else metK val i++[val i])↔_
   constructor
   ·intro h
    split at h
    ·obtain⟨j,a,b⟩:=(ih k).mp h
     exact⟨j,by omega,b⟩
    ·rcases mem_append.mp h with h | h
     ·obtain⟨j,a,b⟩:=(ih k).mp h
      exact⟨j,by omega,b⟩
     ·exact⟨i,ss i,(mem_singleton.mp h).symm⟩
   ·rintro⟨j,a,b⟩
    by_cases e:j=i
    ·subst e
     split
     ·rename_i c
      rw[<-b]
      exact c
     ·exact mem_append.mpr (.inr (by rw[b];exact mem_singleton.mpr rfl))
    ·have m:=(ih k).mpr ⟨j,by omega,b⟩
     split
     ·exact m
     ·exact mem_append.mpr (.inl m)
theorem eV(val:Nat -> κ):∀i,(∀a b,a<i->b<i->val a=val b->a=b)->(metK val i).length=i
 | 0,_=>rfl
 | i+1,h=>by
   have ih:=eV val i λa b x y=>h a b (by omega) (by omega)
   show(if val i∈metK val i then metK val i else metK val i++[val i]).length=i+1
   rw[if_neg λc=>?_,tQ,ih]
   ·rfl
   ·obtain⟨j,a,b⟩:=(bu val i (val i)).mp c
    have:=h j i (by omega) (by omega) b
    omega
abbrev nset(led:Bool):Obj := { cls:=.type "set",dict:=none,data:=.set #[] 0 (.fresh 0 0 led) }
variable{prog:Program}{w:World}{knd:KeyKind prog w κ}
def SetOf.conv{h:Heap}{a:Addr}{S S' : κ->Bool}{n n':Nat}(hS:h.SetOf knd a S n)(e:∀k,S k=S' k)(en:n=n'):h.SetOf knd a S' n':=by
 cases(show S=S' from funext e)
 cases en
 exact hS
theorem zpZ{A:Around}{R:Result->Shared->Prop}{it:Addr}{fp wr:List Addr}{G:Array GenState->Array GenState->Prop}{n:Nat}{P:Nat->Value->Prop}{St:Nat->Shared->Prop}
  (W:WalksS prog w A.in1 it fp wr G n P St) (d:Addr) (hd:d∉fp) (val:Nat -> κ) (hv:∀i v,P i v->knd.is (val i) v=true/\v.scannable=true) (hb:n+1<scanBound):∀(k i:Nat)(s:Shared),n-i=k->i<=n->St i s->
    s.heap.SetOf knd d (λy=>decide (y∈metK val i)) (metK val i).length->
    (∀s',Moved (d::wr) G s s'->s'.heap.SetOf knd d (λy=>decide (y∈metK val n)) (metK val n).length->R (.ok (.ret .none)) s')->
    codeAny (model prog w) A (.builtin "set.update.loop" ⟨[.ref d,.ref it],[]⟩) R s:=by
 have dw:d∉wr:=λz=>hd (W.sub _ z)
 have sb:∀b∈wr,b∈d::wr:=λb z=>tO _ z
 intro k
 induction k with
 | zero=>
   intro i s e1 e2 st hS q
   obtain rfl:i=n:=by omega
   refine qg rW ?_
   rw[rQ sV _]
   refine tw (m:=pyNext (.ref it)) (W.done s _ _ st λs' mv=>?_)
   refine tI (a:=Fin.done (.ret Value.none)) (q s' (mv.mono sb) ?_)
   obtain⟨o,es,ep,t,ho,rest⟩:=hS
   exact⟨o,es,ep,t,mv.heap d _ dw ho,rest⟩
 | succ k ih=>
   intro i s e1 e2 st hS q
   have lt:i<n:=by omega
   refine qg rW ?_
   rw[rQ sV _]
   refine tw (m:=pyNext (.ref it)) (W.item i s _ _ lt st λv s' hp st' mv=>?_)
   obtain⟨hk,hs⟩:=hv i v hp
   have hS':s'.heap.SetOf knd d (λy=>decide (y∈metK val i)) (metK val i).length:=by
    obtain⟨o,es,ep,tb,ho,rest⟩:=hS
    exact⟨o,es,ep,tb,mv.heap d _ dw ho,rest⟩
   refine tw (m:=holding [v] (setAdd d v)) (tZ ?_)
   unfold setAdd
   refine tZ (tw (knd.pyHash (k:=val i) hk ?_))
   have room:(metK val i).length+1<scanBound:=by
    have:=zoq val i
    omega
   refine wpAny_setAddHashed_of (knd:=knd) (s := { s' with toks:=s'.toks+1 }) hk hs hS' room λh' z2 hS2=>?_
   have hS3:h'.SetOf knd d (λy=>decide (y∈metK val (i+1))) (metK val (i+1)).length:=by
    refine SetOf.conv hS2 (λy=>?_) ?_
    ·have:(y∈metK val (i+1))↔(y∈metK val i\/y=val i):=by
      rw[bu,bu]
      constructor
      ·rintro⟨j,a,b⟩
       by_cases c:j=i
       ·exact .inr (by rw[<-b,c])
       ·exact .inl ⟨j,by omega,b⟩
      ·rintro(⟨j,a,b⟩ | c)
       ·exact⟨j,by omega,b⟩
       ·exact⟨i,ss i,c.symm⟩
     rw[<-Bool.decide_or]
     exact decide_eq_decide.mpr this.symm
    ·show _=(if val i∈metK val i then metK val i else metK val i++[val i]).length
     by_cases c:val i∈metK val i
     ·simp[c]
     ·simp[c]
   refine tI ⟨plainId_quiet sV _,ih (i+1) _ (by omega) lt (W.frame _ s' _ _ st' (sj _) λb hb' o e=>?_) hS3 λs'' mv2 hS4=>?_⟩
   ·rw[z2.2 b λz=>hd (by rw[<-z];exact hb')]
    exact e
   ·refine q s'' (Moved.trans W.gtrans ((mv.mono sb).then_heap (sj _) λb o hb' e=>?_) mv2) hS4
    rw[z2.2 b λz=>hb' (by rw[z];exact tP)]
    exact e
theorem zor{A:Around}{E:ac}{s:Shared}{l:Addr}{items:Array Value}{Q:ac}(hh:A.handled=none)(hl:s.heap.IsList l items)(val:Nat -> κ)(hv:∀i v,items[i]?=some v->knd.is (val i) v=true/\v.scannable=true)
  (hb:items.size+1<scanBound) (h:∀(h':Heap)(tk:Nat),h'.SetOf knd s.heap.objs.size (λy=>decide (y∈metK val items.size)) (metK val items.size).length->(∀b o,b<s.heap.objs.size->s.heap.get? b=some o->h'.get? b=some o)->Q (.ref s.heap.objs.size) { s with heap:=h',toks:=tk }):
  wpAny (model prog w) A (call (.type "set") [.ref l]) Q E s:=by
 have cs:=PySem.F.called_set
 obtain⟨c,tl,hmro⟩:=cs.mro
 have hmade:=cs.made
 have hsub:=cs.sub
 refine qK (codeAny_of_tree ?_)
 refine tI (a:=Fin.again _) ⟨Code.quiet_builtin _ (by decide +kernel),qg PySem.F.entry_type_call ?_⟩
 rw[Around.under_plain (weight_type_call_type "set" [.ref l] []) rfl]
 have h1:=cs.notType
 have h2:=cs.canCreate
 have hct:=PySem.F.typeCall_set_1 (.ref l)
 repeat (any_goals (first | assumption | wp_step))
 refine rj (code_set_new_1 (.ref l) (E:=E) (Q₁:=λobj s1=>∃led:Bool,obj=.ref s.heap.objs.size/\s1 = { s with heap:=s.heap.push (nset led) }) λled=>⟨led,rfl,rfl⟩) λr s1 hr=>?_
 match r,hr with
 | .error e,hr=>exact hr
 | .ok (.ret obj),hr=>
   obtain⟨led,rfl,rfl⟩:=hr
   have hS:(s.heap.push (nset led)).get? s.heap.objs.size=some (nset led):=tH _ rfl
   have hT:Shared.TypeIs { s with heap:=s.heap.push (nset led) } (.ref s.heap.objs.size) "set" := ⟨_,hS,rfl⟩
   have hli:=cs.init.lookup
   have hbi:=cs.init.bind (.ref s.heap.objs.size)
   repeat (any_goals (first | assumption | wp_step))
   refine rj (codeAny_call_builtin (R:=wants (λr s2=>r=.none/\∃h' tk,s2 = { s with heap:=h',toks:=tk }/\h'.SetOf knd s.heap.objs.size (λy=>decide (y∈metK val items.size)) (metK val items.size).length/\(∀b o,b<s.heap.objs.size->s.heap.get? b=some o->h'.get? b=some o)) E) cs.init.plain PySem.F.entry_set_init (check_set_init_1 hT ?_)) λr2 s2 hr2=>?_
   ·obtain⟨ol,hol,hcl,nl,hdl⟩:=hl
    obtain⟨ocls,odict,odata,oslots⟩:=ol
    dsimp only at hcl hdl
    subst hcl hdl
    have hol':(s.heap.push (nset led)).get? l=some { cls:=.type "list",dict:=odict,data:=.seq items nl,slots:=oslots }:=tu _ hol
    have hsls:=PySem.F.sub_list_set
    have hslf:=PySem.F.sub_list_frozenset
    have hne:(Value.type "list" == Value.type "dict")=false:=by decide
    have hl1:(s.heap.push (nset led)).IsList l items:=⟨_,hol',rfl,nl,rfl⟩
    unfold Builtin.«set.__init__» noKeywords Builtin.Frozenset.updateFrom
    generalize hPI:pyIter=PI
    wp_walk
    subst hPI
    refine rg hl1 (tw (wpAny_runValue ?_))
    have lS:l<s.heap.objs.size:=tG hol
    have hh3:A.in1.in1.in1.handled=none:=by simp[hh]
    have zz:(s.heap.push (nset led)).objs.size=s.heap.objs.size+1:=qy ..
    refine zpZ (knd:=knd) ((Walks.list hh3 _ l (by rw[zz];exact tJ (qu lS)) items).toS) s.heap.objs.size (by
     rw[zz]
     simp only[mem_cons,not_mem_nil,or_false,not_or]
     exact⟨tJ (ss _),qB lS⟩) val hv hb (items.size-0) 0 _ (by omega) (tU _) ⟨⟨_,tH _ rfl,rfl,rfl⟩,(hl1.push _)⟩ ?S0 ?R0
    case S0=>
     refine SetOf.conv ((setObjOf_fresh (knd:=knd) led).setOf (tu _ hS) (by unfold scanBound;omega)) (λy=>?_) rfl
     exact(tL λz=>not_mem_nil z).symm
    case R0=>
     intro s' hm hS'
     obtain⟨h',g',d',tk',os'⟩:=s'
     cases(show g'=s.gens from hm.gens)
     cases(show d'=s.drawn from hm.drawn)
     cases(show os'=s.os from hm.os)
     refine tI (tI (a:=Fin.done (.ret Value.none)) ⟨rfl,h',tk',rfl,hS',λb o hb e=>?_⟩)
     refine hm.heap b o ?_ (tu _ (tu _ e))
     rw[zz]
     simp only[mem_cons,not_mem_nil,or_false,not_or]
     exact⟨tJ hb,tJ (qu hb)⟩
   ·match r2,hr2 with
    | .error e,hr2=>exact hr2
    | .ok (.ret r),hr2=>
      obtain⟨rfl,h',tk,rfl,hS',hk'⟩:=hr2
      repeat (any_goals (first | assumption | wp_step))
      exact h _ _ hS' hk'
end
def ztl:bootBuiltins "set" = some (.type "set"):=by decide +kernel
def zun(K:am)(ta:TA):TE:=λσ H Q=>ta σ H λvs H1=>∃(l:Addr)(zs:List Str),vs=[.ref l]/\SqL K H1 l (zs.map V.str)/\zs.length<=100/\Q (.int (metK (λi=>zs.getD i Str.empty) zs.length).length) H1
section
variable{X:Cx}{a:Expr}{ta:TA}{p p2 pos pos2:Pos}
def zos(hc:X.calm=true)(hgl:Gl X "len")(hml:X.mg "len" = none)(hg:Gl X "set")(hm:X.mg "set" = none)(ha:PA X [a] ta)
    (hs:starEach [a] X.env=[(false,eval a X.env)]:=by rfl)
    (hs2:starEach [Expr.Call (.Name "set" p2) [a] [] pos2] X.env=[(false,eval (.Call (.Name "set" p2) [a] [] pos2) X.env)]:=by rfl):
    PE X (.Call (.Name "len" p) [.Call (.Name "set" p2) [a] [] pos2] [] pos) (zun X.K ta):=by
 with_unfolding_all
  intro ai s σ H Q I h
  refine Call_ (zgG I hgl hml boot_len (qD ?_ hs2 rfl))
  rw[hs2]
  refine rG ?_
  refine Call_ (zgG I hg hm ztl (sX (thn (ha pos2 ai s σ H _ I h) λus s1 ⟨vs,H1,I1,r1,q1⟩=>?_) hs rfl))
  obtain⟨l,zs,rfl,hq,hz,q⟩:=q1
  obtain⟨u,rfl,ru⟩:=zdR r1
  cases(show u=Value.ref l from ru)
  obtain⟨its,rv,pl,_⟩:=I1.list hq
  have ln:its.length=zs.length:=by
   have:=rv.length
   rw[tq]at this
   exact this.symm
  have sb:(102:Nat)<scanBound:=by decide
  refine zor (knd:=strKind X.prog X.w) (I1.ok.hd hc) pl.isList (λi=>zs.getD i Str.empty) (λi v hi=>?_) (by rw[size_toArray];omega) λh' tk hS kp=>?_
  ·have hi':its[i]?=some v:=by simpa using hi
   have hlt:i<zs.length:=by
    have:=(List.getElem?_eq_some_iff.mp hi').1
    omega
   have ez:zs[i]?=some zs[i]:=tm hlt
   have:=zfO rv (show(zs.map V.str)[i]?=some (V.str zs[i]) by rw[getElem?_map,ez];rfl) hi'
   obtain⟨t,rfl⟩:=this
   have eg:zs.getD i Str.empty=zs[i]:=by rw[tK,ez];rfl
   rw[eg]
   exact⟨strKind_is _ _ _ _,rfl⟩
  refine qt ?_
  have I2:Inv X ai σ H1 { s1 with heap:=h',toks:=tk }:=I1.kept λb o e=>kp b o (tG e) e
  obtain⟨o,es,ep,t,ho,hex,hd,rest⟩:=hS
  have hf':=rest.2.2.2.1
  have en:es.size=(metK (λi=>zs.getD i Str.empty) zs.length).length:=by
   have e:=rest.2.2.2.2
   rw[show its.toArray.size=zs.length by rw[size_toArray,ln]]at e
   exact e
  have h63:(es.size:Int)<2 ^ 63:=by
   have hb:=rest.2.2.1
   have:scanBound<=1000000000:=by decide
   omega
  refine call_len_set (a:=s1.heap.objs.size) ho hex hd hf' h63 ⟨.int _,H1,I2.tok _,⟨_,by rw[en]⟩,q⟩
end
def eW(CX:CXT)(X:Cx)(E:XK)(σ:St):Prop:=∀(ai:ae)(H:Hp)(s:Shared)(e:Value)(s':Shared),Inv X ai σ H s->CX X.stack H s E e s'->X.xe e s'
def zdS.at{CX:CXT}{X:Cx}{E:XK}(h:zdS CX X E)(σ:St):eW CX X E σ:=λai H s e s' I c=>h ai σ H s e s' I c
section
variable{X:Cx}{CX:CXT}{k:Nat}{f C:Addr}{fd:FuncData}{ps:List Str}{sp spi:Sp}{E:XK}{x m:Str}{p pos apos:Pos}{e o:Expr}{es:List Expr}{ta:TE}{t:TA}
theorem zot{ai:ae}{σ:St}{H:Hp}{s:Shared}{Q:VK}{us:ah}{vs:List V}(M:Mk X.K C f)(F:FnOk X.prog X.w X.K X.mg X.bf CX k f fd ps sp)(hr:Room (k+1) X.A)(hb:zbp X.K fd ps [])
  (hx:eW CX X E σ) (I:Inv X ai σ H s) (r:Vals vs us)
  (h:∀x dx,H x=none->H dx=none->dx≠x->sp (.ref x::vs) (upd (upd H dx (.own x)) x (.ins C dx [])) (λv H2=>v=.non/\Q (.ref x) H2) E):
  wpAny (model X.prog X.w) X.A (call (.ref C) us) (EP X ai σ Q) X.xe s:=by
 have hq:=h (s.heap.objs.size+1) s.heap.objs.size (I.hok.fresh (sj _)) (I.hok.fresh (tD _)) (tJ (ss _))
 have I2:=Inv.made (C:=C) I
 have r2:Vals (V.ref (s.heap.objs.size+1)::vs) (Value.ref (s.heap.objs.size+1)::us):=.cons rfl r
 have hl:(Value.ref (s.heap.objs.size+1)::us++[]).length=ps.length:=by
  have e:=r2.length
  rw[F.len _ _ _ _ hq]at e
  rw[sM]
  exact e.symm
 have hbb:=hb _ (Value.ref (s.heap.objs.size+1)::us) I2.kIn hl
 rw[sM]at hbb
 refine qK (zlH (f:=f) I.kIn M.makes M.init (beq_iff_eq.mp M.fn) (rj (F.run _ X.stack _ _ ⟨Value.ref (s.heap.objs.size+1)::us,[]⟩ (Value.ref (s.heap.objs.size+1)::us) _ _ E (hr.make C us [])
  (I2.env0.make C us []) hbb r2 hq) λr s' hq'=>?_))
 match r,hq' with
 | .error e,hq'=>exact hx ai _ _ e s' I2 hq'
 | .ok (.ret u),hq'=>
   obtain⟨v,H',I3,rv,ev,q3⟩:=I2.after hq'
   subst ev
   exact⟨rv,⟨V.ref (s.heap.objs.size+1),H',I3,rfl,q3⟩⟩
structure MakG(CX:CXT)(P:Program)(w:World)(K:am)(mg:af)(bf:Heap)(x:Str)(C:Addr)(k:Nat)(sp:Sp):Prop where
 ex:∃f fd ps spi,Mk K C f/\FnOk P w K mg bf CX k f fd ps spi/\zbp K fd ps []/\mg x=some (.ref C)/\
  ∀vs H Q E,sp vs H Q E->∀y dx,H y=none->H dx=none->dx≠y->spi (.ref y::vs) (upd (upd H dx (.own y)) y (.ins C dx [])) (λv H2=>v=.non/\Q (.ref y) H2) E
def zuo(sp:Sp)(E:XK)(t:TA):TE:=λσ H Q=>t σ H λvs H1=>sp vs H1 Q E
def zfR(M:MakG CX X.prog X.w X.K X.mg X.bf x C k sp)(hr:Room (k+1) X.A)(hg:Gl X x)(hx:zdS CX X E)(ha:PA X (e::es) t)(hdb:(x==("__debug__" : Str))=false:=by decide)
    (he:starEach (e::es) X.env=(false,eval e X.env)::starEach es X.env:=by rfl) (hpl:(backTo pos (starEach es X.env)).any (·.1)=false:=by rfl):PE X (.Call (.Name x p) (e::es) [] pos) (zuo sp E t):=by
 obtain⟨f,fd,ps,spi,mk,F,b,m,im⟩:=M.ex
 with_unfolding_all
  intro ai s σ H Q I h
  refine sO (zhd I hg m ?_ hdb)
  refine qX (h₀:=X.bf) I.ok.mod.kin mk.kp (thn (ha pos ai s σ H _ I h) λus s1 ⟨vs,H1,I1,r,q⟩=>⟨I1.kIn,?_⟩) he hpl
  exact zot mk F hr b (hx.at σ) I1 r (im _ _ _ _ q)
end
section
variable{X:Cx}{CX:CXT}{k:Nat}{E:XK}{m:Str}{pos apos:Pos}{e o:Expr}{es:List Expr}{ta:TE}{t:TA}
def zjd{P:Program}{w:World}{K:am}{mg:af}{bf:Heap}{pl:Sem Bool}(h1:X.prog=P)(h2:X.w=w)(h3:X.K=K)(h4:X.mg=mg)(h5:X.bf=bf)(he:PE X o ta)(hr:Room k X.A)(hx:zdS CX X E)
    (ht:eval (.Call (.Attribute o m apos) [] [] pos) X.env=(do
      let ov <-eval o X.env
      standAt apos.atName
      let (f,first) <-holding [ov] (getMethod ov m pl)
      callWith pos f first (backTo pos (starEach [] X.env)) (backToKw pos (keywordEach [] X.env))):=by rfl):
    PE X (.Call (.Attribute o m apos) [] [] pos) (tMth P w K mg bf CX k m E ta tNil):=by
 subst h1 h2 h3 h4 h5
 exact zaI he hr hx ht
def aD{K:am}{f:Str}(h3:X.K=K)(he:PE X o ta)(hb:attributeBase o f X.env (eval o X.env)=eval o X.env):PE X (.Attribute o f pos) (tFld K ta f):=by
 subst h3
 exact zai he hb
end
open PySem.SeqAt in
def fE{A:Around}{s:Shared}{d:Addr}{es:Array DictEntry}{ep:Nat}{dd:aj}{sl:ap}(b:Str)(u:Tok)(ho:s.heap.get? d=some { cls:=.type "dict",dict:=dd,data:=.dict es ep,slots:=sl })(hu:A.units<cLine):RcAt A s (.str b u) (.ref d) false:=λprog w E Q h=>by
 have m1:Meets (Builtin.«str.__eq__» ⟨[.str b u,.ref d],[]⟩) (λ_ R s=>s.heap.get? d=some { cls:=.type "dict",dict:=dd,data:=.dict es ep,slots:=sl }/\R (.ok (.ret .notImplemented)) s):=
  .of_wp λprog w A R s h=>by
   obtain⟨hp,g,d',tk,os⟩:=s
   obtain⟨hl,h⟩:=h
   wp_walk using AutoSeq1.wpAny_loadPart' hl,wpAny_load hl
   exact⟨_,rfl,h⟩
 have f1:isSubtype (.type "str") (.type "dict")=pure false:=by rw[isSubtype_type];kernel_rfl
 have f2:isSubtype (.type "dict") (.type "str")=pure false:=by rw[isSubtype_type];kernel_rfl
 have m2:Meets (Builtin.«dict.__eq__» ⟨[.ref d,.str b u],[]⟩) (λ_ R s=>s.heap.get? d=some { cls:=.type "dict",dict:=dd,data:=.dict es ep,slots:=sl }/\R (.ok (.ret .notImplemented)) s):=
  .of_wp λprog w A R s h=>by
   obtain⟨hp,g,d',tk,os⟩:=s
   obtain⟨hl,h⟩:=h
   wp_walk using AutoSeq1.wpAny_loadPart' hl,wpAny_load hl
   exact⟨_,rfl,h⟩
 exact rc_eq_decline_or (k:=false) (pL s b u) ⟨_,ho,rfl⟩ (by decide) f2 PySem.F.slot_str_eq PySem.F.slot_dict_eq_refl
  (λ_ hq=>call_meets PySem.F.slot_str_eq (pL s b u) PySem.F.entry_str_eq (PySem.F.args_str_eq_2 _ _) m1 ⟨ho,hq⟩)
  (λ_ hq=>call_meets PySem.F.slot_dict_eq_refl ⟨_,ho,rfl⟩ PySem.F.entry_dict_eq (PySem.F.args_dict_eq_2 _ _) m2 ⟨ho,hq⟩)
  (λ_ hq=>wpAny_of_eq (rfl:isSame (.str b u) (.ref d)=pure false) hq) (.inr hu) h
def rEqS:R2:=λx y H Q=>∃z,x=.str z/\((∃z',y=.str z'/\Q (.bl (decide (z=z'))) H)\/(y=.non/\Q (.bl false) H)\/(∃b,y=.bl b/\Q (.bl false) H)\/(∃i,y=.int i/\Q (.bl false) H) \/
 ∃p o,y=.ref p/\H p=some o/\((∃xs,o=.tup xs)\/(∃xs,o=.lst xs)\/∃kvs,o=.dK kvs)/\Q (.bl false) H)
def ztm{X:Cx}(hu:X.A.units<cLine):OpR X (compareOp .Eq) rEqS:=by
 intro ai s σ H x y v u Q I rx ry h
 obtain⟨z,rfl,h⟩:=h
 obtain⟨t,rfl⟩:=rx
 rcases h with⟨z',rfl,q⟩ | ⟨rfl,q⟩ | ⟨b,rfl,q⟩ | ⟨i,rfl,q⟩ | ⟨p,o,rfl,ho,hk,q⟩
 ·exact zdk ai s σ H (.str z) (.str z') _ u Q I ⟨t,rfl⟩ ry ⟨rfl,by
   have:decide (V.str z=V.str z')=decide (z=z'):=by simp
   rw[this]
   exact q⟩
 ·cases(show u=Value.none from ry)
  exact SeqAt.RcAt.str_none z t X.prog X.w X.xe _ ⟨.bl false,H,I,rfl,q⟩
 ·cases(show u=Value.bool b from ry)
  exact SeqAt.RcAt.str_bool z t b X.prog X.w X.xe _ ⟨.bl false,H,I,rfl,q⟩
 ·obtain⟨t',rfl⟩:=ry
  exact SeqAt.RcAt.str_int z t i t' X.prog X.w X.xe _ ⟨.bl false,H,I,rfl,q⟩
 ·cases(show u=Value.ref p from ry)
  rcases hk with⟨xs,rfl⟩ | ⟨xs,rfl⟩ | ⟨kvs,rfl⟩
  ·obtain⟨_,its,_,pl⟩:=(show zbw X.prog X.w H s.heap p (.tup xs)from I.hok p _ ho)
   exact SeqAt.RcAt.str_tuple z t pl hu X.prog X.w X.xe _ ⟨.bl false,H,I,rfl,q⟩
  ·obtain⟨_,its,n,_,g⟩:=(show zbw X.prog X.w H s.heap p (.lst xs)from I.hok p _ ho)
   exact SeqAt.RcAt.str_list z t ⟨_,g,rfl,n,rfl⟩ hu X.prog X.w X.xe _ ⟨.bl false,H,I,rfl,q⟩
  ·obtain⟨_,_,vs,_,ob,es,ep,e,⟨c1,c2,c3⟩,hd,_⟩:=(show zbw X.prog X.w H s.heap p (.dK kvs)from I.hok p _ ho)
   obtain⟨cls,dd,data,sl⟩:=ob
   dsimp only at c1 hd
   subst c1 hd
   exact fE z t e hu X.prog X.w X.xe _ ⟨.bl false,H,I,rfl,q⟩
def zou:(Str.ofString "").cps = #[]:=by decide +kernel
theorem ziU:∀(cs:List Nat)(a:Array Nat),(cs.map λc=>(⟨#[c]⟩:Str)).foldl (λacc p=>acc++(Str.ofString "").cps++p.cps) a=a++cs.toArray
 | [],a=>by simp
 | c::cs,a=>by
   rw[sf,List.foldl_cons,ziU cs,zou]
   apply Array.ext'
   simp
theorem zmP(cs:List Nat):Txt.join (Str.ofString "") (cs.map λc=>(⟨#[c]⟩:Str))=⟨cs.toArray⟩:=by
 show Builtin.Str.glued (Str.ofString "") (cs.map λc=>(⟨#[c]⟩:Str))=_
 unfold Builtin.Str.glued
 cases cs with
 | nil=>rfl
 | cons c cs=>
   rw[sf,List.drop_succ_cons,drop_zero,ziU]
   show(⟨#[c]++cs.toArray⟩:Str)=⟨(c::cs).toArray⟩
   congr 1
   apply Array.ext'
   simp
def zup(K:am):V->List V->Hp->VK->Prop:=λv xs H Q=>∃(l:Addr)(cs:List Nat),v=.str (Str.ofString "")/\xs=[.ref l]/\SqL K H l (cs.map λc=>V.str ⟨#[c]⟩)/\cs.length<=100/\Q (.str ⟨cs.toArray⟩) H
theorem zrV{X:Cx}:MtR X "str.join" (zup X.K):=by
 intro ai s σ H v xs u us Q I rx rv h
 obtain⟨l,cs,rfl,rfl,hq,hl,q⟩:=h
 obtain⟨t,rfl⟩:=rx
 obtain⟨u1,rfl,ru⟩:=zdR rv
 cases(show u1=Value.ref l from ru)
 obtain⟨its,r,pl,_⟩:=I.list hq
 have tks:∀{cs:List Nat}{its:ah},Vals (cs.map λc=>V.str ⟨#[c]⟩) its->∃ps:List (Str × Tok),its=strValues ps/\ps.map (·.1)=cs.map λc=>(⟨#[c]⟩:Str):=by
  intro cs
  induction cs with
  | nil=>
    intro its h
    cases h
    exact⟨[],rfl,rfl⟩
  | cons c cs ih=>
    intro its h
    cases h with
    | cons h1 h2=>
      obtain⟨t,rfl⟩:=h1
      obtain⟨ps,e1,e2⟩:=ih h2
      exact⟨(⟨#[c]⟩,t)::ps,by rw[e1];rfl,by rw[sf,sf,e2]⟩
 obtain⟨ps,e1,e2⟩:=tks r
 subst e1
 refine SC.join pl.isList e2 ?_ λt' k=>⟨.str _,H,I.tok k,⟨t',rfl⟩,by rw[zmP];exact q⟩
 unfold JoinOk
 have e0:(Str.ofString "").length=0:=by decide +kernel
 have:=StrLaws.joinFits (sep:=Str.ofString "") (texts:=cs.map λc=>(⟨#[c]⟩:Str)) (B:=1) (λy hy=>by
  obtain⟨c,_,rfl⟩:=mem_map.mp hy
  exact tD _) (by rw[tq,e0];omega)
 rw[this]
 rfl
end L2
namespace PySem
section
variable{M:Model}{A:Around}{E:ac}{s:Shared}
end
end PySem
namespace L2
open PySem PySem.Spec PyProof.Rows
structure FliesA(h:Heap)(H:Hp)(low:Nat)(a C T:Addr)(dx:aj)(vs:Array Value):Prop where
 at_:H a=some (XcO a C dx vs)
 tr:vs[1]?=some (.ref T)
 new:low<=T
 free:H T=none
 ne:T≠a
 dict:∀y,dx=some y->∃fs,H y=some (.xd fs)
 recd:∃oT ts fl,h.get? T=some oT/\oT.data=.fields ts/\ts[3]?=some fl
section
variable{X:Cx}{ai:ae}{σ:St}{H:Hp}{s:Shared}{a C T:Addr}{dx:aj}{vs:Array Value}
end
section
variable{P:Program}{w:World}{K:am}{mg:af}{bf:Heap}{N:List Str}{qual:Str}{scope:Scope}{f:Addr}{cd:Value}{A:Around}{outer:List Env}{s₀:Shared}{H₀:Hp}{E:XK}
end
structure LamD(X:Cx)(H:Hp)(q nm:Str)(ar:Arguments)(body:List Stmt)(scope:Scope)(f:Addr)(cl:List (Str × Addr)):Prop where
 ex:∃doc pm c ct oc us t o,H f=some (.frz o (.own f))/\o.data=.func (W.fnX nm q ar body scope cl .none .none doc pm none (.ref c) ct)/\H c=some (.frz oc (.own c))/\oc.data=.fields us/\us[1]?=some (.str q t)
 c1:∀x c,cl.lookup x=some c->X.env.cells.lookup x=some c
 c2:∀x,(x,NameKind.free)∈scope.names->∃c,cl.lookup x=some c
 c3:∀x c,cl.lookup x=some c->(x,NameKind.free)∈scope.names
section
variable{X:Cx}{ai:ae}{σ:St}{H:Hp}{s:Shared}
end
structure CloD(H:Hp)(q nm:Str)(ar:Arguments)(body:List Stmt)(scope:Scope)(f:Addr)(cl:List (Str × Addr))(N:List Str)(cs:List Cel):Prop where
 ex:∃doc pm c ct oc us t o,H f=some (.frz o (.own f))/\o.data=.func (W.fnX nm q ar body scope cl .none .none doc pm none (.ref c) ct)/\H c=some (.frz oc (.own c))/\oc.data=.fields us/\us[1]?=some (.str q t)
 inj:∀y z c,cl.lookup y=some c->cl.lookup z=some c->y=z
 has:∀x,(x,NameKind.free)∈scope.names->∃c,cl.lookup x=some c
 cov:∀x c,cl.lookup x=some c->∃p,p∈cs/\p.1=c
 len:N.length=cs.length+1
 cap:∀(k:Nat)(p:Cel)(y:Str),N[k+1]?=some y->cs[k]?=some p->cl.lookup y=some p.1/\(y,NameKind.free)∈scope.names
 cel:∀p,p∈cs->H p.1=some (ztj p)/\CellOk p
 nd:(cs.map (·.1)).Nodup
structure CalD1(P:Program)(w:World)(K:am)(mg:af)(bf:Heap)(x:Str)(k:Nat)(ps:List Str)(sp:Sp):Prop where
 ex:∃f fd,FnOk P w K mg bf (CX1 P w) k f fd ps sp/\zbp K fd ps []/\zbp K fd ps [.none]/\mg x=some (.ref f)/\W.keepIn K (.ref f)=true
end L2
namespace L2
open PySem PySem.Spec PyProof.Rows PySem.W
end L2
namespace L2
open PySem PySem.Spec PyProof.Rows PySem.W
structure Odr(prog:Program)(w:World)(A:Around)(E:ac)(s:Shared)(k0:SortKind)(G:Keyed->Prop)(L:Keyed->Keyed->Bool):Prop where
 ask:∀(x y:Keyed)(st:SortSt)(Q:Option Bool->SortSt->Prop),G x->G y->kindOf st=k0->Q (some (L x y)) st->wpS (model prog w) A E s (lt' x y) Q st
 tr:∀x y z,G x->G y->G z->L x y=true->L y z=true->L x z=true
 as:∀x y,G x->G y->L x y=true->L y x=false
section
variable{prog:Program}{w:World}{A:Around}{E:ac}{s:Shared}{k0:SortKind}{G:Keyed->Prop}{L:Keyed->Keyed->Bool}
end
end L2
namespace L2
open PySem PySem.Spec PyProof.Rows PySem.W
section
variable{prog:Program}{w:World}{A:Around}{E:ac}{s:Shared}{k0:SortKind}{G:Keyed->Prop}{L:Keyed->Keyed->Bool}
def Inc(L:Keyed->Keyed->Bool)(l:List Keyed):Prop:=l.Pairwise λx y=>L x y=true
structure Two(G:Keyed->Prop)(L:Keyed->Keyed->Bool)(xs ys:List Keyed):Prop where
 gx:∀x,x∈xs->G x
 gy:∀y,y∈ys->G y
 ix:Inc L xs
 iy:Inc L ys
 tot:∀x y,x∈xs->y∈ys->L x y=true\/L y x=true
 tr:∀x y z,G x->G y->G z->L x y=true->L y z=true->L x z=true
 as:∀x y,G x->G y->L x y=true->L y x=false
structure Mrg(L:Keyed->Keyed->Bool)(xs ys out:List Keyed)(i j:Nat):Prop where
 inc:Inc L out
 pm:out.Perm (xs.take i++ys.take j)
 lo:∀o z,o∈out->(z∈xs.drop i\/z∈ys.drop j)->L o z=true
end
end L2
namespace L2
open PySem PySem.Spec PyProof.Rows PySem.W
section
variable{prog:Program}{w:World}{A:Around}{E:ac}{s:Shared}{k0:SortKind}{G:Keyed->Prop}{L:Keyed->Keyed->Bool}
end
end L2
namespace L2
open PySem PySem.Spec PyProof.Rows PySem.W
section
variable{prog:Program}{w:World}{A:Around}{E:ac}{s:Shared}{k0:SortKind}{G:Keyed->Prop}{L:Keyed->Keyed->Bool}
structure Hrg(L:Keyed->Keyed->Bool)(xs ys R:List Keyed)(i j:Nat):Prop where
 inc:Inc L R
 pm:R.Perm (xs.drop i++ys.drop j)
 hi:∀o z,o∈R->(z∈xs.take i\/z∈ys.take j)->L z o=true
end
end L2
namespace L2
open PySem PySem.Spec PyProof.Rows PySem.W
section
variable{prog:Program}{w:World}{A:Around}{E:ac}{s:Shared}{k0:SortKind}{G:Keyed->Prop}{L:Keyed->Keyed->Bool}
structure Whl(G:Keyed->Prop)(L:Keyed->Keyed->Bool)(l0 l:List Keyed):Prop where
 g:∀x,x∈l->G x
 d:l.Pairwise λx y=>L x y=true\/L y x=true
 pm:l.Perm l0
end
end L2
namespace L2
open PySem PySem.Spec PyProof.Rows PySem.W
section
variable{prog:Program}{w:World}{A:Around}{E:ac}{s:Shared}{k0:SortKind}{G:Keyed->Prop}{L:Keyed->Keyed->Bool}
end
end L2
namespace L2
open PySem PySem.Spec PyProof.Rows PySem.W
section
variable{prog:Program}{w:World}{A:Around}{E:ac}{s:Shared}{k0:SortKind}{G:Keyed->Prop}{L:Keyed->Keyed->Bool}
end
end L2
namespace L2
open PySem PySem.Spec PyProof.Rows PySem.W
section
variable{prog:Program}{w:World}{A:Around}{E:ac}{s:Shared}{k0:SortKind}{G:Keyed->Prop}{L:Keyed->Keyed->Bool}
end
end L2
namespace L2
open PySem PySem.Spec PyProof.Rows PySem.W
section
variable{prog:Program}{w:World}{A:Around}{E:ac}{s:Shared}
end
end L2
namespace L2
open PySem PySem.Spec PyProof.Rows PySem.W
section
variable{X:Cx}
end
end L2
namespace L2
open PySem PySem.Spec PyProof.Rows
def zrW{κ:Type} [DecidableEq κ] (kvs:List (κ × V)) (k : κ) (v:V):(putK kvs k v).length<=kvs.length+1:=by
 unfold putK
 split
 ·rw[tq]
  omega
 ·rw[tQ]
  exact tD _
structure TOk(b:Bool)(t:SetTable):Prop where
 ri:t.place.toList.Pairwise (· < ·)
 du:t.dummies = #[]
 le:t.led=b
section
variable{prog:Program}{w:World}{A:Around}{E:ac}{s:Shared}
end
section
variable{prog:Program}{w:World}{A:Around}{R:Result->Shared->Prop}{I:Addr}{fp wr:List Addr}{G:Array GenState->Array GenState->Prop}{n:Nat}{P:Nat->Value->Prop}{St:Nat->Shared->Prop}
end
section
variable{prog:Program}{w:World}{A:Around}{E:ac}{s:Shared}
end
section
variable{prog:Program}{w:World}{A:Around}{E:ac}{s:Shared}
end
end L2
namespace L2
open PySem PySem.Spec PyProof.Rows PySem.W
end L2
namespace L2
open PySem PySem.Spec PyProof.Rows
section
variable{prog:Program}{w:World}{A:Around}{E:ac}{s:Shared}
end
section
variable{prog:Program}{w:World}{A:Around}{E:ac}{s:Shared}
structure SetWk(prog:Program)(w:World)(s s1:Shared)(a I:Addr)(fp:List Addr)(n:Nat)(vs:ah)(St:Nat->Heap->Prop):Prop where
 wk:∀A':Around,A'.handled=none->Walks prog w A' I fp [I] n (λi v=>vs[i]?=some v) St
 at0:St 0 s1.heap
 lt:∀b∈fp,b<s1.heap.objs.size
 inI:I∈fp
 kp:∀b o,s.heap.get? b=some o->s1.heap.get? b=some o
 ge:∀b∈fp,b=a\/s.heap.objs.size<=b
 sm:s1 = { s with heap:=s1.heap,drawn:=s1.drawn }
 gI:s.heap.objs.size<=I
end
section
variable{prog:Program}{w:World}{A:Around}{E:ac}{s:Shared}
end
section
variable{X:Cx}{e:Expr}{te:TE}{p p2 pos pos2:Pos}
end
section
variable{X:Cx}{a b:Expr}{rest:List Expr}{pos:Pos}{ta tb:TE}
end
def itG{α β:Type}(xs:List α)(g : α -> β)(d : β)(i:Nat) : β:=match xs[i]? with
 | some x=>g x
 | none=>d
theorem zfS{α β:Type}(P : α->Bool)(g : α -> β)(d : β):∀xs:List α,((List.range xs.length).filter (tak xs P)).map (itG xs g d)=(xs.filter P).map g
 | []=>rfl
 | x::xs=>by
   rw[length_cons,sW,sQ,sP]
   have e1:(tak (x::xs) P ∘ Nat.succ)=tak xs P:=rfl
   have e2:∀l:List Nat,(l.map Nat.succ).map (itG (x::xs) g d)=l.map (itG xs g d):=λl=>by
    rw[tW]
    rfl
   rw[e1,sQ]
   have e3:tak (x::xs) P 0=P x:=rfl
   rw[e3]
   cases P x with
   | true=>
     rw[if_pos rfl,if_pos rfl,sf,sf,e2,zfS P g d xs]
     rfl
   | false=>
     rw[if_neg tE,if_neg tE,e2,zfS P g d xs]
def Tups(H H':Hp):Prop:=∀b xs,H b=some (.tup xs)->H' b=some (.tup xs)
def Same.tups{H H':Hp}(s:Same H H'):Tups H H':=λb xs e=>s b _ e
def zje{α:Type}{K:PySem.W.Frag}{a:Addr}{xs:List V}{js:List Nat}{tc:TT}{te:TE}{σ:St}{H1:Hp}{Q:VK}(p:Nat->Bool)(f:Nat -> α)(W:Hp->Addr -> α->Prop)(mono:∀H H' u c,Tups H H'->W H u c->W H' u c)(hl:SqL K H1 a xs)
    (ht:∀i x Hh (Q':Bool->Hp->Prop),xs[i]?=some x->Same H1 Hh->(∀Hh',Same Hh Hh'->Q' (p i) Hh')->tc (some x::caps σ js) Hh Q')
    (he:∀i x Hh (Q':VK),xs[i]?=some x->p i=true->Same H1 Hh->(∀b Hh',Same Hh Hh'->W Hh' b (f i)->Q' (.ref b) Hh')->te (some x::caps σ js) Hh Q')
    (hz:xs.length<sizeLine) (q:∀D H2 (bs:List (Addr × α)),Same H1 H2->H1 D=none->H2 D=some (.lst (bs.map λb=>V.ref b.1))->bs.map (·.2)=((List.range xs.length).filter p).map f->(∀b,b∈bs->W H2 b.1 b.2)->Q (.ref D) H2):
    zep (Itl K a) js tc te σ H1 Q:=
 zhz p f W (λH H' u c t h=>mono H H' u c (λa xs e=>t _ _ (λ_ z=>by cases z) e) h) hl ht he hz q
def zmQ{X:Cx}{K:am}(hK:X.K=K)(hu:X.A.units<cLine):OpR X (compareOp .Eq) (rEqT K):=hK▸znK hu
structure Twin(c d:Cl):Prop where
 wt:c.wt=d.wt
 wb:c.wb=d.wb
 st:c.st=d.st
 sb:c.sb=d.sb
def eX{L:ak}{n w:Int}(h:valI L n=some w):n∈L.map (·.1):=by
 unfold valI at h
 rw[Option.map_eq_some_iff]at h
 obtain⟨q,hq,_⟩:=h
 have:=List.find?_some hq
 exact mem_map.mpr ⟨q,rT hq,by simpa using this⟩
structure FunE2(K:am)(x qual:Str)(st:Stmt)(f:Addr)(fd:FuncData)(u1 u2:Value):Prop where
 ex:∃(oc:Value)(od:aj)(T:Addr)(kV doc pm:Value)(an:aj)(cdv ct:Value)(osl:ap)(o:Obj)(n:Nat),
  fd=W.fnOf x qual (zat st) (zam st) (zac st) (.ref T) kV doc pm an cdv ct/\K.lookup f=some ⟨oc,od,.func fd,osl⟩/\W.codeIn K cdv qual=true/\K.lookup T=some o/\o.data=.seq #[u1,u2] n
 kp:W.keepIn K (.ref f)=true
def zqa{K:am}{x qual:Str}{st:Stmt}{f T:Addr}{oc:Value}{od an:aj}{osl:ap}{kV doc pm cdv ct u1 u2:Value}{o:Obj}{n:Nat}
    (l:K.lookup f=some ⟨oc,od,.func (W.fnOf x qual (zat st) (zam st) (zac st) (.ref T) kV doc pm an cdv ct),osl⟩) (c:W.codeIn K cdv qual=true) (k:W.keepIn K (.ref f)=true)
    (t:K.lookup T=some o) (d:o.data=.seq #[u1,u2] n):FunE2 K x qual st f (W.fnOf x qual (zat st) (zam st) (zac st) (.ref T) kV doc pm an cdv ct) u1 u2:=⟨⟨oc,od,T,kV,doc,pm,an,cdv,ct,osl,o,n,rfl,l,c,t,d⟩,k⟩
def FunE2.ok{P:Program}{w:World}{K:am}{mg:af}{bf:Heap}{x qual:Str}{st:Stmt}{f:Addr}{fd:FuncData}{u1 u2:Value}{N ps:List Str}{k:Nat}{sp:Sp}(F:FunE2 K x qual st f fd u1 u2)(S:FnScope N ps (zac st))(len:∀vs H Q E,sp vs H Q E->vs.length=ps.length)
    (hbody:∀(cdv:Value)(A:Around)(outer:List Env)(s:Shared)(H:Hp)(vs:List V)(Q:VK)(E:XK),Room k (A.deeper (envOfC qual (zac st) s.heap.objs.size f cdv))->sp vs H Q E->
      ∃t,PSs (cxOf CX0 P w K mg bf N qual (zac st) f cdv A outer s H E).nox (zam st) t/\t { nx:=λ_ H'=>Q .non H',rt:=Q } (zgP N vs) H):FnOk P w K mg bf CX0 (k+1) f fd ps sp:=by
 obtain⟨oc,od,T,kV,doc,pm,an,cdv,ct,osl,o,n,rfl,lk,hcd,_,_⟩:=F.ex
 refine zny lk hcd S len λA outer s H vs Q E hr hsp=>?_
 obtain⟨t,h,q⟩:=hbody cdv A outer s H vs Q E hr hsp
 exact⟨t,h.nox,q⟩
def FunE2.binds{K:am}{x qual:Str}{st:Stmt}{f:Addr}{fd:FuncData}{u1 u2:Value}{ps:List Str}(ds:ah)(F:FunE2 K x qual st f fd u1 u2)
    (h:∀(dV kV doc pm:Value)(an:aj)(cdv ct:Value)(us:ah),(us++ds).length=ps.length->∃k:Option (Array Value)->Sem (List (Str × Value)),bindArgs (W.fnOf x qual (zat st) (zam st) (zac st) dV kV doc pm an cdv ct) ⟨us,[]⟩=(seqItems? dV >>= k)/\k (some #[u1,u2])=pure (ps.zip (us++ds))):zbp K fd ps ds:=by
 obtain⟨oc,od,T,kV,doc,pm,an,cdv,ct,osl,o,n,rfl,lk,hcd,t,d⟩:=F.ex
 intro s us KX hl
 obtain⟨k,k1,k2⟩:=h (.ref T) kV doc pm an cdv ct us hl
 exact rB (T:=T) (o:=o) (items := #[u1,u2]) (n:=n) (k:=k) rfl (KX T o t) d k1 k2
structure MfnE2(K:am)(x qual:Str)(st:Stmt)(ps:List Str)(f:Addr)(fd:FuncData)(u1 u2:Value):Prop where
 F:FunE2 K x qual st f fd u1 u2
 b1:zbp K fd ps [u2]
 b2:zbp K fd ps [u1,u2]
structure MOk2(CX:CXT)(P:Program)(w:World)(K:am)(mg:af)(bf:Heap)(k:Nat)(C:Addr)(m:Str)(d1 d2:V)(sp:Sp):Prop where
 cl:Cls K C
 ex:∃f fd ps u1 u2,Meth K C m f/\FnOk P w K mg bf CX k f fd ps sp/\zbp K fd ps [u2]/\zbp K fd ps [u1,u2]/\RelV d1 u1/\RelV d2 u2
def zuq(P:Program)(w:World)(K:am)(mg:af)(bf:Heap)(CX:CXT)(k:Nat)(m:Str)(E:XK)(ta:TE):TE:=λσ H Q=>ta σ H λx H1=>
 ∃a C dx fs d1 d2 sp,x=.ref a/\H1 a=some (.ins C dx fs)/\fs.lookup m=none/\MOk2 CX P w K mg bf k C m d1 d2 sp/\sp [x,d1,d2] H1 Q E
section
variable{X:Cx}{CX:CXT}{k:Nat}{E:XK}{m:Str}{pos apos:Pos}{e o:Expr}{es:List Expr}{ta:TE}{t:TA}
def zrX{pl:Sem Bool}(he:PE X o ta)(hr:Room k X.A)(hx:zdS CX X E)
    (ht:eval (.Call (.Attribute o m apos) [] [] pos) X.env=(do
      let ov <-eval o X.env
      standAt apos.atName
      let (f,first) <-holding [ov] (getMethod ov m pl)
      callWith pos f first (backTo pos (starEach [] X.env)) (backToKw pos (keywordEach [] X.env))):=by rfl):
    PE X (.Call (.Attribute o m apos) [] [] pos) (zuq X.prog X.w X.K X.mg X.bf CX k m E ta):=by
 with_unfolding_all
  intro ai s σ H Q I h
  refine W.methodCall_KW (pl:=pl) (thn (he ai s σ H _ I h) λu s1 ⟨x,H1,I1,rx,a,C,dx,fs,d1,d2,sp,ex,ea,l,M,q⟩=>?_) ht
  subst ex
  obtain rfl:u=Value.ref a:=rx
  obtain⟨f,fd,ps,u1,u2,hm,F,_,hb,r1,r2⟩:=M.ex
  refine zfE I1 ea M.cl hm l ?_
  exact W.callWith_K0 (first:=[.ref a]) I1.kIn hm.kp (zlI (us:=[.ref a]) (vs:=[.ref a]) (dvs:=[d1,d2]) F hr hb (.cons r1 (.cons r2 .nil)) hx I1 (.cons rfl .nil) q)
end
section
variable{P:Program}{w:World}{K:am}{mg:af}{bf h:Heap}{x m q:Str}{st:Stmt}{f C:Addr}{oc kV dc pm cd ct:Value}{od an:aj}{sl:ap}
structure DAt(K:am)(x:Str)(st:Stmt)(f:Addr)(oc:Value)(od:aj)(kV dc pm:Value)(an:aj)(cd ct:Value)(sl:ap):Prop where
 a:W.nsIn K mainGlobals x=some (some (.ref f))
 l:K.lookup f=some ⟨oc,od,.func (W.fnOf x x (zat st) (zam st) (zac st) .none kV dc pm an cd ct),sl⟩
 c:W.codeIn K cd x=true
 k:W.keepIn K (.ref f)=true
structure MAt(K:am)(m q:Str)(st:Stmt)(f:Addr)(oc:Value)(od:aj)(kV dc pm:Value)(an:aj)(cd ct:Value)(sl:ap):Prop where
 l:K.lookup f=some ⟨oc,od,.func (W.fnOf m q (zat st) (zam st) (zac st) .none kV dc pm an cd ct),sl⟩
 c:W.codeIn K cd q=true
 k:W.keepIn K (.ref f)=true
 i:W.isFn K (.ref f)=true
structure MeS(K:am)(C:Addr)(m:Str)(f:Addr):Prop where
 e:W.findIn K (.ref C) m=some (some (.ref f))
structure NoS(K:am)(C:Addr)(m:Str):Prop where
 e:W.findIn K (.ref C) m=some none
structure ZeS(K:am)(x:Str):Prop where
 e:W.nsIn K mainGlobals x=some none
structure GlS(K:am)(x:Str)(i:Int)(t:Tok):Prop where
 e:W.nsIn K mainGlobals x=some (some (.int i t))
structure KtT(K:am)(x m:String)(b:Bool):Prop where
 e:W.kitOne K (.type x) (.type m)=some b
structure KtC(K:am)(C f:Addr)(b:Bool):Prop where
 e:W.kitOne K (.ref C) (.ref f)=some b
structure OAt(K:am)(x:Str)(C:Addr):Prop where
 a:W.nsIn K mainGlobals x=some (some (.ref C))
 o1:W.plainGet K C Str.empty=true
 o2:W.hasDictIn K C=true
 o3:W.plainOver K C=true
 o4:W.findIn K (.ref C) "__setattr__" = some (some (.builtin "object.__setattr__"))
 o5:W.findIn K (.ref C) "__class__" = some (some (.builtin "object.__class__"))
 o6:W.mroIn K C (.type "object")=some true
structure CAt(K:am)(C f:Addr):Prop where
 m:W.makesIn K C=true
 k:W.keepIn K (.ref C)=true
 i:W.findIn K (.ref C) "__init__" = some (some (.ref f))
structure GcT(K:am):Prop where
 g:W.specialIn K (.builtin "object.__class__") "__get__" = some (some (.builtin "getset_descriptor.__get__"))
 t:W.takesIn K (.builtin "object.__class__")=some true
structure XAt(K:am)(x:Str)(C:Addr)(cd:ClassData)(up:ah)(ini:aj):Prop where
 a:W.nsIn K mainGlobals x=some (some (.ref C))
 d:W.clsIn K C=some cd
 t:W.typeIn K (.ref C)=some (.type "type")
 x1:W.findIn K (.ref C) "__setattr__" = some (some (.builtin "object.__setattr__"))
 x2:W.findIn K (.ref C) "__getattribute__" = some (some (.builtin "BaseException.__getattribute__"))
 x3:W.findIn K (.ref C) "__getattr__" = some none
 x4:W.hasDictIn K C=true
 x5:W.findIn K (.ref C) "__class__" = some (some (.builtin "object.__class__"))
 x6:W.mroIn K C (.type "object")=some true
 x7:W.keepIn K (.ref C)=true
 z1:cd.mro=.ref C::up
 z2:W.xcIn K C ini=true
structure YAt(K:am)(C:Addr)(x q:Str)(st:Stmt)(f:Addr)(oc:Value)(od:aj)(kV dc pm:Value)(an:aj)(cd ct:Value)(sl:ap):Prop where
 y1:W.findIn K (.ref C) "__init__" = some (some (.ref f))
 y2:K.lookup f=some ⟨oc,od,.func (W.fnOf "__init__" q (zat st) (zam st) (zac st) .none kV dc pm an cd ct),sl⟩
 y3:W.codeIn K cd q=true
 y4:W.keepIn K (.ref f)=true
 y5:W.isFn K (.ref f)=true
 y6:W.findIn K (.ref C) x=some none
def OAt.g(o:OAt K x C)(X:K.In h)(G:h.Ns mainGlobals mg):mg x=some (.ref C):=rh X G o.a
def OAt.ow(o:OAt K x C)(g:GcT K):Own K C:=⟨⟨o.o1,o.o2,o.o3,o.o4⟩,o.o5,g.g,g.t,o.o6⟩
def CAt.mk_(c:CAt K C f)(i:W.isFn K (.ref f)=true):Mk K C f:=⟨c.m,c.i,i,c.k⟩
def mok(e:MeS K C m f)(d:MAt K m q st f oc od kV dc pm an cd ct sl)(O:Own K C){CX:CXT}{k:Nat}{fd:FuncData}{ps:List Str}{sp:Sp}(M:Mfn K m q st ps f fd)(G:FnOk P w K mg bf CX k f fd ps sp):MOk CX P w K mg bf k C m sp:=⟨O.cl,f,fd,ps,⟨e.e,d.i,d.k⟩,G,M.b⟩
def DAt.d1(d:DAt K x st f oc od kV dc pm an cd ct sl)(X:K.In h)(G:h.Ns mainGlobals mg)(p0:Str)(b:∀(kV dc pm:Value)(an:aj)(cd ct u:Value),bindArgs (W.fnOf x x (zat st) (zam st) (zac st) .none kV dc pm an cd ct) ⟨[u],[]⟩=pure ([p0].zip [u]):=by intros;rfl):Dfn K mg x st [p0] f (W.fnOf x x (zat st) (zam st) (zac st) .none kV dc pm an cd ct):=⟨zbx d.l d.c d.k,(zbx d.l d.c d.k).binds (ps:=[p0]) λ_ _ _ _ _ _ us hl=>by obtain⟨u,rfl⟩:=ul1 hl;exact b ..,rh X G d.a⟩
def MAt.m1(d:MAt K m q st f oc od kV dc pm an cd ct sl)(p0:Str)(b:∀(kV dc pm:Value)(an:aj)(cd ct u:Value),bindArgs (W.fnOf m q (zat st) (zam st) (zac st) .none kV dc pm an cd ct) ⟨[u],[]⟩=pure ([p0].zip [u]):=by intros;rfl):Mfn K m q st [p0] f (W.fnOf m q (zat st) (zam st) (zac st) .none kV dc pm an cd ct):=⟨zbx d.l d.c d.k,(zbx d.l d.c d.k).binds (ps:=[p0]) λ_ _ _ _ _ _ us hl=>by obtain⟨u,rfl⟩:=ul1 hl;exact b ..⟩
def DAt.d2(d:DAt K x st f oc od kV dc pm an cd ct sl)(X:K.In h)(G:h.Ns mainGlobals mg)(p0 p1:Str)(b:∀(kV dc pm:Value)(an:aj)(cd ct u v:Value),bindArgs (W.fnOf x x (zat st) (zam st) (zac st) .none kV dc pm an cd ct) ⟨[u,v],[]⟩=pure ([p0,p1].zip [u,v]):=by intros;rfl):Dfn K mg x st [p0,p1] f (W.fnOf x x (zat st) (zam st) (zac st) .none kV dc pm an cd ct):=⟨zbx d.l d.c d.k,(zbx d.l d.c d.k).binds (ps:=[p0,p1]) λ_ _ _ _ _ _ us hl=>by obtain⟨u,v,rfl⟩:=ul2 hl;exact b ..,rh X G d.a⟩
def DAt.c2(d:DAt K x st f oc od kV dc pm an cd ct sl)(X:K.In h)(G:h.Ns mainGlobals mg)(p0 p1:Str)(b:∀(kV dc pm:Value)(an:aj)(cd ct u v:Value),bindArgs (W.fnOf x x (zat st) (zam st) (zac st) .none kV dc pm an cd ct) ⟨[u,v],[]⟩=pure ([p0,p1].zip [u,v]):=by intros;rfl):DfnC K mg x st [p0,p1] f (W.fnOf x x (zat st) (zam st) (zac st) .none kV dc pm an cd ct) cd:=⟨zrP d.l d.c,d.k,(zbx d.l d.c d.k).binds (ps:=[p0,p1]) λ_ _ _ _ _ _ us hl=>by obtain⟨u,v,rfl⟩:=ul2 hl;exact b ..,rh X G d.a⟩
def MAt.m2(d:MAt K m q st f oc od kV dc pm an cd ct sl)(p0 p1:Str)(b:∀(kV dc pm:Value)(an:aj)(cd ct u v:Value),bindArgs (W.fnOf m q (zat st) (zam st) (zac st) .none kV dc pm an cd ct) ⟨[u,v],[]⟩=pure ([p0,p1].zip [u,v]):=by intros;rfl):Mfn K m q st [p0,p1] f (W.fnOf m q (zat st) (zam st) (zac st) .none kV dc pm an cd ct):=⟨zbx d.l d.c d.k,(zbx d.l d.c d.k).binds (ps:=[p0,p1]) λ_ _ _ _ _ _ us hl=>by obtain⟨u,v,rfl⟩:=ul2 hl;exact b ..⟩
def DAt.d3(d:DAt K x st f oc od kV dc pm an cd ct sl)(X:K.In h)(G:h.Ns mainGlobals mg)(p0 p1 p2:Str)(b:∀(kV dc pm:Value)(an:aj)(cd ct u v s:Value),bindArgs (W.fnOf x x (zat st) (zam st) (zac st) .none kV dc pm an cd ct) ⟨[u,v,s],[]⟩=pure ([p0,p1,p2].zip [u,v,s]):=by intros;rfl):Dfn K mg x st [p0,p1,p2] f (W.fnOf x x (zat st) (zam st) (zac st) .none kV dc pm an cd ct):=⟨zbx d.l d.c d.k,(zbx d.l d.c d.k).binds (ps:=[p0,p1,p2]) λ_ _ _ _ _ _ us hl=>by obtain⟨u,v,s,rfl⟩:=ul3 hl;exact b ..,rh X G d.a⟩
def MAt.m3(d:MAt K m q st f oc od kV dc pm an cd ct sl)(p0 p1 p2:Str)(b:∀(kV dc pm:Value)(an:aj)(cd ct u v s:Value),bindArgs (W.fnOf m q (zat st) (zam st) (zac st) .none kV dc pm an cd ct) ⟨[u,v,s],[]⟩=pure ([p0,p1,p2].zip [u,v,s]):=by intros;rfl):Mfn K m q st [p0,p1,p2] f (W.fnOf m q (zat st) (zam st) (zac st) .none kV dc pm an cd ct):=⟨zbx d.l d.c d.k,(zbx d.l d.c d.k).binds (ps:=[p0,p1,p2]) λ_ _ _ _ _ _ us hl=>by obtain⟨u,v,s,rfl⟩:=ul3 hl;exact b ..⟩
def DAt.d4(d:DAt K x st f oc od kV dc pm an cd ct sl)(X:K.In h)(G:h.Ns mainGlobals mg)(p0 p1 p2 p3:Str)(b:∀(kV dc pm:Value)(an:aj)(cd ct u v s t:Value),bindArgs (W.fnOf x x (zat st) (zam st) (zac st) .none kV dc pm an cd ct) ⟨[u,v,s,t],[]⟩=pure ([p0,p1,p2,p3].zip [u,v,s,t]):=by intros;rfl):Dfn K mg x st [p0,p1,p2,p3] f (W.fnOf x x (zat st) (zam st) (zac st) .none kV dc pm an cd ct):=⟨zbx d.l d.c d.k,(zbx d.l d.c d.k).binds (ps:=[p0,p1,p2,p3]) λ_ _ _ _ _ _ us hl=>by obtain⟨u,v,s,t,rfl⟩:=ul4 hl;exact b ..,rh X G d.a⟩
def DAt.d5(d:DAt K x st f oc od kV dc pm an cd ct sl)(X:K.In h)(G:h.Ns mainGlobals mg)(p0 p1 p2 p3 p4:Str)(b:∀(kV dc pm:Value)(an:aj)(cd ct u v s t a:Value),bindArgs (W.fnOf x x (zat st) (zam st) (zac st) .none kV dc pm an cd ct) ⟨[u,v,s,t,a],[]⟩=pure ([p0,p1,p2,p3,p4].zip [u,v,s,t,a]):=by intros;rfl):Dfn K mg x st [p0,p1,p2,p3,p4] f (W.fnOf x x (zat st) (zam st) (zac st) .none kV dc pm an cd ct):=⟨zbx d.l d.c d.k,(zbx d.l d.c d.k).binds (ps:=[p0,p1,p2,p3,p4]) λ_ _ _ _ _ _ us hl=>by obtain⟨u,v,s,t,a,rfl⟩:=ul5 hl;exact b ..,rh X G d.a⟩
def MAt.m5(d:MAt K m q st f oc od kV dc pm an cd ct sl)(p0 p1 p2 p3 p4:Str)(b:∀(kV dc pm:Value)(an:aj)(cd ct u v s t a:Value),bindArgs (W.fnOf m q (zat st) (zam st) (zac st) .none kV dc pm an cd ct) ⟨[u,v,s,t,a],[]⟩=pure ([p0,p1,p2,p3,p4].zip [u,v,s,t,a]):=by intros;rfl):Mfn K m q st [p0,p1,p2,p3,p4] f (W.fnOf m q (zat st) (zam st) (zac st) .none kV dc pm an cd ct):=⟨zbx d.l d.c d.k,(zbx d.l d.c d.k).binds (ps:=[p0,p1,p2,p3,p4]) λ_ _ _ _ _ _ us hl=>by obtain⟨u,v,s,t,a,rfl⟩:=ul5 hl;exact b ..⟩
def MAt.m6(d:MAt K m q st f oc od kV dc pm an cd ct sl)(p0 p1 p2 p3 p4 p5:Str)(b:∀(kV dc pm:Value)(an:aj)(cd ct u v s t a z:Value),bindArgs (W.fnOf m q (zat st) (zam st) (zac st) .none kV dc pm an cd ct) ⟨[u,v,s,t,a,z],[]⟩=pure ([p0,p1,p2,p3,p4,p5].zip [u,v,s,t,a,z]):=by intros;rfl):Mfn K m q st [p0,p1,p2,p3,p4,p5] f (W.fnOf m q (zat st) (zam st) (zac st) .none kV dc pm an cd ct):=⟨zbx d.l d.c d.k,(zbx d.l d.c d.k).binds (ps:=[p0,p1,p2,p3,p4,p5]) λ_ _ _ _ _ _ us hl=>by obtain⟨u,v,s,t,a,z,rfl⟩:=ul6 hl;exact b ..⟩
end
def fsc{N P:List Str}{sc:Scope}(a:sc.kind=.function:=by rfl)(b:sc.isCoroutine=false:=by rfl)(c:sc.isGenerator=false:=by rfl)(d:N.Nodup:=by decide +kernel)(e:N.take P.length=P:=by rfl)(f:∀x∈P,sc.names.lookup x=some .local\/sc.names.lookup x=some .cell:=by decide +kernel)(g:∀y∈sc.names,y.2≠.free:=by decide +kernel):FnScope N P sc:=⟨a,b,c,d,e,f,g⟩
def Room.o{j k:Nat}{A:Around}(r:Room k A)(h:j<=k:=by decide):Room j A:=r.mono h
def cpo{X:Cx}{scope:Scope}{x:Str}{N:List Str}{js:List Nat}(c1:scope.kind=.function:=by rfl)(c2:(scope.names.all λy=>y.2 != .cell)=true:=by rfl)
    (c3:(scope.names.all λy=>y.2 != .local||scope.names.lookup y.1==some .local)=true:=by rfl) (c4:scope.names.lookup x=some .local:=by rfl) (c5:(scope.names.all λy=>y.2 != .free||X.env.kindOf y.1==some .cell)=true:=by rfl)
    (nd:N.Nodup:=by decide +kernel) (hd:N[0]?=some x:=by rfl) (len:N.length=js.length+1:=by rfl) (c6:(scope.names.all λy=>y.2 != .free||scope.names.lookup y.1 != some .local)=true:=by rfl)
    (c7:(((N.drop 1).zip js).all λp=>X.N[p.2]?==some p.1&&X.env.scope.names.lookup p.1==some .cell&&scope.names.contains (p.1,NameKind.free))=true:=by rfl):CompScope X scope x N js:=CompScope.of c1 c2 c3 c4 c5 nd hd len c6 c7
def si0:0<=sizeLine:=by decide
def si1:1<=sizeLine:=by decide
def si2:2<=sizeLine:=by decide
def si3:3<=sizeLine:=by decide
def si4:4<=sizeLine:=by decide
def si5:5<=sizeLine:=by decide
def si6:6<=sizeLine:=by decide
def zmR{K:am}{a:Addr}{xs:List V}{js:List Nat}{tc:TT}{te:TE}{σ:St}{H1:Hp}{Q:VK}(f:Nat->V)(w:Nat->List V)(hl:SqL K H1 a xs)
    (ht:∀(i:Nat) x Hh (Q':Bool->Hp->Prop),xs[i]?=some x->Same H1 Hh->(∀Hh',Same Hh Hh'->Q' true Hh')->tc (some x::caps σ js) Hh Q')
    (he:∀(i:Nat) x Hh (Q':VK),xs[i]?=some x->Same H1 Hh->(∀b m Hh',Same Hh Hh'->Hh m=none->Hh b=none->Hh' b=some (.tup [f i,.ref m])->Hh' m=some (.lst (w i))->Q' (.ref b) Hh')->te (some x::caps σ js) Hh Q')
    (hz:xs.length<sizeLine) (q:∀D H2 (bs:List (Addr × Addr)),Same H1 H2->H1 D=none->H2 D=some (.lst (bs.map λb=>V.ref b.1))->bs.length=xs.length->(∀(i:Nat) b,bs[i]?=some b->H2 b.1=some (.tup [f i,.ref b.2])/\H2 b.2=some (.lst (w i))/\H1 b.1=none/\H1 b.2=none)->Q (.ref D) H2):
    zep (Itl K a) js tc te σ H1 Q:=by
 intro D H2 s2 hD h2
 refine⟨λi m acc H3=>m=xs.length-i/\i<=xs.length/\∃bs:List (Addr × Addr),acc=(bs.map λb=>V.ref b.1)/\bs.length=i/\(∀(j:Nat) b,bs[j]?=some b->H3 b.1=some (.tup [f j,.ref b.2])/\H3 b.2=some (.lst (w j))/\b.2≠D/\H1 b.1=none/\H1 b.2=none)/\Same H1 H3/\H3 D=some (.lst acc),⟨_,rfl,tU _,[],rfl,rfl,λj b hb=>by simp at hb,s2,h2⟩,?_⟩
 rintro i m acc H3 ⟨rfl,hi,bs,ea,eb,rb,s3,h3⟩
 have hl3:SqL K H3 a xs:=s3.seq hl
 have hll:acc.length<=xs.length:=by
  rw[ea,tq]
  omega
 refine⟨h3,by omega,?_⟩
 by_cases hlt:i<xs.length
 ·have hx:xs[i]?=some xs[i]:=tm hlt
  refine .inr ⟨⟨xs,_,hl3,hx⟩,λy H4 z=>?_⟩
  obtain⟨e,ey⟩:=z
  have ey2:=ey xs hl3
  subst e
  refine ht i y _ _ ey2 s3 λH5 s5=>?_
  have h5:=s5 _ _ h3
  have s35:=s3.trans s5
  refine iteT (he i y _ _ ey2 s35 λb6 m6 H6 s6 n6 nb6 g6 w6=>⟨s6 _ _ h5,λH7 k7 h7=>⟨xs.length-(i+1),by omega,rfl,hlt,bs++[(b6,m6)],?_,by rw[tQ,eb];rfl,λj b hj=>?_,λb o e=>?_,h7⟩⟩)
  ·rw[ea,tV]
   rfl
  ·have nD:∀c t,H6 c=some (.tup t)->c≠D:=λc t g z=>by
    rw[z,s6 _ _ h5]at g
    cases g
   have mD:m6≠D:=λz=>by rw[z,h5]at n6;cases n6
   by_cases z:j<bs.length
   ·rw[si z]at hj
    obtain⟨r1,r2,r3⟩:=rb j b hj
    have g1:=s6 _ _ (s5 _ _ r1)
    exact⟨k7 _ _ (nD _ _ g1) g1,k7 _ _ r3.1 (s6 _ _ (s5 _ _ r2)),r3⟩
   ·rw[t7 (by omega)]at hj
    cases y:j-bs.length with
    | zero=>
      rw[y]at hj
      cases hj
      rw[show j=i by omega]
      exact⟨k7 _ _ (nD _ _ g6) g6,k7 _ _ mD w6,mD,Same.free s35 nb6,Same.free s35 n6⟩
    | succ n=>rw[y]at hj;cases hj
  ·by_cases hbD:b=D
   ·subst hbD
    rw[hD]at e
    cases e
   ·exact k7 b o hbD (s6 b o (s35 b o e))
 ·have e:i=xs.length:=by omega
  subst e
  refine .inl ⟨⟨xs,hl3,tD _⟩,?_⟩
  rw[ea]at h3
  exact q D _ bs s3 hD h3 eb λj b hj=>⟨(rb j b hj).1,(rb j b hj).2.1,(rb j b hj).2.2.2⟩
end L2
namespace L2
theorem gmp{α β:Type}{xs:List α}{f : α -> β}{i:Nat}{y : β}(h:(xs.map f)[i]?=some y):∃x,xs[i]?=some x/\f x=y:=by
 rw[getElem?_map]at h
 cases e:xs[i]? with
 | none=>rw[e]at h;cases h
 | some x=>
   rw[e]at h
   exact⟨x,rfl,tF h⟩
end L2
namespace L2
open PySem PySem.Spec PyProof.Rows
section
section
variable{X:Cx}
def ztn(n:Nat)(hn:0<n)(hu:X.A.units+(n+1)<cLine):OpR X (compareOp .Eq) (λx y H Q=>zqM X.K n x y H/\Q (.bl true) H):=by
 intro ai s σ H x y v u Q I rx ry h
 obtain⟨⟨a,b,xs,ys,rfl,rfl,ha,hb,hl,h⟩,q⟩:=h
 cases rx
 cases ry
 have hu1:X.A.in1.units+n<cLine:=by rw[pE];omega
 obtain⟨its,r,pl,hz⟩:=I.list ha
 obtain⟨its2,r2,pl2,hz2⟩:=I.list hb
 have e1:its.toArray.size=xs.length:=by simp[r.length]
 have e2:its2.toArray.size=ys.length:=by simp[r2.length]
 refine SeqAt.eq_listAt (s:=s) (e:=λ_=>true) pl.isList pl2.isList (by omega) (show X.A.units<cLine by omega) (aQ r r2 λj x y u v hx hy ru rv=>?_) ⟨.bl _,H,I,rfl,?_⟩
 ·rcases h j x y hx hy with h | ⟨c,d,L,rfl,rfl,hc,hd⟩
  ·exact Deq.at I n h ru rv hu1
  ·cases(show u=Value.ref c from ru)
   cases(show v=Value.ref d from rv)
   exact zon I (by omega) hc hd
 ·rw[zfb]
  exact q
end
open PySem PySem.Spec PyProof.Rows
def eY{x:Str}{a:Nat}(h:a<=x.length):(Txt.slice x none (some (a:Int))).cps.toList=x.cps.toList.take a:=by
 have e:Txt.slice x none (some (a:Int))=_:=beq_iff_eq.mp (slice_closes_toL (x:=x) (j:=(a:Int)) (by omega) (by omega))
 rw[e]
 simp
def zqb{x:Str}{a:Nat}(h:a<=x.length):(Txt.slice x (some (a:Int)) none).cps.toList=x.cps.toList.drop a:=by
 rw[slice_from_eq (b:=(x.length:Int)) (by omega) (by omega) rfl]
 show List.take _ (List.drop _ _)=_
 rw[show((a:Int)).toNat=a by omega]
 exact sv (by rw[pj,zcU];omega)
end
theorem eZ{prog:Program}{w:World}{A:Around}{E:ac}{it a:Addr}{items:Array Value}(hne:a≠it):∀(n i:Nat)(s:Shared)(Q:List Value->Shared->Prop),s.heap.IsListIter it a i->s.heap.IsList a items->i+n<=items.size->(∀h',h'.IsListIter it a (i+n)->Heap.SameBut it s.heap h'->Q ((items.toList.drop i).take n) { s with heap:=h' })->wpAny (model prog w) A (draw (.ref it) n) Q E s
 | 0,i,s,Q,hi,ha,hn,q=>by
   rw[draw.eq_1]
   exact tI (q s.heap hi ⟨rfl,λ_ _=>rfl⟩)
 | n+1,i,s,Q,hi,ha,hn,q=>by
   rw[draw.eq_2]
   have il:i<items.size:=by omega
   have hx:items[i]?=some items[i]:=re il
   refine tw (ql hi ha hx λh1 st1 sb1=>?_)
   have ha1:h1.IsList a items:=by
    obtain⟨o,e,c⟩:=ha
    exact⟨o,(sb1.2 a hne).trans e,c⟩
   refine tw (tZ (eZ hne n (i+1) _ _ st1 ha1 (by omega) λh2 st2 sb2=>tI ?_))
   have e2:(items.toList.drop i).take (n+1)=items[i]::(items.toList.drop (i+1)).take n:=by
    rw[List.drop_eq_getElem_cons (by simpa using il)]
    simp
   have q:=q h2 (by rw[show i+(n+1)=i+1+n by omega];exact st2) ⟨sb2.1.trans sb1.1,λb hb=>(sb2.2 b hb).trans (sb1.2 b hb)⟩
   rw[e2]at q
   exact q
def zmS{prog:Program}{w:World}{A:Around}{E:ac}{s:Shared}{a:Addr}{items:Array Value}{targets:List (Bool × (Value->Sem Unit))}{Q:aq}(hh:A.handled=none)(ha:s.heap.IsList a items)(hn:targets.length=items.size)(hst:targets.findIdx? (·.1)=none)
    (h:∀h',Heap.ExtBut s.heap.objs.size s.heap h'->wpAny (model prog w) A (assignInOrder (targets.map (·.2)) items.toList) Q E { s with heap:=h' }):wpAny (model prog w) A (unpack (.ref a) targets) Q E s:=by
 have hlt:a≠s.heap.objs.size:=by
  obtain⟨o,e,_⟩:=ha
  exact tJ (tG e)
 unfold unpack
 rw[hn,hst]
 refine tw (tZ ?_)
 unfold unpackItems
 refine tw ?_
 unfold notIterableAtAll
 refine tw (wpAny_specialOf ha.typeIs PySem.F.slot_list_iter.lookup (tI ?_))
 simp only[Option.isSome_some,Bool.not_true,Bool.false_eq_true,if_false,Option.isNone_some,Bool.and_false]
 refine tw (tZ (rg ha ?_))
 refine tw (tZ (eZ hlt items.size 0 _ _ ⟨_,tH _ rfl,rfl,rfl⟩ (ha.push _) (by omega) λh1 st1 sb1=>?_))
 have e1:(items.toList.drop 0).take items.size=items.toList:=by
  rw[drop_zero]
  exact sv (by simp)
 rw[e1]
 rw[if_neg (by simp)]
 have ha1:h1.IsList a items:=by
  obtain⟨o,e,c⟩:=ha.push { cls:=Value.type "list_iterator",data:=Data.fields #[Value.ref a,Value.int 0 0] }
  exact⟨o,(sb1.2 a hlt).trans e,c⟩
 refine tw (tZ (qC hh st1 ha1 (by simp) λh2 eb=>?_))
 simp only[Option.isSome_none,Bool.false_eq_true,if_false]
 refine tI (h h2 λb o hb e=>eb b o hb ?_)
 rw[sb1.2 b hb]
 exact tu _ e
def gLst(K:am)(n:Nat)(t:TGs):TG:=λv σ H Q=>∃a xs,v=.ref a/\SqL K H a xs/\xs.length=n/\t xs σ H Q
def zto{X:Cx}{pos:Pos}{es:List Expr}{k:Nat}{t:TGs}{n:Nat}(hc:X.calm=true)(h:PGs X es t)
    (hn:(assignEach es X.env).length=n:=by rfl) (hst:(assignEach es X.env).findIdx? (·.1)=none:=by rfl):PG X (.Tuple es k pos) (gLst X.K n t):=by
 intro ai s σ H v u Q I r hw
 obtain⟨a,xs,e1,hq,hl,hw⟩:=hw
 subst e1
 cases r
 obtain⟨its,rv,p,hz⟩:=I.list hq
 rw[assign_Tuple]
 refine tw (rO (zmS (I.ok.hd hc) p.isList (by simp[hn,<-hl,rv.length]) hst λh' hx=>?_))
 have I1:Inv X ai σ H { s with heap:=h' }:=I.kept (t':=s.toks) λb o e=>hx b o (tJ (tG e)) e
 exact h ai _ σ H xs _ Q I1 (by simpa using rv) hw
end L2
namespace K96
open PySem L2
local macro_rules | `(tactic| walk_at "z") => `(tactic| (intro vs H Q E h;cases h;subst_vars;rfl))
abbrev pl0:List Str:=["number","sort_name","came","span","tries","spent"]
abbrev pl1:List Str:=["self","number","sort_name","came","span","tries","spent"]
abbrev pl2:List Str:=["self"]
abbrev pl3:List Str:=["self","name"]
abbrev pl4:List Str:=["thing","low","high"]
abbrev pl5:List Str:=["text","first","last"]
abbrev pl6:List Str:=["thing"]
abbrev pl7:List Str:=["self","name","weight","speed","span","tries"]
abbrev pl8:List Str:=["piece","sorts"]
abbrev pl9:List Str:=["claim","turn","common"]
abbrev pl10:List Str:=["claims","turn"]
abbrev pl11:List Str:=["chores","hands","turn"]
abbrev pl12:List Str:=["chores","numbers"]
abbrev pl13:List Str:=["chores","real"]
abbrev pl14:List Str:=["chores","hands","begin","real"]
abbrev pl15:List Str:=["chores","number"]
abbrev pl16:List Str:=["chores","hands","begin"]
abbrev pl17:List Str:=["chores","hands","begin","number"]
abbrev pl18:List Str:=["chores","hands","begin","told"]
abbrev pl19:List Str:=["pieces","sorts"]
abbrev pl20:List Str:=["self","number"]
abbrev pl21:List Str:=["self","number","due","turn","run"]
abbrev pl22:List Str:=["self","sorts","hands"]
abbrev pl23:List Str:=["pieces","changed"]
abbrev pl24:List Str:=["self","pieces","sorts","hands","number"]
abbrev pl25:List Str:=["self","sort","speed"]
abbrev pl26:List Str:=["piece","turn","numbers","ends"]
abbrev pl27:List Str:=["self","ends","more"]
abbrev pl28:List Str:=["_law_script","_law_k"]
abbrev pl29:List Str:=["_law_cell_here","_law_k"]
abbrev pl30:List Str:=["_law_cell_here","_law_k","_law_many"]
abbrev pl31:List Str:=["_law_claim","_law_turn_here"]
abbrev pl32:List Str:=["_law_claims","_law_turn_here"]
abbrev pl33:List Str:=["_law_rows","_law_hands","_law_turn_here"]
abbrev pl34:List Str:=["_law_chores","_law_hands","_law_begin","_law_rows"]
abbrev pl35:List Str:=["_law_chores","_law_hands","_law_begin","_law_rows","_law_told"]
abbrev pl36:List Str:=["_law_verdict","_law_chores","_law_hands","_law_begin","_law_told"]
abbrev pl37:List Str:=["_law_chore","_law_k","_law_weight_here","_law_speed"]
abbrev pl38:List Str:=["_law_house","_law_state","_law_cell_here"]
def top(i:Nat):Stmt:=PySem.Challenge.pw_greywait_k96_whole_asked_and_granted.main.body.getD i (.Pass ⟨0,0,0,0⟩)
abbrev zfT:Stmt:=top 14
abbrev zdn:Stmt:=top 15
abbrev zhI:Stmt:=top 16
abbrev zce:Stmt:=top 20
abbrev zjf:Stmt:=top 21
abbrev zex:Stmt:=top 22
abbrev zdV:Stmt:=top 25
abbrev zcw:Stmt:=top 26
abbrev zey:Stmt:=top 27
abbrev zaE:Stmt:=top 28
abbrev zbM:Stmt:=top 29
abbrev zfU:Stmt:=top 30
abbrev zcf:Stmt:=top 32
abbrev zcx:Stmt:=top 33
abbrev zez:Stmt:=top 34
abbrev zcW:Stmt:=top 36
abbrev zdo:Stmt:=top 37
abbrev zdp:Stmt:=top 39
abbrev zdq:Stmt:=top 40
abbrev zdW:Stmt:=top 41
abbrev zdX:Stmt:=top 42
abbrev zeA:Stmt:=top 43
abbrev zfV:Stmt:=top 44
abbrev zfW:Stmt:=top 52
abbrev zfX:Stmt:=top 53
abbrev zjg:Stmt:=top 58
abbrev zfY:Stmt:=top 59
abbrev zeB:Stmt:=top 60
abbrev zeC:Stmt:=top 62
abbrev zfZ:Stmt:=top 65
abbrev zeD:Stmt:=top 74
abbrev zdY:Stmt:=top 75
abbrev zdZ:Stmt:=top 76
abbrev zcX:Stmt:=top 77
abbrev zga:Stmt:=top 80
abbrev zhJ:Stmt:=top 81
abbrev zgb:Stmt:=top 82
abbrev bI:Stmt:=top 83
abbrev zgc:Stmt:=top 84
abbrev zeE:Stmt:=top 85
abbrev zgd:Stmt:=top 86
abbrev zge:Stmt:=top 87
abbrev zhK:Stmt:=top 88
abbrev zeF:Stmt:=top 89
abbrev bJ:Stmt:=top 90
abbrev zgf:Stmt:=top 91
abbrev zdr:Stmt:=top 92
abbrev zcY:Stmt:=top 93
abbrev bK:Stmt:=top 94
abbrev zcZ:Stmt:=top 95
abbrev zcy:Stmt:=top 96
abbrev zmT:Stmt:=top 97
abbrev zaW:Stmt:=zax (top 46) 0
abbrev zcz:Stmt:=zax (top 46) 3
abbrev bL:Stmt:=zax (top 46) 4
abbrev zeG:Stmt:=zax (top 46) 5
abbrev zeH:Stmt:=zax (top 47) 0
abbrev bM:Stmt:=zax (top 47) 1
abbrev zds:Stmt:=zax (top 47) 3
abbrev bN:Stmt:=zax (top 48) 0
abbrev bO:Stmt:=zax (top 48) 1
abbrev bP:Stmt:=zax (top 48) 2
abbrev zcg:Stmt:=zax (top 48) 3
abbrev zbN:Stmt:=zax (top 48) 6
abbrev bQ:Stmt:=zax (top 50) 0
abbrev zdt:Stmt:=zax (top 51) 0
abbrev zcA:Stmt:=zax (top 61) 0
abbrev zdu:Stmt:=zax (top 61) 1
abbrev zch:Stmt:=zax (top 63) 0
abbrev zcB:Stmt:=zax (top 63) 3
abbrev zbO:Stmt:=zax (top 63) 5
abbrev zbP:Stmt:=zax (top 67) 0
abbrev bR:Stmt:=zax (top 67) 1
abbrev zbQ:Stmt:=zax (top 68) 0
abbrev bS:Stmt:=zax (top 68) 1
abbrev zci:Stmt:=zax (top 78) 0
abbrev zcj:Stmt:=zax (top 78) 1
abbrev zbn:Stmt:=zax (top 78) 2
abbrev zbk:Stmt:=zax (top 78) 3
abbrev bU:Stmt:=zax (top 78) 4
abbrev zbD:Stmt:=zax (top 78) 5
abbrev zbR:Stmt:=zax (top 78) 6
abbrev zdv:Stmt:=zax (top 78) 7
abbrev zbS:Stmt:=zax (top 78) 8
abbrev bV:Stmt:=zax (top 78) 9
abbrev bW:Stmt:=zax (top 78) 11
abbrev bX:Stmt:=zax (top 78) 12
abbrev zbv:Stmt:=zax (top 78) 13
abbrev zdw:Stmt:=zax (top 78) 14
abbrev bY:Stmt:=zax (top 78) 15
abbrev zaR:Stmt:=zax (top 78) 17
abbrev zeI:Stmt:=zax (top 78) 19
abbrev zcC:Stmt:=zax (top 78) 20
abbrev bZ:Stmt:=zax (top 78) 21
abbrev zbT:Stmt:=zax (top 78) 22
abbrev zbU:Stmt:=zax (top 78) 23
abbrev zck:Stmt:=zax (top 78) 24
abbrev b7:Stmt:=zax (top 78) 25
abbrev zdy:Stmt:=zax (top 78) 27
structure Txt(K:am)(mg:af)(BC Ae Aa Cr Ab Ac Am Af AC Ah Ag Ad:Addr):Prop where
 zur:mg "abs" = none
 ztp:mg "all" = none
 ztq:mg "any" = none
 ztr:mg "bool" = none
 zts:mg "dict" = none
 zhL:mg "enumerate" = none
 zqc:mg "int" = none
 za2:mg "isinstance" = none
 zdf:mg "len" = none
 ziV:mg "list" = none
 zus:mg "min" = none
 zk7:mg "range" = none
 zut:mg "set" = none
 zjh:mg "sorted" = none
 zuu:mg "str" = none
 zov:mg "tuple" = none
 AD:∃t,mg "LONGEST_NAME" = some (.int 8 t)
 BE:∃t,mg "MOST_TOP" = some (.int 1000000 t)
 AH:∃t,mg "MOST_BOTTOM" = some (.int 12 t)
 Bg:∃t,mg "MOST_TURN" = some (.int 1000000000000000 t)
 A0:∃t,mg "MOST_SORTS" = some (.int 8 t)
 Bh:∃t,mg "MOST_SPAN" = some (.int 4 t)
 A6:∃t,mg "MOST_TRIES" = some (.int 3 t)
 A7:∃t,mg "MOST_HANDS" = some (.int 6 t)
 AE:∃t,mg "MOST_HELPERS" = some (.int 6 t)
 Bi:∃t,mg "MOST_OPEN" = some (.int 40 t)
 Ao:∃t,mg "MOST_TURNS_TO_HOLD" = some (.int 400 t)
 E7:mg "Piece" = some (.ref BC)
 E8:Own K BC
 EJ:mg "Held" = some (.ref Ae)
 Dv:Own K Ae
 CL:zak K Ae "number"
 BR:zak K Ae "sort_name"
 Dw:zak K Ae "came"
 Dx:zak K Ae "span"
 Dk:zak K Ae "tries"
 Dl:zak K Ae "spent"
 Ef:mg "Waiting" = some (.ref Aa)
 AI:Own K Aa
 BS:zak K Aa "number"
 Bj:zak K Aa "sort_name"
 Cs:zak K Aa "came"
 Ct:zak K Aa "span"
 B0:zak K Aa "tries"
 B1:zak K Aa "spent"
 Fb:mg "Done" = some (.ref Cr)
 Fc:Own K Cr
 EY:mg "GivenUp" = some (.ref Ab)
 BF:Own K Ab
 BT:zak K Ab "number"
 Bk:zak K Ab "sort_name"
 Cu:zak K Ab "came"
 Cv:zak K Ab "span"
 B3:zak K Ab "tries"
 B4:zak K Ab "spent"
 E6:mg "Missed" = some (.ref Ac)
 Co:Own K Ac
 B5:zak K Ac "number"
 Bu:zak K Ac "sort_name"
 CM:zak K Ac "came"
 CO:zak K Ac "span"
 Cw:zak K Ac "tries"
 Cy:zak K Ac "spent"
 Fd:mg "Sort" = some (.ref Am)
 Dm:Own K Am
 AS:zak K Am "name"
 Be:zak K Am "weight"
 B8:zak K Am "speed"
 Bl:zak K Am "span"
 A8:zak K Am "tries"
 E9:mg "Sorts" = some (.ref Af)
 Dy:Own K Af
 B9:zak K Af "rows"
 EZ:mg "Verdict" = some (.ref AC)
 E3:Own K AC
 E4:mg "Granted" = some (.ref Ah)
 Dz:Own K Ah
 BU:zak K Ah "number"
 E5:mg "LateOne" = some (.ref Ag)
 DA:Own K Ag
 BV:zak K Ag "number"
 CP:zak K Ag "due"
 Cz:zak K Ag "turn"
 BN:zak K Ag "run"
 Fa:mg "House" = some (.ref Ad)
 Ai:Own K Ad
 An:zak K Ad "sorts"
 Ap:zak K Ad "hands"
 Al:zak K Ad "turn"
 Aj:zak K Ad "pieces"
 AA:zak K Ad "numbers"
 Ca:zak K Ad "rows"
 DK:W.kitOne K (.ref Ab) (.ref Ae)=some false
 C6:W.kitOne K (.ref Ab) (.ref Aa)=some false
 El:W.kitOne K (.ref Ae) (.ref Ae)=some true
 DL:W.kitOne K (.ref Ae) (.ref Aa)=some false
 DV:W.kitOne K (.ref Ac) (.ref Ae)=some false
 Dp:W.kitOne K (.ref Ac) (.ref Aa)=some false
 DM:W.kitOne K (.ref Aa) (.ref Ae)=some false
 C7:W.kitOne K (.ref Aa) (.ref Aa)=some true
 zrY:W.kitOne K (.type "bool") (.type "bool")=some true
 zmU:W.kitOne K (.type "int") (.type "bool")=some false
 zow:W.kitOne K (.type "int") (.type "int")=some true
 zsn:W.kitOne K (.type "int") (.type "list")=some false
 zrZ:W.kitOne K (.type "int") (.type "tuple")=some false
 zk8:W.kitOne K (.type "list") (.type "list")=some true
 zox:W.kitOne K (.type "str") (.type "str")=some true
 zqN:W.kitOne K (.type "tuple") (.type "list")=some false
 zfh:W.kitOne K (.type "tuple") (.type "tuple")=some true
section
variable{BC Ae Aa Cr Ab Ac Am Af AC Ah Ag Ad:Addr}
variable{P:Program}{w:World}{K:am}{mg:af}{bf:Heap}{f:Addr}{fd:FuncData}
variable(T:Txt K mg BC Ae Aa Cr Ab Ac Am Af AC Ah Ag Ad)
inductive Wd where
 | waiting
 | held
 | givenUp
 | missed
 deriving DecidableEq
def Wd.str:Wd->Str
 | .waiting => "waiting"
 | .held => "held"
 | .givenUp => "given up"
 | .missed => "missed"
def Wd.opn:Wd->Bool
 | .waiting=>true
 | .held=>true
 | _=>false
structure CsA where
 h:Addr
 w:Addr
 g:Addr
 m:Addr
def CsA.cl(cs:CsA):Wd->Addr
 | .waiting=>cs.w
 | .held=>cs.h
 | .givenUp=>cs.g
 | .missed=>cs.m
structure Pv where
 n:Int
 nm:Str
 came:Int
 span:Int
 tries:Int
 spent:Int
def Pv.fs(p:Pv):List (Str × V):=[("number",.int p.n),("sort_name",.str p.nm),("came",.int p.came),("span",.int p.span),("tries",.int p.tries),("spent",.int p.spent)]
def IsPc(cs:CsA)(H:Hp)(a:Addr)(d:Wd)(p:Pv):Prop:=∃dx,H a=some (.ins (cs.cl d) dx p.fs)
def IsPc.same{cs:CsA}{H H':Hp}{a:Addr}{d:Wd}{p:Pv}(s:Same H H')(h:IsPc cs H a d p):IsPc cs H' a d p:=let ⟨dx,e⟩:=h;⟨dx,s _ _ e⟩
structure Six(K:am)(cs:CsA):Prop where
 ow:∀d,Own K (cs.cl d)
 n1:∀d,zak K (cs.cl d) "number"
 n2:∀d,zak K (cs.cl d) "sort_name"
 n3:∀d,zak K (cs.cl d) "came"
 n4:∀d,zak K (cs.cl d) "span"
 n5:∀d,zak K (cs.cl d) "tries"
 n6:∀d,zak K (cs.cl d) "spent"
def zqO:List Str:=pl0
def zcd(T:Txt K mg BC Ae Aa Cr Ab Ac Am Af AC Ah Ag Ad):Six K (CsA.mk Ae Aa Ab Ac) where
 ow d:=match d with | .waiting=>T.AI | .held=>T.Dv | .givenUp=>T.BF | .missed=>T.Co
 n1 d:=match d with | .waiting=>T.BS | .held=>T.CL | .givenUp=>T.BT | .missed=>T.B5
 n2 d:=match d with | .waiting=>T.Bj | .held=>T.BR | .givenUp=>T.Bk | .missed=>T.Bu
 n3 d:=match d with | .waiting=>T.Cs | .held=>T.Dw | .givenUp=>T.Cu | .missed=>T.CM
 n4 d:=match d with | .waiting=>T.Ct | .held=>T.Dx | .givenUp=>T.Cv | .missed=>T.CO
 n5 d:=match d with | .waiting=>T.B0 | .held=>T.Dk | .givenUp=>T.B3 | .missed=>T.Cw
 n6 d:=match d with | .waiting=>T.B1 | .held=>T.Dl | .givenUp=>T.B4 | .missed=>T.Cy
def no6{C:Addr}(a:zak K C "number")(b:zak K C "sort_name")(c:zak K C "came")(d:zak K C "span")(e:zak K C "tries")(f:zak K C "spent"):∀g,g∈zqO->zak K C g:=λg hg=>by
 rcases mem_cons.mp hg with rfl | hg
 ·exact a
 rcases mem_cons.mp hg with rfl | hg
 ·exact b
 rcases mem_cons.mp hg with rfl | hg
 ·exact c
 rcases mem_cons.mp hg with rfl | hg
 ·exact d
 rcases mem_cons.mp hg with rfl | hg
 ·exact e
 rw[mem_singleton.mp hg]
 exact f
def zgg:FnScope pl1 pl1 (zac zaW):=fsc
include T in
theorem zgh{u:Value}(D:MfnE K "__init__" "Piece.__init__" zaW pl1 f fd u):FnOk P w K mg bf CX0 1 f fd pl1 (br K zqO):=by
 refine D.F.ok zgg (λvs H Q E h=>?_) (λc A o s H vs Q E hr h=>?_)
 ·obtain⟨x,C,dx,args,rfl,_,_,_,l,_⟩:=h
  rw[length_cons,l]
  rfl
 obtain⟨x,C,dx,args,rfl,hx,cl,no,l,q⟩:=h
 obtain⟨a1,a2,a3,a4,a5,a6,rfl⟩:=ul6 l
 refine⟨_,(zab (zaP (pv 0) (pv 1))
  (zab (zaP (pv 0) (pv 2))
  (zab (zaP (pv 0) (pv 3))
  (zab (zaP (pv 0) (pv 4))
  (zab (zaP (pv 0) (pv 5))
  (zag (zaP (pv 0) (pv 6)))))))),?_⟩
 refine⟨_,rfl,_,rfl,x,C,dx,_,rfl,hx,cl,no _ (by decide),(by show(0:Nat)<1000;decide),λH1 k1 h1=>?_⟩
 have h1:H1 x=some (.ins C dx [("number",a1)]):=by
  rw[h1]
  rfl
 refine⟨_,rfl,_,rfl,x,C,dx,_,rfl,h1,cl,no _ (by decide),(by show(1:Nat)<1000;decide),λH2 k2 h2=>?_⟩
 have h2:H2 x=some (.ins C dx [("number",a1),("sort_name",a2)]):=by
  rw[h2]
  rfl
 refine⟨_,rfl,_,rfl,x,C,dx,_,rfl,h2,cl,no _ (by decide),(by show(2:Nat)<1000;decide),λH3 k3 h3=>?_⟩
 have h3:H3 x=some (.ins C dx [("number",a1),("sort_name",a2),("came",a3)]):=by
  rw[h3]
  rfl
 refine⟨_,rfl,_,rfl,x,C,dx,_,rfl,h3,cl,no _ (by decide),(by show(3:Nat)<1000;decide),λH4 k4 h4=>?_⟩
 have h4:H4 x=some (.ins C dx [("number",a1),("sort_name",a2),("came",a3),("span",a4)]):=by
  rw[h4]
  rfl
 refine⟨_,rfl,_,rfl,x,C,dx,_,rfl,h4,cl,no _ (by decide),(by show(4:Nat)<1000;decide),λH5 k5 h5=>?_⟩
 have h5:H5 x=some (.ins C dx [("number",a1),("sort_name",a2),("came",a3),("span",a4),("tries",a5)]):=by
  rw[h5]
  rfl
 refine⟨_,rfl,_,rfl,x,C,dx,_,rfl,h5,cl,no _ (by decide),(by show(5:Nat)<1000;decide),λH6 k6 h6=>?_⟩
 have h6:H6 x=some (.ins C dx [("number",a1),("sort_name",a2),("came",a3),("span",a4),("tries",a5),("spent",a6)]):=by
  rw[h6]
  rfl
 exact q H6 (k1.trans (k2.trans (k3.trans (k4.trans (k5.trans k6))))) h6
inductive zkf(cs:CsA)(d:Wd)(vs:List V)(H:Hp)(Q:VK)(_:XK):Prop
 | mk (a:Addr) (p:Pv) (_:vs=[.ref a]) (_:IsPc cs H a d p) (_:Q (.bl d.opn) H)
inductive zuv(cs:CsA)(vs:List V)(H:Hp)(Q:VK)(_:XK):Prop
 | mk (a:Addr) (_:vs=[.ref a]) (_:Q (.bl false) H)
def Pv.left(p:Pv)(d:Wd):Int:=if d.opn=true then p.tries*p.span-p.spent else 0
structure Pv.Ok(p:Pv):Prop where
 s0:1<=p.span
 s1:p.span<=4
 t1:p.tries<=3
 t0:0<=p.tries
inductive zoy(cs:CsA)(vs:List V)(H:Hp)(Q:VK)(_:XK):Prop
 | mk (a:Addr) (d:Wd) (p:Pv) (_:vs=[.ref a]) (_:IsPc cs H a d p) (_:p.Ok) (_:Q (.int (p.left d)) H)
def zgS:FnScope pl2 pl2 (zac zcz):=fsc
include T in
theorem zgT(D:Mfn K "is_open" "Piece.is_open" zcz pl2 f fd):FnOk P w K mg bf CX0 1 f fd pl2 (zuv (CsA.mk Ae Aa Ab Ac)):=by
 refine D.F.ok zgS (by walk_at "z") (λc A o s H vs Q E hr h=>?_)
 obtain⟨a,rfl,q⟩:=h
 exact⟨_,(zag (zah zdj)),q⟩
def zfi:FnScope pl2 pl2 (zac bO):=fsc
include T in
theorem zfj(D:Mfn K "is_open" "Waiting.is_open" bO pl2 f fd):FnOk P w K mg bf CX0 1 f fd pl2 (zkf (CsA.mk Ae Aa Ab Ac) .waiting):=by
 refine D.F.ok zfi (by walk_at "z") (λc A o s H vs Q E hr h=>?_)
 obtain⟨a,p,rfl,hp,q⟩:=h
 exact⟨_,(zag (zah zdj)),q⟩
def zhM:FnScope pl2 pl2 (zac bM):=fsc
include T in
theorem zhN(D:Mfn K "is_open" "Held.is_open" bM pl2 f fd):FnOk P w K mg bf CX0 1 f fd pl2 (zkf (CsA.mk Ae Aa Ab Ac) .held):=by
 refine D.F.ok zhM (by walk_at "z") (λc A o s H vs Q E hr h=>?_)
 obtain⟨a,p,rfl,hp,q⟩:=h
 exact⟨_,(zag (zah zdj)),q⟩
def zfk:FnScope pl2 pl2 (zac bL):=fsc
include T in
theorem zfl(D:Mfn K "work_left" "Piece.work_left" bL pl2 f fd)(BG:∀d,MOk CX0 P w K mg bf 1 (CsA.cl (CsA.mk Ae Aa Ab Ac) d) "is_open" (zkf (CsA.mk Ae Aa Ab Ac) d)):FnOk P w K mg bf CX0 2 f fd pl2 (zoy (CsA.mk Ae Aa Ab Ac)):=by
 refine D.F.ok zfk (by walk_at "z") (λc A o s H vs Q E hr h=>?_)
 obtain⟨a,d,p,rfl,⟨dx,e⟩,ok,q⟩:=h
 refine⟨_,(zag (zah (zeg (av (zaI (k:=1) (pv 0) hr.o zaD)) (zaz zgI (zaz zbJ (zai (pv 0) rfl) (zai (pv 0) rfl)) (zai (pv 0) rfl)) zae))),?_⟩
 have S:=zcd T
 refine⟨_,rfl,a,_,dx,_,_,rfl,e,rfl,BG d,a,p,rfl,⟨dx,e⟩,?_⟩
 unfold Pv.left at q
 cases ho:d.opn with
 | false=>
   rw[ho]at q
   exact⟨_,rfl,iteF q⟩
 | true=>
   rw[ho]at q
   refine⟨_,rfl,iteT ?_⟩
   refine⟨_,rfl,a,_,dx,_,_,rfl,e,(S.ow d).cl,S.n5 d,rfl,_,rfl,a,_,dx,_,_,rfl,e,(S.ow d).cl,S.n4 d,rfl,_,_,rfl,rfl,.inl ⟨?_,?_⟩,_,rfl,a,_,dx,_,_,rfl,e,(S.ow d).cl,S.n6 d,rfl,_,_,rfl,rfl,q⟩
   ·have:=ok.t0
    show(-2 ^ 64:Int)<p.tries
    omega
   ·have:=ok.t1
    show p.tries<(2 ^ 64:Int)
    omega
inductive ziW(cs:CsA)(d:Wd)(vs:List V)(H:Hp)(Q:VK)(_:XK):Prop
 | mk (a:Addr) (p:Pv) (_:vs=[.ref a]) (_:IsPc cs H a d p) (_:Q (.str d.str) H)
inductive zsa(cs:CsA)(vs:List V)(H:Hp)(Q:VK)(_:XK):Prop
 | mk (a:Addr) (d:Wd) (p:Pv) (_:vs=[.ref a]) (_:IsPc cs H a d p) (_:∀t H',Same H H'->H' t=some (.tup [.str d.str,.str p.nm,.int p.came,.int p.tries,.int p.spent])->Q (.ref t) H')
def zhO:FnScope pl2 pl2 (zac bN):=fsc
include T in
theorem zhP(D:Mfn K "word" "Waiting.word" bN pl2 f fd):FnOk P w K mg bf CX0 1 f fd pl2 (ziW (CsA.mk Ae Aa Ab Ac) .waiting):=by
 refine D.F.ok zhO (by walk_at "z") (λc A o s H vs Q E hr h=>?_)
 obtain⟨a,p,rfl,hp,q⟩:=h
 exact⟨_,(zag (zah zaT)),q⟩
def zkg:FnScope pl2 pl2 (zac zeH):=fsc
include T in
theorem zkh(D:Mfn K "word" "Held.word" zeH pl2 f fd):FnOk P w K mg bf CX0 1 f fd pl2 (ziW (CsA.mk Ae Aa Ab Ac) .held):=by
 refine D.F.ok zkg (by walk_at "z") (λc A o s H vs Q E hr h=>?_)
 obtain⟨a,p,rfl,hp,q⟩:=h
 exact⟨_,(zag (zah zaT)),q⟩
def zhQ:FnScope pl2 pl2 (zac bQ):=fsc
include T in
theorem zhR(D:Mfn K "word" "GivenUp.word" bQ pl2 f fd):FnOk P w K mg bf CX0 1 f fd pl2 (ziW (CsA.mk Ae Aa Ab Ac) .givenUp):=by
 refine D.F.ok zhQ (by walk_at "z") (λc A o s H vs Q E hr h=>?_)
 obtain⟨a,p,rfl,hp,q⟩:=h
 exact⟨_,(zag (zah zaT)),q⟩
def zid:FnScope pl2 pl2 (zac zdt):=fsc
include T in
theorem zie(D:Mfn K "word" "Missed.word" zdt pl2 f fd):FnOk P w K mg bf CX0 1 f fd pl2 (ziW (CsA.mk Ae Aa Ab Ac) .missed):=by
 refine D.F.ok zid (by walk_at "z") (λc A o s H vs Q E hr h=>?_)
 obtain⟨a,p,rfl,hp,q⟩:=h
 exact⟨_,(zag (zah zaT)),q⟩
def zki:FnScope pl2 pl2 (zac zeG):=fsc
include T in
theorem zkj(D:Mfn K "row" "Piece.row" zeG pl2 f fd)(Eu:∀d,MOk CX0 P w K mg bf 1 (CsA.cl (CsA.mk Ae Aa Ab Ac) d) "word" (ziW (CsA.mk Ae Aa Ab Ac) d)):FnOk P w K mg bf CX0 2 f fd pl2 (zsa (CsA.mk Ae Aa Ab Ac)):=by
 refine D.F.ok zki (by walk_at "z") (λc A o s H vs Q E hr h=>?_)
 obtain⟨a,d,p,rfl,⟨dx,e⟩,q⟩:=h
 refine⟨_,(zag (zah (zaM (pai (zad (zaI (k:=1) (pv 0) hr.o zaD) (zad (zai (pv 0) rfl) (zad (zai (pv 0) rfl) (zad (zai (pv 0) rfl) (zad (zai (pv 0) rfl) zaL))))))))),?_⟩
 have S:=zcd T
 refine⟨_,rfl,a,_,dx,_,_,rfl,e,rfl,Eu d,a,p,rfl,⟨dx,e⟩,?_⟩
 refine⟨_,rfl,a,_,dx,_,_,rfl,e,(S.ow d).cl,S.n2 d,rfl,_,rfl,a,_,dx,_,_,rfl,e,(S.ow d).cl,S.n3 d,rfl,_,rfl,a,_,dx,_,_,rfl,e,(S.ow d).cl,S.n5 d,rfl,_,rfl,a,_,dx,_,_,rfl,e,(S.ow d).cl,S.n6 d,rfl,si5,λt H1 s1 n1 h1=>q t H1 s1 h1⟩
def Pv.fail(p:Pv):Wd × Pv:=if p.tries-1=0 then(.givenUp,{ p with tries:=p.tries-1,spent:=0 })else(.waiting,{ p with tries:=p.tries-1,spent:=0 })
def Pv.step(p:Pv):Wd × Pv:=if p.spent+1=p.span then p.fail else(.waiting,{ p with spent:=p.spent+1 })
inductive zhS(cs:CsA)(g:Pv->Wd × Pv)(d:Wd:=.waiting)(vs:List V)(H:Hp)(Q:VK)(_:XK):Prop
 | mk (a:Addr) (p:Pv) (_:vs=[.ref a]) (_:IsPc cs H a d p) (_:∀a' H',Same H H'->IsPc cs H' a' (g p).1 (g p).2->Q (.ref a') H')
def zif:FnScope pl2 pl2 (zac zds):=fsc
include T in
theorem zig(D:Mfn K "missed" "Held.missed" zds pl2 f fd)(DW:Mak P w K mg bf "Missed" Ac 1 pl0 (.int 0)):FnOk P w K mg bf CX0 3 f fd pl2 (zhS (CsA.mk Ae Aa Ab Ac) (λp=>(.missed,p)) .held):=by
 refine D.F.ok zif (by walk_at "z") (λc A o s H vs Q E hr h=>?_)
 obtain⟨a,p,rfl,⟨dx,e⟩,qY⟩:=h
 have S:=zcd T
 exact⟨_,(zag (zah (zop DW hr.o rfl (pai (zad (zai (pv 0) rfl) (zad (zai (pv 0) rfl) (zad (zai (pv 0) rfl) (zad (zai (pv 0) rfl) (zad (zai (pv 0) rfl) (zad (zai (pv 0) rfl) zaL)))))))))),_,rfl,a,_,dx,_,_,rfl,e,(S.ow .held).cl,S.n1 .held,rfl,_,rfl,a,_,dx,_,_,rfl,e,(S.ow .held).cl,S.n2 .held,rfl,_,rfl,a,_,dx,_,_,rfl,e,(S.ow .held).cl,S.n3 .held,rfl,_,rfl,a,_,dx,_,_,rfl,e,(S.ow .held).cl,S.n4 .held,rfl,_,rfl,a,_,dx,_,_,rfl,e,(S.ow .held).cl,S.n5 .held,rfl,_,rfl,a,_,dx,_,_,rfl,e,(S.ow .held).cl,S.n6 .held,rfl,rfl,λa' dx' H' s' n' h'=>qY a' H' s' ⟨dx',h'⟩⟩
inductive zma(cs:CsA)(vs:List V)(H:Hp)(Q:VK)(_:XK):Prop
 | mk (a:Addr) (p:Pv) (nm:Str) (_:vs=[.ref a,.str nm]) (_:IsPc cs H a .waiting p) (_:∀a' H',Same H H'->IsPc cs H' a' .waiting { p with nm:=nm }->Q (.ref a') H')
def zeJ:FnScope pl3 pl3 (zac zbN):=fsc
include T in
theorem zeK(D:Mfn K "resorted" "Waiting.resorted" zbN pl3 f fd)(Ax:Mak P w K mg bf "Waiting" Aa 1 pl0 (.int 0)):FnOk P w K mg bf CX0 3 f fd pl3 (zma (CsA.mk Ae Aa Ab Ac)):=by
 refine D.F.ok zeJ (by walk_at "z") (λc A o s H vs Q E hr h=>?_)
 obtain⟨a,p,nm,rfl,⟨dx,e⟩,qY⟩:=h
 have S:=zcd T
 exact⟨_,(zag (zah (zop Ax hr.o rfl (pai (zad (zai (pv 0) rfl) (zad (pv 1) (zad (zai (pv 0) rfl) (zad (zai (pv 0) rfl) (zad (zai (pv 0) rfl) (zad (zai (pv 0) rfl) zaL)))))))))),_,rfl,a,_,dx,_,_,rfl,e,(S.ow .waiting).cl,S.n1 .waiting,rfl,_,rfl,_,rfl,a,_,dx,_,_,rfl,e,(S.ow .waiting).cl,S.n3 .waiting,rfl,_,rfl,a,_,dx,_,_,rfl,e,(S.ow .waiting).cl,S.n4 .waiting,rfl,_,rfl,a,_,dx,_,_,rfl,e,(S.ow .waiting).cl,S.n5 .waiting,rfl,_,rfl,a,_,dx,_,_,rfl,e,(S.ow .waiting).cl,S.n6 .waiting,rfl,rfl,λa' dx' H' s' n' h'=>qY a' H' s' ⟨dx',h'⟩⟩
def zdg:FnScope ["self","tries"] pl2 (zac zcg):=fsc
include T in
theorem zgi(D:Mfn K "failed" "Waiting.failed" zcg pl2 f fd)(Ax:Mak P w K mg bf "Waiting" Aa 1 pl0 (.int 0))(DB:Mak P w K mg bf "GivenUp" Ab 1 pl0 (.int 0)):FnOk P w K mg bf CX0 3 f fd pl2 (zhS (CsA.mk Ae Aa Ab Ac) Pv.fail):=by
 refine D.F.ok zdg (by walk_at "z") (λc A o s H vs Q E hr h=>?_)
 obtain⟨a,p,rfl,⟨dx,e⟩,qY⟩:=h
 have S:=zcd T
 refine⟨_,(zab (zap (i:=1) zdg.nd rfl (Or.inl rfl) (zaz zgI (zai (pv 0) rfl) zae))
  (zab (au (zas zdk (pv 1) zae (zaB _)) (zag (zah (zjc DB hr.o rfl (pai (zad (zai (pv 0) rfl) (zad (zai (pv 0) rfl) (zad (zai (pv 0) rfl) (zad (zai (pv 0) rfl) (zad (pv 1) zaL))))))))) zaw)
  (zag (zah (zjc Ax hr.o rfl (pai (zad (zai (pv 0) rfl) (zad (zai (pv 0) rfl) (zad (zai (pv 0) rfl) (zad (zai (pv 0) rfl) (zad (pv 1) zaL))))))))))),?_⟩
 refine⟨_,rfl,a,_,dx,_,_,rfl,e,(S.ow .waiting).cl,S.n5 .waiting,rfl,_,_,rfl,rfl,?_⟩
 refine⟨_,rfl,rfl,_,rfl,?_⟩
 unfold Pv.fail at qY
 by_cases c:p.tries-1=0
 ·rw[if_pos c]at qY
  rw[decide_eq_true (show V.int (p.tries-1)=V.int 0 by rw[c])]
  refine iteT ⟨_,rfl,a,_,dx,_,_,rfl,e,(S.ow .waiting).cl,S.n1 .waiting,rfl,_,rfl,a,_,dx,_,_,rfl,e,(S.ow .waiting).cl,S.n2 .waiting,rfl,_,rfl,a,_,dx,_,_,rfl,e,(S.ow .waiting).cl,S.n3 .waiting,rfl,_,rfl,a,_,dx,_,_,rfl,e,(S.ow .waiting).cl,S.n4 .waiting,rfl,_,rfl,rfl,λa' dx' H' s' n' h'=>qY a' H' s' ⟨dx',h'⟩⟩
 ·rw[if_neg c]at qY
  rw[tL (show ¬V.int (p.tries-1)=V.int 0 from λz=>c (by injection z))]
  refine iteF ⟨_,rfl,a,_,dx,_,_,rfl,e,(S.ow .waiting).cl,S.n1 .waiting,rfl,_,rfl,a,_,dx,_,_,rfl,e,(S.ow .waiting).cl,S.n2 .waiting,rfl,_,rfl,a,_,dx,_,_,rfl,e,(S.ow .waiting).cl,S.n3 .waiting,rfl,_,rfl,a,_,dx,_,_,rfl,e,(S.ow .waiting).cl,S.n4 .waiting,rfl,_,rfl,rfl,λa' dx' H' s' n' h'=>qY a' H' s' ⟨dx',h'⟩⟩
def zcO:FnScope ["self","spent"] pl2 (zac bP):=fsc
include T in
theorem zfm(D:Mfn K "stepped" "Waiting.stepped" bP pl2 f fd)(Ax:Mak P w K mg bf "Waiting" Aa 1 pl0 (.int 0))(CQ:MOk CX0 P w K mg bf 3 Aa "failed" (zhS (CsA.mk Ae Aa Ab Ac) Pv.fail)):FnOk P w K mg bf CX0 4 f fd pl2 (zhS (CsA.mk Ae Aa Ab Ac) Pv.step):=by
 refine D.F.ok zcO (by walk_at "z") (λc A o s H vs Q E hr h=>?_)
 obtain⟨a,p,rfl,⟨dx,e⟩,qY⟩:=h
 have S:=zcd T
 refine⟨_,(zab (zap (i:=1) zcO.nd rfl (Or.inl rfl) (zaz ay (zai (pv 0) rfl) zae))
  (zab (au (zas zdk (pv 1) (zai (pv 0) rfl) (zaB _)) (zag (zah (zaI (k:=3) (pv 0) hr.o zaD))) zaw)
  (zag (zah (zop Ax hr.o rfl (pai (zad (zai (pv 0) rfl) (zad (zai (pv 0) rfl) (zad (zai (pv 0) rfl) (zad (zai (pv 0) rfl) (zad (zai (pv 0) rfl) (zad (pv 1) zaL)))))))))))),?_⟩
 refine⟨_,rfl,a,_,dx,_,_,rfl,e,(S.ow .waiting).cl,S.n6 .waiting,rfl,_,_,rfl,rfl,?_⟩
 refine⟨_,rfl,_,rfl,a,_,dx,_,_,rfl,e,(S.ow .waiting).cl,S.n4 .waiting,rfl,rfl,_,rfl,?_⟩
 unfold Pv.step at qY
 by_cases c:p.spent+1=p.span
 ·rw[if_pos c]at qY
  rw[decide_eq_true (show V.int (p.spent+1)=V.int p.span by rw[c])]
  exact iteT ⟨_,rfl,a,_,dx,_,_,rfl,e,rfl,CQ,a,p,rfl,⟨dx,e⟩,qY⟩
 ·rw[if_neg c]at qY
  rw[tL (show ¬V.int (p.spent+1)=V.int p.span from λz=>c (by injection z))]
  refine iteF ⟨_,rfl,a,_,dx,_,_,rfl,e,(S.ow .waiting).cl,S.n1 .waiting,rfl,_,rfl,a,_,dx,_,_,rfl,e,(S.ow .waiting).cl,S.n2 .waiting,rfl,_,rfl,a,_,dx,_,_,rfl,e,(S.ow .waiting).cl,S.n3 .waiting,rfl,_,rfl,a,_,dx,_,_,rfl,e,(S.ow .waiting).cl,S.n4 .waiting,rfl,_,rfl,a,_,dx,_,_,rfl,e,(S.ow .waiting).cl,S.n5 .waiting,rfl,_,rfl,rfl,λa' dx' H' s' n' h'=>qY a' H' s' ⟨dx',h'⟩⟩
def zuw(K:am)(H:Hp)(x:V):Prop:=∃t,TyOf K H x t/\(W.kitOne K t (.type "bool")=some true\/(W.kitOne K t (.type "bool")=some false/\W.kitOne K t (.type "int")=some false))
def betw(a b:Nat)(c:Nat):Bool:=decide (a<=c)&&decide (c<=b)
inductive zqP(vs:List V)(H:Hp)(Q:VK)(_:XK):Prop
 | mk (x y z:Str) (a b:Nat) (_:vs=[.str x,.str y,.str z]) (_:y.cps.toList=[a]) (_:z.cps.toList=[b]) (_:x.length<=100) (_:∀H',Same H H'->Q (.bl (x.cps.toList.all (betw a b))) H')
def zmV(cs:List Nat):Bool:=decide (1<=cs.length/\cs.length<=8)&&cs.all (betw 97 122)
def ca:(Str.ofString "a").cps.toList=[97]:=by decide +kernel
def cz:(Str.ofString "z").cps.toList=[122]:=by decide +kernel
def WhB(K:am)(H:Hp)(x:V)(lo hi:Int)(b:Bool):Prop:=(∃i,x=.int i/\b=(decide (lo<=i)&&decide (i<=hi)))\/(zuw K H x/\b=false)
inductive zbo(K:am)(vs:List V)(H:Hp)(Q:VK)(_:XK):Prop
 | mk (x:V) (lo hi:Int) (b:Bool) (_:vs=[x,.int lo,.int hi]) (_:WhB K H x lo hi b) (_:Q (.bl b) H)
inductive zqQ(vs:List V)(H:Hp)(Q:VK)(_:XK):Prop
 | mk (z:Str) (_:vs=[.str z]) (_:z.length<=100) (_:zmV z.cps.toList=true) (_:∀H',Same H H'->Q (.bl true) H')
inductive zsb(vs:List V)(H:Hp)(Q:VK)(_:XK):Prop
 | mk (p:Addr) (t u:Int) (_:vs=[.ref p]) (_:H p=some (.tup [.int t,.int u])) (_:0<=t) (_:t<=1000000) (_:1<=u) (_:u<=12) (_:Q (.bl true) H)
structure SR where
 nm:Str
 a:Int
 b:Int
 c:Int
 d:Int
 sp:Int
 tr:Int
structure SR.Ok(r:SR):Prop where
 nm:zmV r.nm.cps.toList=true
 nl:r.nm.length<=100
 a0:0<=r.a
 a1:r.a<=1000000
 b0:1<=r.b
 b1:r.b<=12
 c0:0<=r.c
 c1:r.c<=1000000
 d0:1<=r.d
 d1:r.d<=12
 s0:1<=r.sp
 s1:r.sp<=4
 t0:1<=r.tr
 t1:r.tr<=3
def IsSR(H:Hp)(p:Addr)(r:SR):Prop:=∃pw ps,H p=some (.tup [.str r.nm,.ref pw,.ref ps,.int r.sp,.int r.tr])/\H pw=some (.tup [.int r.a,.int r.b])/\H ps=some (.tup [.int r.c,.int r.d])
def IsSR.same{H H':Hp}{p:Addr}{r:SR}(s:Same H H')(h:IsSR H p r):IsSR H' p r:=let ⟨pw,ps,a,b,c⟩:=h;⟨pw,ps,s _ _ a,s _ _ b,s _ _ c⟩
def IsSR.but{H H':Hp}{p q:Addr}{r:SR}{o:HO}(s:But q H H')(hq:H q=some o)(nt:∀xs,o≠.tup xs)(h:IsSR H p r):IsSR H' p r:=by
 obtain⟨pw,ps,a,b,c⟩:=h
 have ne:∀ {z xs},H z=some (.tup xs)->z≠q:=λe z=>by rw[z,hq]at e;exact nt _ (tF e)
 exact⟨pw,ps,s _ _ (ne a) a,s _ _ (ne b) b,s _ _ (ne c) c⟩
structure IsSRs(H:Hp)(l:Addr)(xs:List (Addr × SR)):Prop where
 at_:H l=some (.lst (xs.map λq=>V.ref q.1))
 sr:∀q,q∈xs->IsSR H q.1 q.2
def IsSRs.same{H H':Hp}{l:Addr}{xs:List (Addr × SR)}(s:Same H H')(h:IsSRs H l xs):IsSRs H' l xs:=⟨s _ _ h.at_,λq hq=>(h.sr q hq).same s⟩
def IsSRs.but{H H':Hp}{l q:Addr}{xs:List (Addr × SR)}{o:HO}(s:But q H H')(hq:H q=some o)(nt:∀xs,o≠.tup xs)(ne:l≠q)(h:IsSRs H l xs):IsSRs H' l xs:=⟨s _ _ ne h.at_,λz hz=>(h.sr z hz).but s hq nt⟩
def SR.low(r:SR):SR := { r with a:=r.a / M1.gd r.a r.b,b:=r.b / M1.gd r.a r.b,c:=r.c / M1.gd r.c r.d,d:=r.d / M1.gd r.c r.d }
def zji{t b:Int}(h0:0<=t)(h1:t<=1000000)(hb:1<=b):0<=t / M1.gd t b/\t / M1.gd t b<=1000000:=by
 have g:=M1.gd_pos (x:=t) (show 0<b by omega)
 have a:=qi h0 (show 0<=M1.gd t b by omega)
 have b:=rD (M1.gd t b) h0
 omega
def SR.Ok.low{r:SR}(h:r.Ok):r.low.Ok where
 nm:=h.nm
 nl:=h.nl
 a0:=(zji h.a0 h.a1 h.b0).1
 a1:=(zji h.a0 h.a1 h.b0).2
 b0:=M1.low_bot (show 0<r.b from h.b0)
 b1:=pK (M1.low_bot_le (show 0<r.b from h.b0)) h.b1
 c0:=(zji h.c0 h.c1 h.d0).1
 c1:=(zji h.c0 h.c1 h.d0).2
 d0:=M1.low_bot (show 0<r.d from h.d0)
 d1:=pK (M1.low_bot_le (show 0<r.d from h.d0)) h.d1
 s0:=h.s0
 s1:=h.s1
 t0:=h.t0
 t1:=h.t1
def SR.Ok.low2{r:SR}(h:r.Ok):r.low.low=r.low:=by
 have e1:=M1.low_one (M1.gd_low (t:=r.a) (show 0<r.b from h.b0))
 have e2:=M1.low_one (M1.gd_low (t:=r.c) (show 0<r.d from h.d0))
 show({ r with a:=_,b:=_,c:=_,d:=_ }:SR) = { r with a:=_,b:=_,c:=_,d:=_ }
 simp only[SR.mk.injEq]
 exact⟨trivial,e1.1,e1.2,e2.1,e2.2,trivial,trivial⟩
def SR.Ok.wh{lo hi i:Int}{H:Hp}(a:lo<=i)(b:i<=hi):WhB K H (.int i) lo hi true:=.inl ⟨i,rfl,by rw[decide_eq_true a,decide_eq_true b];rfl⟩
inductive zoz(vs:List V)(H:Hp)(Q:VK)(_:XK):Prop
 | mk (p:Addr) (r:SR) (_:vs=[.ref p]) (_:IsSR H p r) (_:r.Ok) (_:∀H',Same H H'->Q (.bl true) H')
structure RsOk(rs:List SR):Prop where
 l0:1<=rs.length
 l1:rs.length<=8
 ok:∀r,r∈rs->r.Ok
 nd:∀(i j:Nat) r s,rs[i]?=some r->rs[j]?=some s->r.nm=s.nm->i=j
inductive zkk(vs:List V)(H:Hp)(Q:VK)(_:XK):Prop
 | mk (l:Addr) (zs:List (Addr × SR)) (_:vs=[.ref l]) (_:IsSRs H l zs) (_:RsOk (zs.map (·.2))) (_:∀H',Same H H'->Q (.bl true) H')
inductive zsc(vs:List V)(H:Hp)(Q:VK)(_:XK):Prop
 | mk (x y:Int) (_:vs=[.int x,.int y]) (_:0<=x) (_:0<=y) (_:Q (.int (M1.gd x y)) H)
inductive zmb(vs:List V)(H:Hp)(Q:VK)(_:XK):Prop
 | mk (t b:Int) (_:vs=[.int t,.int b]) (_:0<b) (_:b<1000000000000000000000000000000000000000000000000000000000000) (_:∀p H',Same H H'->H' p=some (.tup [.int (t / M1.gd t b),.int (b / M1.gd t b)])->Q (.ref p) H')
inductive zoA(vs:List V)(H:Hp)(Q:VK)(_:XK):Prop
 | mk (q:Addr) (t b:Int) (_:vs=[.ref q]) (_:H q=some (.tup [.int t,.int b])) (_:1<=b) (_:b<=12) (_:∀p H',Same H H'->H' p=some (.tup [.int (t / M1.gd t b),.int (b / M1.gd t b)])->Q (.ref p) H')
def soF(nm:Str)(pw ps:Addr)(sp tr:Int):List (Str × V):=[("name",.str nm),("weight",.ref pw),("speed",.ref ps),("span",.int sp),("tries",.int tr)]
def soN:List Str:=["name","weight","speed","span","tries"]
def IsSo(cs:Addr)(H:Hp)(a:Addr)(r:SR):Prop:=∃dx pw ps,H a=some (.ins cs dx (soF r.nm pw ps r.sp r.tr))/\H pw=some (.tup [.int r.a,.int r.b])/\H ps=some (.tup [.int r.c,.int r.d])
def IsSo.same{cs:Addr}{H H':Hp}{a:Addr}{r:SR}(s:Same H H')(h:IsSo cs H a r):IsSo cs H' a r:=let ⟨dx,pw,ps,x,y,z⟩:=h;⟨dx,pw,ps,s _ _ x,s _ _ y,s _ _ z⟩
inductive zmc(K:am)(vs:List V)(H:Hp)(Q:VK)(_:XK):Prop
 | mk (x C dx pw ps:Addr) (r:SR) (_:vs=[.ref x,.str r.nm,.ref pw,.ref ps,.int r.sp,.int r.tr]) (_:H x=some (.ins C dx [])) (_:Cls K C) (_:(∀f,f∈soN->zak K C f)) (_:H pw=some (.tup [.int r.a,.int r.b])) (_:H ps=some (.tup [.int r.c,.int r.d])) (_:r.Ok) (_:∀H' pw' ps',But x H H'->H' x=some (.ins C dx (soF r.nm pw' ps' r.sp r.tr))->H' pw'=some (.tup [.int r.low.a,.int r.low.b])->H' ps'=some (.tup [.int r.low.c,.int r.low.d])->Q .non H')
inductive zoB(cs:Addr)(vs:List V)(H:Hp)(Q:VK)(_:XK):Prop
 | mk (pw ps:Addr) (r:SR) (_:vs=[.str r.nm,.ref pw,.ref ps,.int r.sp,.int r.tr]) (_:H pw=some (.tup [.int r.a,.int r.b])) (_:H ps=some (.tup [.int r.c,.int r.d])) (_:r.Ok) (_:∀a H',Same H H'->IsSo cs H' a r.low->Q (.ref a) H')
def ztt{cs:Addr}(cl:Cls K cs)(no:∀f,f∈soN->zak K cs f):∀vs H Q E,zoB cs vs H Q E->∀y dx,H y=none->H dx=none->dx≠y->zmc K (.ref y::vs) (upd (upd H dx (.own y)) y (.ins cs dx [])) (λv H2=>v=.non/\Q (.ref y) H2) E:=by
 rintro vs H Q E ⟨pw,ps,r,rfl,h1,h2,ok,q⟩ y dx ny nd ne
 have up:∀ {z o},H z=some o->(upd (upd H dx (.own y)) y (.ins cs dx [])) z=some o:=λ{z o} h=>by
  rw[zau (zaA h ny),zau (zaA h nd)]
  exact h
 refine⟨y,cs,dx,pw,ps,r,rfl,zan,cl,no,up h1,up h2,ok,λH' pw' ps' k a b c=>⟨rfl,q y H' (λz o hz=>k z o (zaA hz ny) (up hz)) ⟨dx,pw',ps',a,b,c⟩⟩⟩
inductive zoC(cs:Addr)(vs:List V)(H:Hp)(Q:VK)(_:XK):Prop
 | mk (a:Addr) (r:SR) (_:vs=[.ref a]) (_:IsSo cs H a r) (_:∀p H',Same H H'->IsSR H' p r->Q (.ref p) H')
inductive zoD(cs:Addr)(vs:List V)(H:Hp)(Q:VK)(_:XK):Prop
 | mk (p:Addr) (r:SR) (_:vs=[.ref p]) (_:IsSR H p r) (_:r.Ok) (_:∀a H',Same H H'->IsSo cs H' a r.low->Q (.ref a) H')
def IsSt(ct:Addr)(H:Hp)(a:Addr)(rs:List SR):Prop:=∃dx l xs,H a=some (.ins ct dx [("rows",.ref l)])/\IsSRs H l xs/\xs.map (·.2)=rs
def IsSt.same{ct:Addr}{H H':Hp}{a:Addr}{rs:List SR}(s:Same H H')(h:IsSt ct H a rs):IsSt ct H' a rs:=let ⟨dx,l,xs,x,y,z⟩:=h;⟨dx,l,xs,s _ _ x,y.same s,z⟩
inductive zmd(K:am)(vs:List V)(H:Hp)(Q:VK)(_:XK):Prop
 | mk (x C dx l:Addr) (xs:List (Addr × SR)) (_:vs=[.ref x,.ref l]) (_:H x=some (.ins C dx [])) (_:Cls K C) (_:zak K C "rows") (_:IsSRs H l xs) (_:RsOk (xs.map (·.2))) (_:∀H' m ys,But x H H'->H' x=some (.ins C dx [("rows",.ref m)])->IsSRs H' m ys->ys.map (·.2)=xs.map (·.2.low)->Q .non H')
inductive zme(ct:Addr)(vs:List V)(H:Hp)(Q:VK)(_:XK):Prop
 | mk (l:Addr) (xs:List (Addr × SR)) (_:vs=[.ref l]) (_:IsSRs H l xs) (_:RsOk (xs.map (·.2))) (_:∀a H',Same H H'->IsSt ct H' a (xs.map (·.2.low))->Q (.ref a) H')
def ztu{ct:Addr}(cl:Cls K ct)(no:zak K ct "rows"):∀vs H Q E,zme ct vs H Q E->∀y dx,H y=none->H dx=none->dx≠y->zmd K (.ref y::vs) (upd (upd H dx (.own y)) y (.ins ct dx [])) (λv H2=>v=.non/\Q (.ref y) H2) E:=by
 rintro vs H Q E ⟨l,xs,rfl,g,k,q⟩ y dx ny nd ne
 have up:Same H (upd (upd H dx (.own y)) y (.ins ct dx [])):=λz o h=>by
  rw[zau (zaA h ny),zau (zaA h nd)]
  exact h
 exact⟨y,ct,dx,l,xs,rfl,zan,cl,no,g.same up,k,λH' m ys bt hy hm em=>⟨rfl,q y H' (λw o hw=>bt w o (zaA hw ny) (up w o hw)) ⟨dx,m,ys,hy,hm,em⟩⟩⟩
inductive zej(cs ct:Addr)(vs:List V)(H:Hp)(Q:VK)(_:XK):Prop
 | mk (a:Addr) (rs:List SR) (r:SR) (_:vs=[.ref a,.str r.nm]) (_:IsSt ct H a rs) (_:rs.length<=8) (_:(∀r,r∈rs->r.Ok)) (_:r∈rs) (_:(∀s,s∈rs->s.nm=r.nm->s=r)) (_:∀b H',Same H H'->IsSo cs H' b r.low->Q (.ref b) H')
def fF:FnScope pl4 pl4 (zac zfT):=fsc
include T in
theorem zla(D:Dfn K mg "is_whole" zfT pl4 f fd):Cal P w K mg bf "is_whole" 1 pl4 (zbo K):=by
 refine D.cal (D.F.ok fF (by walk_at "z") (λc A o s H vs Q E hr h=>?_))
 obtain⟨x,lo,hi,b,rfl,h,q⟩:=h
 refine⟨_,(zab (au (PW.pt (zjM (av (zay (zdc (n := "bool")) rfl T.za2 zaS (zaa (pv 0) (zaa (zfC (v:=.ty "bool") rfl T.ztr zrF rfl) zaf)))) (zhe (zbl (av (zay (zdc (n := "int")) rfl T.za2 zaS (zaa (pv 0) (zaa (zfC (v:=.ty "int") rfl T.zqc zlO rfl) zaf)))))))) (zag (zah zdj)) zaw)
  (zag (zah (bA zjO zjO (pv 1) (pv 0) (pv 2))))),?_⟩
 rcases h with⟨i,rfl,rfl⟩ | ⟨⟨t,ty,hk | ⟨hk,hi2⟩⟩,rfl⟩
 ·refine⟨_,rfl,_,_,_,rfl,.old (.int i),T.zmU,_,rfl,iteF ?_⟩
  refine⟨_,rfl,_,_,_,rfl,.old (.int i),T.zow,_,rfl,iteF ?_⟩
  refine⟨_,rfl,_,rfl,_,_,rfl,rfl,_,rfl,?_⟩
  refine ite2 (λc=>?_) (λc=>?_)
  ·rw[c,rp]at q
   exact⟨_,rfl,_,_,rfl,rfl,q⟩
  ·rw[Bool.eq_false_iff.mpr c,rR]at q
   exact q
 ·refine⟨_,rfl,_,_,_,rfl,.old ty,hk,_,rfl,iteT (iteT ?_)⟩
  exact q
 ·refine⟨_,rfl,_,_,_,rfl,.old ty,hk,_,rfl,iteF ?_⟩
  refine⟨_,rfl,_,_,_,rfl,.old ty,hi2,_,rfl,iteT ?_⟩
  exact q
def zih:FnScope pl5 pl5 (zac zdn):=fsc
include T in
theorem zii(D:Dfn K mg "all_between" zdn pl5 f fd):Cal P w K mg bf "all_between" 1 pl5 zqP:=by
 refine D.cal (D.F.ok zih (by walk_at "z") (λc A o s H vs Q E hr h=>?_))
 obtain⟨x,y,z,a,b,rfl,hy,hz,hl,q⟩:=h
 refine⟨_,(zag (zah (zay (ef rfl) rfl T.ztp zqz (zaa (zaZ (N:=["sign","first","last"]) (js:=[1,2]) rfl cpo (zsQ (pv 0)) (λ_ _ _ _ _=>zbG) (λ_ _ _ _ _=>(bA zjZ zjZ (pv 1) (pv 0) (pv 2)))) zaf)))),?_⟩
 refine⟨_,rfl,x,rfl,zpF (x:=x) (λ_=>true) (λc=>.bl (betw a b c)) (λc Hh Q' q'=>q') (λc Hh Q' q'=>?_) (zaC (by omega)) (λD H2 s2 hD=>?_)⟩
 ·refine⟨_,rfl,_,rfl,_,_,rfl,rfl,_,rfl,?_⟩
  have e1:=le_1 (x:=y) (y:=⟨#[c]⟩) (c:=a) (a:=c) hy rfl
  have e2:=le_1 (x:=⟨#[c]⟩) (y:=z) (c:=c) (a:=b) rfl hz
  unfold betw at q'
  rw[<-e1,<-e2]at q'
  refine ite2 (λd=>?_) (λd=>?_)
  ·rw[d,rp]at q'
   exact⟨_,rfl,_,_,rfl,rfl,q'⟩
  ·rw[Bool.eq_false_iff.mpr d,rR]at q'
   exact q'
 ·have e:(x.cps.toList.filter λ_=>true)=x.cps.toList:=filter_eq_self.mpr λ_ _=>rfl
  rw[e]at hD
  refine⟨D,x.cps.toList.map (betw a b),rfl,SqL.of (by rw[tW];exact hD),?_⟩
  rw[List.all_map]
  exact q H2 s2
def zmW:FnScope pl6 pl6 (zac zhI):=fsc
include T in
theorem zmX(D:Dfn K mg "is_name" zhI pl6 f fd)(zdz:Cal P w K mg bf "all_between" 1 pl5 zqP):Cal P w K mg bf "is_name" 2 pl6 zqQ:=by
 refine D.cal (D.F.ok zmW (by walk_at "z") (λc A o s H vs Q E hr h=>?_))
 obtain⟨z,rfl,hl,hn,q⟩:=h
 refine⟨_,(zab (au (zbl (av (zay (zdc (n := "str")) rfl T.za2 zaS (zaa (pv 0) (zaa (zfC (v:=.ty "str") rfl T.zuu zsM rfl) zaf))))) (zag (zah zdj)) zaw)
  (zag (zah (ziC (bA zjO zjO zae (zay zgK rfl T.zdf zbL (zaa (pv 0) zaf)) (zbB (v:=.int 8) rfl T.AD.choose_spec ⟨_,rfl⟩)) (ziB (zaj zdz hr.o rfl (zaa (pv 0) (zaa zaT (zaa zaT zaf))))))))),?_⟩
 unfold zmV at hn
 rw[zcU,Bool.and_eq_true]at hn
 obtain⟨c,d⟩:=hn
 have c:=t4 c
 refine⟨_,rfl,_,_,_,rfl,.old (.str z),T.zox,_,rfl,iteF ?_⟩
 refine⟨_,rfl,z,rfl,zsR (by omega),_,_,rfl,rfl,_,rfl,iteD (show(1:Int)<=(z.length:Int) by omega) ⟨_,_,rfl,rfl,_,rfl,iteD (show(z.length:Int)<=8 by omega) ⟨_,rfl,z,_,_,97,122,rfl,ca,cz,hl,λH' s'=>?_⟩⟩⟩
 rw[d]
 exact q H' s'
def zbs:FnScope ["one","other","rest"] ["one","other"] (zac zce):=fsc
include T in
theorem zgj(D:Dfn K mg "common_divisor" zce ["one","other"] f fd):Cal P w K mg bf "common_divisor" 1 ["one","other"] zsc:=by
 refine D.cal (D.F.ok zbs (by walk_at "z") (λc A o s H vs Q E hr h=>?_))
 obtain⟨x,y,rfl,hx,hy,q⟩:=h
 refine⟨_,(zab (ziZ tY (zas zes (pv 1) zae (zaB _)) (zab (zap (i:=2) zbs.nd rfl (Or.inl rfl) (zaz zcL (pv 0) (pv 1)))
  (zab (zap (i:=0) zbs.nd rfl (Or.inl rfl) (pv 1))
  (zag (zap (i:=1) zbs.nd rfl (Or.inl rfl) (pv 2))))))
  (zag (zah (pv 0)))),?_⟩
 refine bz (λσ H'=>∃(a b:Int)(r:Option V),σ=[some (.int a),some (.int b),r]/\0<=a/\0<=b/\M1.gd a b=M1.gd x y/\H'=H)
  (λσ _=>match σ with | [_,some (.int b),_]=>b.toNat | _=>0) ⟨x,y,none,rfl,hx,hy,rfl,rfl⟩ ?_ ?_
 ·rintro σ H' ⟨a,b,r,rfl,ha,hb,hg,rfl⟩
  refine⟨_,rfl,_,_,rfl,rfl,_,rfl,?_⟩
  refine ite2 (λc=>?_) (λc=>?_)
  ·have c':0<b:=t4 c
   have m1:=se a (show b≠0 by omega)
   have m2:=t8 a c'
   refine⟨_,rfl,_,rfl,_,_,rfl,rfl,c',_,rfl,_,rfl,?_⟩
   refine⟨⟨b,a % b,_,rfl,hb,m1,M1.gd_step.trans hg,rfl⟩,?_⟩
   show(a % b).toNat<b.toNat
   omega
  ·have c':¬ 0<b:=of_decide_eq_false (Bool.eq_false_iff.mpr c)
   have e:b=0:=by omega
   subst e
   rw[M1.gd_zero ha]at hg
   refine⟨_,rfl,?_⟩
   rw[hg]
   exact q
 ·rintro σ H' Q1 Q2 hq ⟨v,e,i,j,e1,e2,k,ek,q1⟩
  exact⟨v,e,i,j,e1,e2,k,ek,hq _ _ q1⟩
def zkl:FnScope ["top","bottom","divisor"] ["top","bottom"] (zac zjf):=fsc
include T in
theorem zoE(D:Dfn K mg "lowest" zjf ["top","bottom"] f fd)(aH:Cal P w K mg bf "common_divisor" 1 ["one","other"] zsc):Cal P w K mg bf "lowest" 2 ["top","bottom"] zmb:=by
 refine D.cal (D.F.ok zkl (by walk_at "z") (λc A o s H vs Q E hr h=>?_))
 obtain⟨x,y,rfl,hy,hz,q⟩:=h
 refine⟨_,(zab (zap (i:=2) zkl.nd rfl (Or.inl rfl) (zaj aH hr.o rfl (zaa (zay zpx rfl T.zur zsK (zaa (pv 0) zaf)) (zaa (pv 1) zaf))))
  (zag (zah (zaM (zaa (zaz zcn (pv 0) (pv 2)) (zaa (zaz zcn (pv 1) (pv 2)) zaf)))))),?_⟩
 have g1:=M1.gd_pos (x:=x) hy
 have g2:=M1.gd_le (x:=x) hy
 have ga:0<=(if x<0 then -x else x):=by split<;>omega
 refine⟨_,rfl,_,rfl,_,rfl,_,_,rfl,ga,by omega,?_⟩
 rw[M1.gd_abs]
 refine⟨_,rfl,_,rfl,_,_,rfl,rfl,⟨g1,by omega⟩,_,rfl,_,rfl,_,_,rfl,rfl,⟨g1,by omega⟩,si2,λp H2 sm hn hp=>?_⟩
 exact q p H2 sm hp
def zkm:FnScope pl6 pl6 (zac zex):=fsc
include T in
theorem zkn(D:Dfn K mg "is_weight" zex pl6 f fd)(zao:Cal P w K mg bf "is_whole" 1 pl4 (zbo K)):Cal P w K mg bf "is_weight" 2 pl6 zsb:=by
 refine D.cal (D.F.ok zkm (by walk_at "z") (λc A o s H vs Q E hr h=>?_))
 obtain⟨p,t,u,rfl,hp,t0,t1,u0,u1,q⟩:=h
 refine⟨_,(zab (au (PW.pt (zjM (zbl (av (zay (zdc (n := "tuple")) rfl T.za2 zaS (zaa (pv 0) (zaa (zfC (v:=.ty "tuple") rfl T.zov zlP rfl) zaf))))) (zhe (zas znq (zay zaF rfl T.zdf zbL (zaa (pv 0) zaf)) zae (zaB _))))) (zag (zah zdj)) zaw)
  (zag (zah (ziC (zaj zao hr.o rfl (zaa (zaq zal (pv 0) zae (λ_ _=>rfl)) (zaa zae (zaa (zbB (v:=.int 1000000) rfl T.BE.choose_spec ⟨_,rfl⟩) zaf)))) (ziB (zaj zao hr.o rfl (zaa (zaq zal (pv 0) zae (λ_ _=>rfl)) (zaa zae (zaa (zbB (v:=.int 12) rfl T.AH.choose_spec ⟨_,rfl⟩) zaf))))))))),?_⟩
 refine⟨_,rfl,_,_,_,rfl,.old (.tup hp),T.zfh,_,rfl,iteF ?_⟩
 refine⟨_,rfl,p,_,rfl,.inr (SqT.of hp),rfl,_,rfl,?_⟩
 refine ite2 (λc=>absurd rfl (zsN c)) (λ_=>?_)
 exact⟨_,rfl,p,_,_,_,rfl,rfl,SqT.of hp,rfl,_,_,_,true,rfl,SR.Ok.wh t0 t1,_,rfl,iteT ⟨_,rfl,p,_,_,_,rfl,rfl,SqT.of hp,rfl,_,_,_,true,rfl,SR.Ok.wh u0 u1,q⟩⟩
def zoF:FnScope pl6 pl6 (zac zjg):=fsc
include T in
theorem zoG(D:Dfn K mg "is_row" zjg pl6 f fd)(zao:Cal P w K mg bf "is_whole" 1 pl4 (zbo K))(zhT:Cal P w K mg bf "is_name" 2 pl6 zqQ)(zbE:Cal P w K mg bf "is_weight" 2 pl6 zsb):Cal P w K mg bf "is_row" 3 pl6 zoz:=by
 refine D.cal (D.F.ok zoF (by walk_at "z") (λc A o s H vs Q E hr h=>?_))
 obtain⟨p,r,rfl,⟨pw,ps,hp,hw,hs⟩,ok,q⟩:=h
 refine⟨_,(zab (au (PW.pt (zjM (zbl (av (zay (zdc (n := "tuple")) rfl T.za2 zaS (zaa (pv 0) (zaa (zfC (v:=.ty "tuple") rfl T.zov zlP rfl) zaf))))) (zhe (zas znq (zay zaF rfl T.zdf zbL (zaa (pv 0) zaf)) zae (zaB _))))) (zag (zah zdj)) zaw)
  (zab (au (PW.pt (zjM (zbl (av (zaj zhT hr.o rfl (zaa (zaq zal (pv 0) zae (λ_ _=>rfl)) zaf)))) (zjM (zbl (av (zaj zbE hr.o rfl (zaa (zaq zal (pv 0) zae (λ_ _=>rfl)) zaf)))) (zhe (zbl (av (zaj zbE hr.o rfl (zaa (zaq zal (pv 0) zae (λ_ _=>rfl)) zaf)))))))) (zag (zah zdj)) zaw)
  (zag (zah (ziC (zaj zao hr.o rfl (zaa (zaq zal (pv 0) zae (λ_ _=>rfl)) (zaa zae (zaa (zbB (v:=.int 4) rfl T.Bh.choose_spec ⟨_,rfl⟩) zaf)))) (ziB (zaj zao hr.o rfl (zaa (zaq zal (pv 0) zae (λ_ _=>rfl)) (zaa zae (zaa (zbB (v:=.int 3) rfl T.A6.choose_spec ⟨_,rfl⟩) zaf)))))))))),?_⟩
 refine⟨_,rfl,_,_,_,rfl,.old (.tup hp),T.zfh,_,rfl,iteF ?_⟩
 refine⟨_,rfl,p,_,rfl,.inr (SqT.of hp),rfl,_,rfl,?_⟩
 refine ite2 (λc=>absurd rfl (zsN c)) (λ_=>?_)
 refine⟨_,rfl,p,_,_,_,rfl,rfl,SqT.of hp,rfl,_,rfl,ok.nl,ok.nm,λH1 s1=>⟨_,rfl,iteF ?_⟩⟩
 have p1:=SqT.of (K:=K) (s1 _ _ hp)
 exact⟨_,rfl,p,_,_,_,rfl,rfl,p1,rfl,pw,_,_,rfl,s1 _ _ hw,ok.a0,ok.a1,ok.b0,ok.b1,_,rfl,iteF ⟨_,rfl,p,_,_,_,rfl,rfl,p1,rfl,ps,_,_,rfl,s1 _ _ hs,ok.c0,ok.c1,ok.d0,ok.d1,_,rfl,iteF ⟨_,rfl,p,_,_,_,rfl,rfl,p1,rfl,_,_,_,true,rfl,SR.Ok.wh ok.s0 ok.s1,_,rfl,iteT ⟨_,rfl,p,_,_,_,rfl,rfl,p1,rfl,_,_,_,true,rfl,SR.Ok.wh ok.t0 ok.t1,q H1 s1⟩⟩⟩⟩
def zoH{α:Type}(zs:List α)(g : α->Str)(d : α):(((List.range zs.length).filter λ_=>true).map λi=>V.str (g (zs.getD i d)))=(zs.map g).map V.str:=by
 rw[filter_eq_self.mpr λ_ _=>rfl,tW]
 refine qx λi=>?_
 rw[getElem?_map,getElem?_map]
 by_cases h:i<zs.length
 ·rw[List.getElem?_range h,Option.map_some,tK,tm h]
  rfl
 ·rw[sZ (by rw[sU];omega),sZ (by omega)]
  rfl
def SR.non:SR:=⟨Str.empty,0,0,0,0,0,0⟩
def zlb:FnScope pl6 pl6 (zac zfY):=fsc
include T in
theorem zlc(D:Dfn K mg "are_rows" zfY pl6 f fd)(zjj:Cal P w K mg bf "is_row" 3 pl6 zoz):Cal P w K mg bf "are_rows" 4 pl6 zkk:=by
 refine D.cal (D.F.ok zlb (by walk_at "z") (λc A o s H vs Q E hr h=>?_))
 obtain⟨l,zs,rfl,hz,k,q⟩:=h
 refine⟨_,(zab (au (PW.pt (zjM (zbl (av (zay (zdc (n := "list")) rfl T.za2 zaS (zaa (pv 0) (zaa (zfC (v:=.ty "list") rfl T.ziV zfG rfl) zaf))))) (zhe (zbl (zpw zjO zjO zae (zay zaF rfl T.zdf zbL (zaa (pv 0) zaf)) (zbB (v:=.int 8) rfl T.A0.choose_spec ⟨_,rfl⟩)))))) (zag (zah zdj)) zaw)
  (zab (au (zbl (av (zay (ef rfl) rfl T.ztp zqz (zaa (zaZ (N:=["row"]) (js:=[]) rfl cpo (zaK (pv 0)) (λ_ _ _ _ _=>zbG) (λ_ _ _ _ _=>(zaj zjj hr.o rfl (zaa (pv 0) zaf)))) zaf)))) (zag (zah zdj)) zaw)
  (zag (zah (zcv zdk (zos rfl rfl T.zdf rfl T.zut (zaa (zaZ (N:=["row"]) (js:=[]) rfl cpo (zaK (pv 0)) (λ_ _ _ _ _=>zbG) (λ_ _ _ _ _=>(zaq (r:=rIxT K) zal (pv 0) zae (λ_ _=>rfl)))) zaf)) (zay zaF rfl T.zdf zbL (zaa (pv 0) zaf)) (zaB _)))))),?_⟩
 have l0:=k.l0
 have l1:=k.l1
 have ml:(zs.map λq=>V.ref q.1).length=zs.length:=tq _
 have sz:(1000:Nat)<=sizeLine:=by decide
 rw[tq]at l0 l1
 have get:∀{i:Nat}{q:Addr × SR},zs[i]?=some q->(zs.map (·.2.nm)).getD i Str.empty=q.2.nm:=λ{i q} e=>by
  rw[tK,getElem?_map,e]
  rfl
 have em:(metK (λi=>(zs.map (·.2.nm)).getD i Str.empty) zs.length).length=zs.length:=eV _ _ λa b' ha hb eab=>by
  have ea:=tm ha
  have eb:=tm hb
  rw[get ea,get eb]at eab
  exact k.nd a b' zs[a].2 zs[b'].2 (by rw[getElem?_map,ea];rfl) (by rw[getElem?_map,eb];rfl) eab
 refine⟨_,rfl,_,_,_,rfl,.old (.lst hz.at_),T.zk8,_,rfl,iteF ?_⟩
 refine⟨_,rfl,l,_,rfl,.inl (SqL.of hz.at_),_,_,rfl,rfl,_,rfl,?_⟩
 rw[ml]
 refine iteD (show(1:Int)<=(zs.length:Int) by omega) ⟨_,_,rfl,rfl,_,rfl,?_⟩
 rw[decide_eq_true (show(zs.length:Int)<=8 by omega)]
 refine iteF ?_
 refine⟨_,rfl,l,rfl,⟨_,SqL.of hz.at_⟩,aC (λ_=>true) (λ_=>V.bl true) (SqL.of hz.at_) (λi v Hh Q' hv s1 q'=>q' Hh (Same.refl Hh)) (λi v Hh Q' hv _ s1 q'=>?_) (by rw[ml];omega) (λD H2 s2 nD hD=>?_)⟩
 ·obtain⟨z,ez,hv⟩:=gmp hv
  cases hv
  have m:=tz ez
  exact⟨_,rfl,z.1,z.2,rfl,(hz.sr z m).same s1,k.ok _ (qS m),λH' s'=>q' H' s'⟩
 have hD:H2 D=some (.lst ((List.replicate zs.length true).map V.bl)):=by
  rw[hD,zbY,ml,List.map_const',sU,List.map_replicate]
 refine⟨D,_,rfl,SqL.of hD,_,rfl,?_⟩
 rw[show(List.replicate zs.length true).all id=true from all_eq_true.mpr λy hy=>by rw[(List.mem_replicate.mp hy).2];rfl]
 refine iteF ?_
 have hz2:=hz.same s2
 refine⟨_,rfl,l,rfl,⟨_,SqL.of hz2.at_⟩,aC (λ_=>true) (λi=>V.str ((zs.getD i (0,SR.non)).2.nm)) (SqL.of hz2.at_) (λi v Hh Q' hv s3 q'=>q' Hh (Same.refl Hh)) (λi v Hh Q' hv _ s3 q'=>?_) (by rw[ml];omega) (λE2 H4 s4 nE hE=>?_)⟩
 ·obtain⟨z,ez,hv⟩:=gmp hv
  cases hv
  obtain⟨pw,ps,a1,a2,a3⟩:=(hz2.sr z (tz ez)).same s3
  have eg:zs.getD i (0,SR.non)=z:=by rw[tK,ez];rfl
  rw[eg]at q'
  exact⟨_,rfl,_,_,_,_,rfl,rfl,SqT.of a1,rfl,q' Hh (Same.refl Hh)⟩
 rw[ml,zoH zs (λz=>z.2.nm) (0,SR.non)]at hE
 refine⟨E2,_,rfl,SqL.of hE,by rw[tq];omega,?_⟩
 refine⟨_,rfl,l,_,rfl,.inl (SqL.of (s4 _ _ hz2.at_)),rfl,?_⟩
 have qq:=q H4 (s2.trans s4)
 rw[tq,ml,em,decide_eq_true rfl]
 exact qq
def no5{C:Addr}(a:zak K C "name")(b:zak K C "weight")(c:zak K C "speed")(d:zak K C "span")(e:zak K C "tries"):∀g,g∈soN->zak K C g:=λg hg=>by
 rcases mem_cons.mp hg with rfl | hg
 ·exact a
 rcases mem_cons.mp hg with rfl | hg
 ·exact b
 rcases mem_cons.mp hg with rfl | hg
 ·exact c
 rcases mem_cons.mp hg with rfl | hg
 ·exact d
 rw[mem_singleton.mp hg]
 exact e
def zko:FnScope ["weight"] ["weight"] (zac zeB):=fsc
include T in
theorem zkp(D:Dfn K mg "in_lowest" zeB ["weight"] f fd)(zjk:Cal P w K mg bf "lowest" 2 ["top","bottom"] zmb):Cal P w K mg bf "in_lowest" 3 ["weight"] zoA:=by
 refine D.cal (D.F.ok zko (by walk_at "z") (λc A o s H vs Q E hr h=>?_))
 obtain⟨p,t,b,rfl,hp,b0,b1,q⟩:=h
 exact⟨_,(zag (zah (zaj zjk hr.o rfl (zaa (zaq zal (pv 0) zae (λ_ _=>rfl)) (zaa (zaq zal (pv 0) zae (λ_ _=>rfl)) zaf))))),_,rfl,p,_,_,_,rfl,rfl,SqT.of hp,rfl,_,rfl,p,_,_,_,rfl,rfl,SqT.of hp,rfl,t,b,rfl,by omega,by omega,q⟩
def zgU:FnScope pl7 pl7 (zac zcA):=fsc
include T in
theorem zgV(D:Mfn K "__init__" "Sort.__init__" zcA pl7 f fd)(zdA:Cal P w K mg bf "in_lowest" 3 ["weight"] zoA):FnOk P w K mg bf CX0 4 f fd pl7 (zmc K):=by
 refine D.F.ok zgU (by walk_at "z") (λc A o s H vs Q E hr h=>?_)
 obtain⟨x,C,dx,pw,ps,r,rfl,hx,cl,no,hw,hs,ok,q⟩:=h
 refine⟨_,(zab (zaP (pv 0) (pv 1))
  (zab (zaP (pv 0) (zaj zdA hr.o rfl (zaa (pv 2) zaf)))
  (zab (zaP (pv 0) (zaj zdA hr.o rfl (zaa (pv 3) zaf)))
  (zab (zaP (pv 0) (pv 4))
  (zag (zaP (pv 0) (pv 5))))))),?_⟩
 have nx:∀ {z xs} {Hh:Hp} {fs},Hh x=some (.ins C dx fs)->Hh z=some (.tup xs)->z≠x:=λh e z=>by rw[z,h]at e;cases e
 refine⟨_,rfl,_,rfl,x,C,dx,_,rfl,hx,cl,no _ (by decide),(by show(0:Nat)<1000;decide),λH1 k1 h1=>?_⟩
 have h1:H1 x=some (.ins C dx [("name",.str r.nm)]):=by
  rw[h1]
  rfl
 have w1:=k1 _ _ (nx hx hw) hw
 have s1:=k1 _ _ (nx hx hs) hs
 refine⟨_,rfl,pw,r.a,r.b,rfl,w1,ok.b0,ok.b1,λp2 H2 e2 g2=>?_⟩
 have h2:=e2 _ _ h1
 have s2:=e2 _ _ s1
 refine⟨_,rfl,x,C,dx,_,rfl,h2,cl,no _ (by decide),(by show(1:Nat)<1000;decide),λH3 k3 h3=>?_⟩
 have h3:H3 x=some (.ins C dx [("name",.str r.nm),("weight",.ref p2)]):=by
  rw[h3]
  rfl
 have g3:=k3 _ _ (nx h2 g2) g2
 have s3:=k3 _ _ (nx h2 s2) s2
 refine⟨_,rfl,ps,r.c,r.d,rfl,s3,ok.d0,ok.d1,λp4 H4 e4 g4=>?_⟩
 have h4:=e4 _ _ h3
 refine⟨_,rfl,x,C,dx,_,rfl,h4,cl,no _ (by decide),(by show(2:Nat)<1000;decide),λH5 k5 h5=>?_⟩
 have h5:H5 x=some (.ins C dx [("name",.str r.nm),("weight",.ref p2),("speed",.ref p4)]):=by
  rw[h5]
  rfl
 have a5:=k5 _ _ (nx h4 (e4 _ _ g3)) (e4 _ _ g3)
 have b5:=k5 _ _ (nx h4 g4) g4
 refine⟨_,rfl,_,rfl,x,C,dx,_,rfl,h5,cl,no _ (by decide),(by show(3:Nat)<1000;decide),λH6 k6 h6=>?_⟩
 have h6:H6 x=some (.ins C dx [("name",.str r.nm),("weight",.ref p2),("speed",.ref p4),("span",.int r.sp)]):=by
  rw[h6]
  rfl
 refine⟨_,rfl,_,rfl,x,C,dx,_,rfl,h6,cl,no _ (by decide),(by show(4:Nat)<1000;decide),λH7 k7 h7=>?_⟩
 have h7:H7 x=some (.ins C dx (soF r.nm p2 p4 r.sp r.tr)):=by
  rw[h7]
  rfl
 have k67:=k6.trans k7
 exact q H7 p2 p4 (k1.trans ((e2.toBut).trans (k3.trans ((e4.toBut).trans (k5.trans k67))))) h7 (k67 _ _ (nx h5 a5) a5) (k67 _ _ (nx h5 b5) b5)
def zij:FnScope pl2 pl2 (zac zdu):=fsc
include T in
theorem zik(D:Mfn K "as_row" "Sort.as_row" zdu pl2 f fd):FnOk P w K mg bf CX0 1 f fd pl2 (zoC Am):=by
 refine D.F.ok zij (by walk_at "z") (λc A o s H vs Q E hr h=>?_)
 obtain⟨a,r,rfl,⟨dx,pw,ps,e,hw,hs⟩,q⟩:=h
 have O:=T.Dm
 exact⟨_,(zag (zah (zaM (pai (zad (zai (pv 0) rfl) (zad (zai (pv 0) rfl) (zad (zai (pv 0) rfl) (zad (zai (pv 0) rfl) (zad (zai (pv 0) rfl) zaL))))))))),_,rfl,a,_,dx,_,_,rfl,e,O.cl,T.AS,rfl,_,rfl,a,_,dx,_,_,rfl,e,O.cl,T.Be,rfl,_,rfl,a,_,dx,_,_,rfl,e,O.cl,T.B8,rfl,_,rfl,a,_,dx,_,_,rfl,e,O.cl,T.Bl,rfl,_,rfl,a,_,dx,_,_,rfl,e,O.cl,T.A8,rfl,si5,λt H1 s1 n1 h1=>q t H1 s1 ⟨pw,ps,h1,s1 _ _ hw,s1 _ _ hs⟩⟩
def zkq:FnScope ["row"] ["row"] (zac zeC):=fsc
include T in
theorem zkr(D:Dfn K mg "sort_from" zeC ["row"] f fd)(Ev:MakG CX0 P w K mg bf "Sort" Am 4 (zoB Am)):Cal P w K mg bf "sort_from" 6 ["row"] (zoD Am):=by
 refine D.cal (D.F.ok zkq (by walk_at "z") (λc A o s H vs Q E hr h=>?_))
 obtain⟨p,r,rfl,⟨pw,ps,hp,hw,hs⟩,ok,q⟩:=h
 exact⟨_,(zag (zah (zfR Ev hr.o rfl zaD (pai (zad (zaq zal (pv 0) zae (λ_ _=>rfl)) (zad (zaq zal (pv 0) zae (λ_ _=>rfl)) (zad (zaq zal (pv 0) zae (λ_ _=>rfl)) (zad (zaq zal (pv 0) zae (λ_ _=>rfl)) (zad (zaq zal (pv 0) zae (λ_ _=>rfl)) zaL))))))))),_,rfl,p,_,_,_,rfl,rfl,SqT.of hp,rfl,_,rfl,p,_,_,_,rfl,rfl,SqT.of hp,rfl,_,rfl,p,_,_,_,rfl,rfl,SqT.of hp,rfl,_,rfl,p,_,_,_,rfl,rfl,SqT.of hp,rfl,_,rfl,p,_,_,_,rfl,rfl,SqT.of hp,rfl,pw,ps,r,rfl,hw,hs,ok,q⟩
def zmf{a:Addr}{xs:List V}{js:List Nat}{tc:TT}{te:TE}{σ:St}{H1:Hp}{Q:VK}(rs:List SR)(hl:SqL K H1 a xs)(lz:rs.length=xs.length)
    (ht:∀(i:Nat) x Hh (Q':Bool->Hp->Prop),xs[i]?=some x->Same H1 Hh->(∀Hh',Same Hh Hh'->Q' true Hh')->tc (some x::caps σ js) Hh Q')
    (he:∀(i:Nat) x r Hh (Q':VK),xs[i]?=some x->rs[i]?=some r->Same H1 Hh->(∀p Hh',Same Hh Hh'->IsSR Hh' p r->Q' (.ref p) Hh')->te (some x::caps σ js) Hh Q')
    (hz:xs.length<sizeLine) (q:∀D H2 zs,Same H1 H2->H1 D=none->IsSRs H2 D zs->zs.map (·.2)=rs->Q (.ref D) H2):
    zep (Itl K a) js tc te σ H1 Q:=by
 intro D H2 s2 hD h2
 refine⟨λi m acc H3=>m=xs.length-i/\i<=xs.length/\∃zs:List (Addr × SR),acc=(zs.map λz=>V.ref z.1)/\zs.map (·.2)=rs.take i/\(∀z,z∈zs->IsSR H3 z.1 z.2)/\Same H1 H3/\H3 D=some (.lst acc),⟨_,rfl,tU _,[],rfl,by simp,λz hz=>by simp at hz,s2,h2⟩,?_⟩
 rintro i m acc H3 ⟨rfl,hi,zs,ea,ez,hzs,s3,h3⟩
 have hl3:SqL K H3 a xs:=s3.seq hl
 subst ea
 have lzs:zs.length=i:=by
  have:=tS List.length ez
  rw[tq,su]at this
  omega
 refine⟨h3,by rw[tq];omega,?_⟩
 by_cases hlt:i<xs.length
 ·have hx:xs[i]?=some xs[i]:=tm hlt
  have hr:rs[i]?=some rs[i]:=tm (by omega)
  refine .inr ⟨⟨xs,_,hl3,hx⟩,λy H4 z=>?_⟩
  obtain⟨e,ey⟩:=z
  have ey2:=ey xs hl3
  subst e
  refine ht i y _ _ ey2 s3 λH5 s5=>iteT ?_
  refine he i y _ _ _ ey2 hr (s3.trans s5) λp H6 s6 hp=>⟨s6 _ _ (s5 _ _ h3),λH7 k7 h7=>⟨xs.length-(i+1),by omega,rfl,hlt,zs++[(p,rs[i])],by rw[tV];rfl,?_,λz hz=>?_,λb o e=>?_,h7⟩⟩
  ·rw[tV,ez,List.take_add_one,hr]
   rfl
  ·have hd6:=s6 _ _ (s5 _ _ h3)
   rcases mem_append.mp hz with hz | hz
   ·exact((hzs z hz).same (s5.trans s6)).but k7 hd6 (λ_ w=>by cases w)
   ·rw[mem_singleton.mp hz]
    exact hp.but k7 hd6 (λ_ w=>by cases w)
  ·exact k7 b o (λw=>by rw[w,hD]at e;cases e) (s6 b o (s5 b o (s3 b o e)))
 ·have e:i=xs.length:=by omega
  subst e
  refine .inl ⟨⟨xs,hl3,tD _⟩,q D H3 zs s3 hD ⟨h3,hzs⟩ ?_⟩
  rw[ez,<-lz,r8]
def zgk:FnScope ["self","rows"] ["self","rows"] (zac zch):=fsc
include T in
theorem zgl(D:Mfn K "__init__" "Sorts.__init__" zch ["self","rows"] f fd)(zgm:Cal P w K mg bf "are_rows" 4 pl6 zkk)(aI:Cal P w K mg bf "sort_from" 6 ["row"] (zoD Am))(DX:MOk CX0 P w K mg bf 1 Am "as_row" (zoC Am)):FnOk P w K mg bf CX0 7 f fd ["self","rows"] (zmd K):=by
 refine D.F.ok zgk (by walk_at "z") (λc A o s H vs Q E hr h=>?_)
 obtain⟨x,C,dx,l,xs,rfl,hx,cl,no,g,k,qT⟩:=h
 refine⟨_,(zab (au (zbl (av (zaj zgm hr.o rfl (zaa (pv 1) zaf)))) (zag aB) zaw)
  (zag (zaP (pv 0) (zaZ (N:=["row"]) (js:=[]) rfl cpo (zaK (pv 1)) (λ_ _ _ _ _=>zbG) (λ_ _ _ _ _=>(zjd (P:=P) (w:=w) (K:=K) (mg:=mg) (bf:=bf) (k:=1) rfl rfl rfl rfl rfl (zaj aI hr.o rfl (zaa (pv 0) zaf)) hr.o zaD)))))),?_⟩
 refine⟨_,rfl,l,xs,rfl,g,k,λH1 s1=>⟨_,rfl,iteF ?_⟩⟩
 have g1:=g.same s1
 have sz:(1000:Nat)<=sizeLine:=by decide
 have l1:=k.l1
 rw[tq]at l1
 refine⟨_,rfl,l,rfl,⟨_,SqL.of g1.at_⟩,zmf (xs.map (·.2.low)) (SqL.of g1.at_) (by rw[tq,tq]) (λi v Hh Q' hv s2 q'=>q' Hh (Same.refl Hh)) (λi v r Hh Q' hv hr s2 q'=>?_) (by rw[tq];omega) (λD H2 zs s2 nD hD ez=>?_)⟩
 ·rw[getElem?_map]at hv hr
  cases e:xs[i]? with
  | none=>rw[e]at hv;cases hv
  | some z=>
    rw[e]at hv hr
    cases hv
    cases hr
    have m:=tz e
    exact⟨_,rfl,z.1,z.2,rfl,(g1.sr z m).same s2,k.ok _ (qS m),λa H3 s3 ⟨ddx,pw,ps,e1,e2,e3⟩=>⟨a,Am,ddx,_,_,rfl,e1,rfl,DX,a,z.2.low,rfl,⟨ddx,pw,ps,e1,e2,e3⟩,λp H4 s4 h4=>q' p H4 (s3.trans s4) h4⟩⟩
 ·have hx2:=s2 _ _ (s1 _ _ hx)
  refine⟨_,rfl,x,C,dx,_,rfl,hx2,cl,no,(by show(0:Nat)<1000;decide),λH3 k3 h3=>?_⟩
  have h3:H3 x=some (.ins C dx [("rows",.ref D)]):=by
   rw[h3]
   rfl
  exact qT H3 D zs ((s1.toBut.trans s2.toBut).trans k3) h3 (hD.but k3 hx2 (λ_ w=>by cases w) (λw=>by have:=hD.at_;rw[w,hx2]at this;cases this)) ez
def zdL:FnScope ["self","name","row"] pl3 (zac zcB):=fsc
include T in
theorem zgW(D:Mfn K "sort_of" "Sorts.sort_of" zcB pl3 f fd)(aI:Cal P w K mg bf "sort_from" 6 ["row"] (zoD Am)):FnOk P w K mg bf CX0 7 f fd pl3 (zej Am Af):=by
 refine D.F.ok zdL (by walk_at "z") (λc A o s H vs Q E hr h=>?_)
 obtain⟨a,rs,r,rfl,⟨dx,l,xs,e,g,rfl⟩,hl,ok,hrm,un,q⟩:=h
 refine⟨_,(zab (zcJ tY rfl (zaK (zai (pv 0) rfl)) (zaH (i:=2) zdL.nd rfl (Or.inl rfl)) (zag (au (zas (ztm hr.units0) (zaq zal (pv 2) zae (λ_ _=>rfl)) (pv 1) (zaB _)) (zag (zah (zaj aI hr.o rfl (zaa (pv 2) zaf)))) zaw)))
  (zag aB)),?_⟩
 refine⟨_,rfl,a,_,dx,_,_,rfl,e,T.Dy.cl,T.B9,rfl,l,rfl,⟨_,SqL.of g.at_⟩,?_⟩
 refine zcK (K:=K) (a:=l) (xs:=xs.map λq=>V.ref q.1) (λi σ H'=>∃v2:Option V,σ=[some (.ref a),some (.str r.nm),v2]/\H'=H/\∀j q,j<i->xs[j]?=some q->V.str q.2.nm≠.str r.nm) ⟨_,rfl,rfl,λj q z=>absurd z (Nat.not_lt_zero j)⟩ (λi σ H' _ ⟨_,_,eH,_⟩=>by subst eH;exact SqL.of g.at_) ?_ ?_
 ·rintro i v σ H' hv ⟨v2,rfl,eH,nj⟩
  subst eH
  obtain⟨z,ez,hv⟩:=gmp hv
  cases hv
  have m:=tz ez
  have mm:z.2∈xs.map (·.2):=qS m
  obtain⟨pw,ps,a1,a2,a3⟩:=g.sr z m
  refine⟨_,rfl,z.1,_,_,_,rfl,rfl,SqT.of a1,rfl,_,rfl,?_⟩
  have next:(V.str z.2.nm≠.str r.nm)->∀j q,j<i+1->xs[j]?=some q->V.str q.2.nm≠.str r.nm:=λnz j q hj hq=>by
   by_cases c:j=i
   ·subst c
    rw[ez]at hq
    cases hq
    exact nz
   ·exact nj j q (by omega) hq
  refine⟨_,rfl,.inl ⟨_,rfl,_,rfl,?_⟩⟩
  refine ite2 (λc=>?_) (λc=>?_)
  ·have c':z.2.nm=r.nm:=t4 c
   have er:=un z.2 mm c'
   refine⟨_,rfl,z.1,z.2,rfl,g.sr z m,ok _ mm,λb H2 s2 hb=>q b H2 s2 (by rw[<-er];exact hb)⟩
  ·have c':¬z.2.nm=r.nm:=of_decide_eq_false (Bool.eq_false_iff.mpr c)
   exact⟨_,rfl,rfl,next λw=>c' (by injection w)⟩
 ·rintro σ H' ⟨v2,rfl,eH,nj⟩
  subst eH
  obtain⟨z,hz,rfl⟩:=mem_map.mp hrm
  obtain⟨j,hj,ej⟩:=tX hz
  exact absurd rfl (nj j z (by rw[tq];exact hj) (by rw[tm hj,ej]))
def zqR{rs:List SR}{i:Nat}{r r':SR}(h:RsOk rs)(hi:rs[i]?=some r)(en:r'.nm=r.nm)(ok:r'.Ok):RsOk (rs.set i r') where
 l0:=by rw[pM];exact h.l0
 l1:=by rw[pM];exact h.l1
 ok:=λs hs=>by
  rcases List.mem_or_eq_of_mem_set hs with z | z
  ·exact h.ok s z
  ·rw[z]
   exact ok
 nd:=λa b s t ha hb e=>by
  have get:∀{j:Nat}{s:SR},(rs.set i r')[j]?=some s->∃s0,rs[j]?=some s0/\s0.nm=s.nm:=λ{j s} hj=>by
   rw[qE]at hj
   by_cases c:i=j
   ·subst c
    rw[if_pos rfl]at hj
    split at hj
    ·cases hj
     exact⟨r,hi,en.symm⟩
    ·cases hj
   ·rw[if_neg c]at hj
    exact⟨s,hj,rfl⟩
  obtain⟨s0,h1,h2⟩:=get ha
  obtain⟨t0,h3,h4⟩:=get hb
  exact h.nd a b s0 t0 h1 h3 (by rw[h2,h4,e])
inductive zoI(ct:Addr)(vs:List V)(H:Hp)(Q:VK)(_:XK):Prop
 | mk (a p:Addr) (rs:List SR) (i:Nat) (r:SR) (c d:Int) (_:vs=[.ref a,.str r.nm,.ref p]) (_:IsSt ct H a rs) (_:RsOk rs) (_:(∀r,r∈rs->r.low=r)) (_:rs[i]?=some r) (_:H p=some (.tup [.int c,.int d])) (_:0<=c) (_:c<=1000000) (_:1<=d) (_:d<=12) (_:∀b H',Same H H'->IsSt ct H' b ((rs.set i { r with c:=c,d:=d }).map SR.low)->Q (.ref b) H')
def zbF:FnScope ["self","name","speed","changed","changed_row"] ["self","name","speed"] (zac zbO):=fsc
include T in
theorem zeL(D:Mfn K "with_speed" "Sorts.with_speed" zbO ["self","name","speed"] f fd)(zbE:Cal P w K mg bf "is_weight" 2 pl6 zsb)(C8:MakG CX0 P w K mg bf "Sorts" Af 7 (zme Af))(As:MOk CX0 P w K mg bf 7 Af "sort_of" (zej Am Af)):FnOk P w K mg bf CX0 9 f fd ["self","name","speed"] (zoI Af):=by
 refine D.F.ok zbF (by walk_at "z") (λc A o s H vs Q E hr h=>?_)
 obtain⟨a,p,rs,i,r,c,d,rfl,hst,ro,lw,hi,hp,c0,c1,d0,d1,q⟩:=h
 have hst':=hst
 obtain⟨dx,l,xs,e,g,exs⟩:=hst'
 have sz:(1000:Nat)<=sizeLine:=by decide
 have lx:xs.length<=8:=by
  have:=ro.l1
  rw[<-exs,tq]at this
  exact this
 refine⟨_,(zab (zap (i:=3) zbF.nd rfl (Or.inl rfl) (zbd (k:=7) (pv 0) hr.o zaD (zaa (pv 1) zaf)))
  (zab (au (zbl (av (zaj zbE hr.o rfl (zaa (pv 2) zaf)))) (zag aB) zaw)
  (zab (zap (i:=4) zbF.nd rfl (Or.inr rfl) (zaM (pai (zad (zai (pv 3) rfl) (zad (zai (pv 3) rfl) (zad (pv 2) (zad (zai (pv 3) rfl) (zad (zai (pv 3) rfl) zaL))))))))
  (zag (zah (zfR C8 hr.o rfl zaD (zaa (zaZ (N:=["row","name","changed_row"]) (js:=[1,4]) rfl cpo (zaK (zai (pv 0) rfl)) (λ_ _ _ _ _=>zbG) (λ_ _ _ _ _=>(zeg (zas zdk (zaq (r:=rIxT K) zal (pv 0) zae (λ_ _=>rfl)) (pv 1) (zaB _)) (pv 2) (pv 0)))) zaf))))))),?_⟩
 have mr:=tz hi
 have okr:=ro.ok r mr
 have un:∀s,s∈rs->s.nm=r.nm->s=r:=λs hs es=>by
  obtain⟨j,hj,ej⟩:=tX hs
  have ej':rs[j]?=some s:=by rw[tm hj,ej]
  have:=ro.nd j i s r ej' hi es
  subst this
  rw[hi]at ej'
  cases ej'
  rfl
 refine⟨_,rfl,a,_,dx,_,_,rfl,e,rfl,As,_,rfl,a,rs,r,rfl,hst,ro.l1,ro.ok,mr,un,λb H1 s1 hb=>?_⟩
 rw[lw r mr]at hb
 obtain⟨bdx,pw,ps,b1,b2,b3⟩:=hb
 have hp1:=s1 _ _ hp
 refine⟨_,rfl,p,c,d,rfl,hp1,c0,c1,d0,d1,_,rfl,iteF ?_⟩
 have O:=T.Dm
 refine⟨_,rfl,b,_,bdx,_,_,rfl,b1,O.cl,T.AS,rfl,_,rfl,b,_,bdx,_,_,rfl,b1,O.cl,T.Be,rfl,_,rfl,_,rfl,b,_,bdx,_,_,rfl,b1,O.cl,T.Bl,rfl,_,rfl,b,_,bdx,_,_,rfl,b1,O.cl,T.A8,rfl,(by show 5<=sizeLine;decide),λt H2 s2 n2 h2=>?_⟩
 have g2:=(g.same s1).same s2
 have ok':({ r with c:=c,d:=d }:SR).Ok := { okr with c0:=c0,c1:=c1,d0:=d0,d1:=d1 }
 have hrow:IsSR H2 t { r with c:=c,d:=d }:=⟨pw,p,h2,s2 _ _ b2,s2 _ _ hp1⟩
 refine⟨_,rfl,a,_,dx,_,_,rfl,s2 _ _ (s1 _ _ e),T.Dy.cl,T.B9,rfl,l,rfl,⟨_,SqL.of g2.at_⟩,zmf (rs.set i { r with c:=c,d:=d }) (SqL.of g2.at_) (by rw[pM,tq,<-exs,tq]) (λj v Hh Q' hv s3 q'=>q' Hh (Same.refl Hh)) (λj v r' Hh Q' hv hr s3 q'=>?_) (by rw[tq];omega) (λD H3 zs s3 nD hD ez=>?_)⟩
 ·obtain⟨z,ez,hv⟩:=gmp hv
  cases hv
  have hz:=(g2.sr z (tz ez)).same s3
  have hz':=hz
  obtain⟨w1,w2,z1,z2,z3⟩:=hz'
  have ej:rs[j]?=some z.2:=by rw[<-exs,getElem?_map,ez];rfl
  refine⟨_,rfl,z.1,_,_,_,rfl,rfl,SqT.of z1,rfl,_,rfl,rfl,_,rfl,?_⟩
  rw[qE]at hr
  by_cases cj:i=j
  ·subst cj
   rw[hi]at ej
   cases ej
   rw[if_pos rfl,if_pos (List.getElem?_eq_some_iff.mp hi).1]at hr
   cases hr
   rw[decide_eq_true rfl]
   exact iteT ⟨_,rfl,q' t Hh (Same.refl Hh) (hrow.same s3)⟩
  ·rw[if_neg cj,ej]at hr
   cases hr
   rw[tL (show ¬V.str z.2.nm=V.str r.nm from λw=>cj (ro.nd i j r z.2 hi ej (by injection w with w;exact w.symm)))]
   exact iteF ⟨_,rfl,q' z.1 Hh (Same.refl Hh) hz⟩
 ·refine⟨D,zs,rfl,hD,by rw[ez];exact zqR ro hi rfl ok',λb' H4 s4 h4=>q b' H4 (((s1.trans s2).trans s3).trans s4) ?_⟩
  rw[<-ez,tW]
  exact h4
def clOf(p:Pv)(r:SR):Cl:=⟨p.n,r.a,r.b,r.c,r.d,p.came⟩
def zks(rs:List SR)(nm:Str)(r:SR):Prop:=r∈rs/\r.nm=nm/\∀s,s∈rs->s.nm=nm->s=r
inductive zld(K:am)(cs:CsA)(ct:Addr)(vs:List V)(H:Hp)(Q:VK)(_:XK):Prop
 | mk (a s:Addr) (d:Wd) (p:Pv) (rs:List SR) (r:SR) (_:vs=[.ref a,.ref s]) (_:IsPc cs H a d p) (_:IsSt ct H s rs) (_:rs.length<=8) (_:(∀r,r∈rs->r.Ok)) (_:zks rs p.nm r) (_:∀t H',Same H H'->IsCl K H' t (clOf p r.low)->Q (.ref t) H')
inductive zoJ(K:am)(cs:CsA)(ct:Addr)(vs:List V)(H:Hp)(Q:VK)(_:XK):Prop
 | mk (a s:Addr) (d:Wd) (p:Pv) (rs:List SR) (r:SR) (_:vs=[.ref a,.ref s]) (_:IsPc cs H a d p) (_:p.Ok) (_:IsSt ct H s rs) (_:rs.length<=8) (_:(∀r,r∈rs->r.Ok)) (_:zks rs p.nm r) (_:∀t u H',Same H H'->H' u=some (.tup [.ref t,.int (p.left d)])->IsCl K H' t (clOf p r.low)->Q (.ref u) H')
def zhU:FnScope ["piece","sorts","sort"] pl8 (zac zfW):=fsc
include T in
theorem zle(D:Dfn K mg "claim_of" zfW pl8 f fd)(As:MOk CX0 P w K mg bf 7 Af "sort_of" (zej Am Af)):Cal P w K mg bf "claim_of" 8 pl8 (zld K (CsA.mk Ae Aa Ab Ac) Af):=by
 refine D.cal (D.F.ok zhU (by walk_at "z") (λc A o s H vs Q E hr h=>?_))
 obtain⟨a,s,d,p,rs,r,rfl,⟨dx,e⟩,hst,hl,ok,⟨hr',en,un⟩,q⟩:=h
 have S:=zcd T
 have hst':=hst
 obtain⟨sdx,l,xs,es,_,_⟩:=hst'
 refine⟨_,(zab (zap (i:=2) zhU.nd rfl (Or.inl rfl) (zbd (k:=7) (pv 1) hr.o zaD (zaa (zai (pv 0) rfl) zaf)))
  (zag (zah (zaM (pai (zad (zai (pv 0) rfl) (zad (zai (pv 2) rfl) (zad (zai (pv 2) rfl) (zad (zai (pv 0) rfl) zaL))))))))),?_⟩
 refine⟨_,rfl,s,_,sdx,_,_,rfl,es,rfl,As,_,rfl,a,_,dx,_,_,rfl,e,(S.ow d).cl,S.n2 d,rfl,s,rs,r,(by rw[en]),hst,hl,ok,hr',λz hz ez=>un z hz (by rw[ez,en]),λb H1 s1 hb=>?_⟩
 obtain⟨bdx,pw,ps,b1,b2,b3⟩:=hb
 have e1:=s1 _ _ e
 have O:=T.Dm
 refine⟨_,rfl,a,_,dx,_,_,rfl,e1,(S.ow d).cl,S.n1 d,rfl,_,rfl,b,_,bdx,_,_,rfl,b1,O.cl,T.Be,rfl,_,rfl,b,_,bdx,_,_,rfl,b1,O.cl,T.B8,rfl,_,rfl,a,_,dx,_,_,rfl,e1,(S.ow d).cl,S.n3 d,rfl,si4,λt H2 s2 n2 h2=>q t H2 (s1.trans s2) ⟨pw,ps,h2,s2 _ _ b2,s2 _ _ b3⟩⟩
def zlf:FnScope pl8 pl8 (zac zfX):=fsc
include T in
theorem zlg(D:Dfn K mg "chore_of" zfX pl8 f fd)(zcr:Cal P w K mg bf "claim_of" 8 pl8 (zld K (CsA.mk Ae Aa Ab Ac) Af))(CH:∀d,MOk CX0 P w K mg bf 2 (CsA.cl (CsA.mk Ae Aa Ab Ac) d) "work_left" (zoy (CsA.mk Ae Aa Ab Ac))):Cal P w K mg bf "chore_of" 9 pl8 (zoJ K (CsA.mk Ae Aa Ab Ac) Af):=by
 refine D.cal (D.F.ok zlf (by walk_at "z") (λc A o s H vs Q E hr h=>?_))
 obtain⟨a,s,d,p,rs,r,rfl,⟨dx,e⟩,po,hst,hl,ok,hr',q⟩:=h
 refine⟨_,(zag (zah (zaM (zaa (zaj zcr hr.o rfl (zaa (pv 0) (zaa (pv 1) zaf))) (zaa (zaI (k:=2) (pv 0) hr.o zaD) zaf))))),?_⟩
 refine⟨_,rfl,_,rfl,a,s,d,p,rs,r,rfl,⟨dx,e⟩,hst,hl,ok,hr',λt H1 s1 h1=>?_⟩
 have e1:=s1 _ _ e
 exact⟨_,rfl,a,_,dx,_,_,rfl,e1,rfl,CH d,a,d,p,rfl,⟨dx,e1⟩,po,si2,λu H2 s2 n2 h2=>q t u H2 (s1.trans s2) h2 (h1.same s2)⟩
def zbh:Pos:=match (zam zaE).getLast? with
 | some (.Return (some (.Call _ _ [⟨_,.Lambda _ _ _ lp,_⟩] _)) _)=>lp
 | _=>⟨0,0,0,0⟩
def lamQ:Str:=(("claims_in_order" : Str) ++ ".<locals>.") ++ "<lambda>"
variable{tT:Addr}
inductive znM(K:am)(tT:Addr)(vs:List V)(H:Hp)(Q:VK)(_:XK):Prop
 | mk (a:Addr) (ns:List Int) (_:vs=[.ref a]) (_:SqL K H a (ns.map V.int)) (_:ns.length<=63) (_:H tT=some (.tbl zbh lamQ)) (_:∀H',Q (.bl true) H')
inductive zmg(K:am)(vs:List V)(H:Hp)(Q:VK)(_:XK):Prop
 | mk (l:Addr) (ps:List (Addr × Cl)) (_:vs=[.ref l]) (_:IsCs K H l ps) (_:Good (ps.map (·.2))) (_:∀M H',Same H H'->0<M->M<=27720->(∀c∈ps.map (·.2),c.wb∣M/\c.sb∣M)->Q (.int M) H')
inductive ztv(K:am)(vs:List V)(H:Hp)(Q:VK)(_:XK):Prop
 | mk (p:Addr) (c:Cl) (t M:Int) (_:vs=[.ref p,.int t,.int M]) (_:IsCl K H p c) (_:c.Ok) (_:0<M) (_:M<=27720) (_:∀r H',Same H H'->H' r=some (.tup ((kM c t M).map V.int))->Q (.ref r) H')
inductive zoK(K:am)(tT:Addr)(vs:List V)(H:Hp)(Q:VK)(_:XK):Prop
 | mk (l:Addr) (ps:List (Addr × Cl)) (t:Int) (_:vs=[.ref l,.int t]) (_:IsCs K H l ps) (_:Good (ps.map (·.2))) (_:ps.length<=40) (_:H tT=some (.tbl zbh lamQ)) (_:∀D H' (qs:List (Addr × Cl)),Same H H'->H D=none->H' D=some (.lst (qs.map λq=>V.ref q.1))->qs.Perm ps->Srt t (qs.map (·.2))->Q (.ref D) H')
inductive zhV(K:am)(tT:Addr)(vs:List V)(H:Hp)(Q:VK)(_:XK):Prop
 | mk (l:Addr) (ps:List (Addr × Cl)) (t:Int) (_:vs=[.ref l,.int t]) (_:IsCs K H l ps) (_:Good (ps.map (·.2))) (_:ps.length<=40) (_:H tT=some (.tbl zbh lamQ)) (_:∀m H',Same H H'->H m=none->H' m=some (.lst (((ord (ps.map (·.2)) t).map (·.n)).map V.int))->Q (.ref m) H')
structure ChIn(K:am)(H:Hp)(l:Addr)(xs:List (Addr × Cl × Int)):Prop where
 chs:IsChs K H l xs
 len:xs.length<=40
 ok:∀q,q∈xs->ChOk 1000 q.2
 nd:(xs.map (·.2.1.n)).Nodup
def ChIn.same{H H':Hp}{l:Addr}{xs:List (Addr × Cl × Int)}(s:Same H H')(h:ChIn K H l xs):ChIn K H' l xs:=⟨h.chs.same s,h.len,h.ok,h.nd⟩
def ChIn.good{H:Hp}{l:Addr}{xs:List (Addr × Cl × Int)}(h:ChIn K H l xs)(t:Int):Good (csOf t xs):=zod (λq hq=>(h.ok q hq).ok) h.nd
inductive zmh(K:am)(tT:Addr)(vs:List V)(H:Hp)(Q:VK)(_:XK):Prop
 | mk (l:Addr) (xs:List (Addr × Cl × Int)) (h t:Int) (_:vs=[.ref l,.int h,.int t]) (_:ChIn K H l xs) (_:0<=h) (_:H tT=some (.tbl zbh lamQ)) (_:∀m H',Same H H'->H m=none->H' m=some (.lst ((zcV t h.toNat xs).map V.int))->Q (.ref m) H')
inductive zjl(K:am)(vs:List V)(H:Hp)(Q:VK)(_:XK):Prop
 | mk (l m:Addr) (xs:List (Addr × Cl × Int)) (ws:List Int) (_:vs=[.ref l,.ref m]) (_:ChIn K H l xs) (_:H m=some (.lst (ws.map V.int))) (_:∀D H' bs,Same H H'->H D=none->IsBh H' D (behL H ws xs) bs->Q (.ref D) H')
inductive zqS(K:am)(tT:Addr)(vs:List V)(H:Hp)(Q:VK)(_:XK):Prop
 | mk (l:Addr) (xs:List (Addr × Cl × Int)) (h t:Int) (_:vs=[.ref l,.int h,.int t]) (_:ChIn K H l xs) (_:0<=h) (_:H tT=some (.tbl zbh lamQ)) (_:∀p m D H' bs,Same H H'->H' p=some (.tup [.ref m,.ref D])->H m=none->H D=none->m≠D->H' m=some (.lst ((zcV t h.toNat xs).map V.int))->IsBh H' D (behL H (zcV t h.toNat xs) xs) bs->Q (.ref p) H')
def ChIn.next{H H':Hp}{l D:Addr}{xs:List (Addr × Cl × Int)}{ws:List Int}{bs:List (Addr × List V)}(hI:ChIn K H l xs)(s:Same H H')(B:IsBh H' D (behL H ws xs) bs):
    ChIn K H' D (zipB bs (behL H ws xs))/\(zipB bs (behL H ws xs)).map (·.2)=bhC ws (xs.map (·.2)):=by
 obtain⟨c1,c2⟩:=B.chs (K:=K) λk hk=>by
  obtain⟨q0,hq0,e,_⟩:=eS hk
  rw[e]
  exact(hI.chs.ch q0 hq0).kc.2.same s
 have cn:(zipB bs (behL H ws xs)).map (·.2.1.n)=(behL H ws xs).map (·.2.1.n):=by
  have:=tS (List.map λx:Cl × Int=>x.1.n) c2
  rw[tW,tW]at this
  exact this
 refine⟨⟨c1,?_,λq' hq'=>?_,?_⟩,by rw[c2,zte]⟩
 ·have:=tS List.length c2
  rw[tq,tq]at this
  rw[this]
  exact tM (zpS _ _ _) hI.len
 ·have:q'.2∈(behL H ws xs).map (·.2):=by
   rw[<-c2]
   exact mem_map.mpr ⟨q',hq',rfl⟩
  obtain⟨k,hk,e⟩:=mem_map.mp this
  obtain⟨q0,hq0,e2,pos⟩:=eS hk
  have o:=hI.ok q0 hq0
  rw[<-e,e2]
  have le:zbu ws q0.2<=q0.2.2:=by
   unfold zbu
   split<;>omega
  exact⟨o.ok,rK pos,pK le o.l1,o.cm⟩
 ·rw[cn]
  exact zrS hI.nd
structure RunOf(H0 H:Hp)(h:Nat)(b:Int)(c:Ch)(D:Addr)(rs:List (Addr × Addr × Int × List Int)):Prop where
 run:IsRun H D rs
 new:∀r,r∈rs->H0 r.2.1=none
 ne:∀r,r∈rs->r.2.1≠D
 eq:∃n,rs.map (λr=>(r.2.2.1,r.2.2.2))=(runN h n b (bhC [] c)).1/\(runN h n b (bhC [] c)).2=[]/\∀k,k<n->(runN h k b (bhC [] c)).2≠[]
theorem zqT:∀{c:Ch},(∀k,k∈c->k.2<=12)->sumC c<=12*c.length
 | [],_=>tD _
 | k::c,h=>by
   have ih:=zqT (c:=c) λj hj=>h j (tO _ hj)
   have:=h k tP
   unfold sumC at *
   simp
   omega
def ChIn.sum{H:Hp}{l:Addr}{xs:List (Addr × Cl × Int)}(hI:ChIn K H l xs):sumC (xs.map (·.2))<=480:=by
 have a:=zqT (c:=xs.map (·.2)) λk hk=>by
  obtain⟨q,hq,rfl⟩:=mem_map.mp hk
  exact(hI.ok q hq).l1
 have:=hI.len
 rw[tq]at a
 omega
def ChIn.cm{H:Hp}{l:Addr}{xs:List (Addr × Cl × Int)}(hI:ChIn K H l xs):∀k,k∈xs.map (·.2)->k.1.came<=1000:=λk hk=>by
 obtain⟨q,hq,rfl⟩:=mem_map.mp hk
 exact(hI.ok q hq).cm
def ztw(xs:List V)(n:Nat):cutV xs none (some (n:Int))=xs.take n:=by
 unfold cutV
 rw[HT.sIx_none,HT.sIx_nat,drop_zero,Nat.sub_zero,Nat.min_def]
 split
 ·rfl
 ·rw[sv (by omega),sv (by omega)]
inductive zoL(vs:List V)(H:Hp)(Q:VK)(_:XK):Prop
 | mk (l:Addr) (_:vs=[.ref l,.non]) (_:Q (.ref l) H)
inductive zqd(K:am)(tT:Addr)(vs:List V)(H:Hp)(Q:VK)(_:XK):Prop
 | mk (l:Addr) (xs:List (Addr × Cl × Int)) (h b:Int) (_:vs=[.ref l,.int h,.int b,.non]) (_:ChIn K H l xs) (_:0<h) (_:0<=b) (_:b<=1000) (_:H tT=some (.tbl zbh lamQ)) (_:∀D H' rs,Same H H'->H D=none->RunOf H H' h.toNat b (xs.map (·.2)) D rs->(∀r,r∈rs->r.2.2.2.length<=40)->rs.length<=1481->Q (.ref D) H')
def ztx{H:Hp}{l:Addr}{xs:List (Addr × Cl × Int)}(hI:ChIn K H l xs)(t:Int)(h:Nat):(zcV t h xs).length<=40:=by
 unfold zcV
 rw[su,tq,(zeh _ _).length_eq]
 have:(csOf t xs).length<=xs.length:=by
  unfold csOf
  rw[tq]
  exact t6 _ _
 have:=hI.len
 omega
def zbi:FnScope ["claims","common","claim","bottom"] ["claims"] (zac zcw):=fsc
include T in
theorem zgX(D:Dfn K mg "common_bottom" zcw ["claims"] f fd)(aH:Cal P w K mg bf "common_divisor" 1 ["one","other"] zsc):Cal P w K mg bf "common_bottom" 2 ["claims"] (zmg K):=by
 refine D.cal (D.F.ok zbi (by walk_at "z") (λc A o s H vs Q E hr h=>?_))
 obtain⟨l,ps,rfl,hC,G,q⟩:=h
 refine⟨_,(zab (zap (i:=1) zbi.nd rfl (Or.inl rfl) zae)
  (zab (zcJ tY rfl (zaK (pv 0)) (zaH (i:=2) zbi.nd rfl (Or.inl rfl)) (zag (zcJ tY rfl (zsx (zaM (zaa (zaq zal (zaq zal (pv 2) zae (λ_ _=>rfl)) zae (λ_ _=>rfl)) (zaa (zaq zal (zaq zal (pv 2) zae (λ_ _=>rfl)) zae (λ_ _=>rfl)) zaf)))) (zaH (i:=3) zbi.nd rfl (Or.inl rfl)) (zag (zap (i:=1) zbi.nd rfl (Or.inl rfl) (zaz zcn (zaz zbJ (pv 1) (pv 3)) (zaj aH hr.o rfl (zaa (pv 1) (zaa (pv 3) zaf)))))))))
  (zag (zah (pv 1))))),?_⟩
 refine⟨_,rfl,l,rfl,⟨_,SqL.of hC.at_⟩,?_⟩
 refine zcK (K:=K) (a:=l) (xs:=ps.map λq=>V.ref q.1) (λi σ H1=>∃(M:Int)(v2 v3:Option V),σ=[some (.ref l),some (.int M),v2,v3]/\Same H H1/\0<M/\M∣27720/\∀j y,j<i->ps[j]?=some y->y.2.wb∣M/\y.2.sb∣M)
  ⟨1,_,_,rfl,Same.refl _,by decide,by decide,λj y z=>by omega⟩ (λi σ H1 _ ⟨_,_,_,_,s1,_⟩=>SqL.of (s1 _ _ hC.at_)) ?_ ?_
 ·rintro i x σ H1 hi ⟨M,v2,v3,rfl,s1,M0,Md,hM⟩
  obtain⟨y,e,hi⟩:=gmp hi
  cases hi
  have hy:=tz e
  have ok:=G.ok y.2 (mem_map.mpr ⟨y,hy,rfl⟩)
  obtain⟨pw,ps',z1,z2,z3⟩:=((hC.cl y hy).same s1).ex
  refine⟨_,rfl,y.1,_,_,_,rfl,rfl,SqT.of z1,rfl,pw,_,_,_,rfl,rfl,SqT.of z2,rfl,_,rfl,y.1,_,_,_,rfl,rfl,SqT.of z1,rfl,ps',_,_,_,rfl,rfl,SqT.of z3,rfl,si2,λlt H2 s2 n2 h2=>?_⟩
  refine⟨lt,rfl,⟨_,SqT.of h2⟩,?_⟩
  have w2:=ok.w2
  have w3:=ok.w3
  have b2:=ok.s2
  have b3:=ok.s3
  refine zrp (K:=K) (a:=lt) (xs:=[V.int y.2.wb,V.int y.2.sb]) (λk σ H3=>∃(N:Int)(v3:Option V),σ=[some (.ref l),some (.int N),some (.ref y.1),v3]/\Same H2 H3/\0<N/\N∣27720/\M∣N/\(0<k->y.2.wb∣N)/\(1<k->y.2.sb∣N))
   ⟨M,_,rfl,Same.refl _,M0,Md,Int.dvd_refl _,λz=>by omega,λz=>by omega⟩ (λk σ H3 _ ⟨_,_,_,s3,_⟩=>SqT.of (s3 _ _ h2)) ?_ ?_
  ·rintro k x σ H3 hk ⟨N,v3,rfl,s3,N0,N1,N2,N3,N4⟩
   have hx:∃b:Int,x=.int b/\0<b/\b<=12/\((k=0/\b=y.2.wb)\/(k=1/\b=y.2.sb)):=by
    rcases(by have:=(List.getElem?_eq_some_iff.mp hk).1;simp at this;omega:k=0\/k=1)with rfl | rfl
    ·simp at hk
     exact⟨_,hk.symm,w2,w3,.inl ⟨rfl,rfl⟩⟩
    ·simp at hk
     exact⟨_,hk.symm,b2,b3,.inr ⟨rfl,rfl⟩⟩
   obtain⟨b,rfl,b0,b1,hb⟩:=hx
   have Nle:N<=27720:=Int.le_of_dvd (by decide) N1
   obtain⟨L0,L1,L2,L3⟩:=zpP N0 b0
   have g0:=M1.gd_pos (x:=N) b0
   have g1:=M1.gd_le (x:=N) b0
   refine⟨_,rfl,_,rfl,_,_,rfl,rfl,.inr ⟨by omega,by omega⟩,_,rfl,_,rfl,N,b,rfl,by omega,by omega,_,_,rfl,rfl,⟨g0,by omega⟩,?_⟩
   refine⟨_,_,rfl,s3,L0,L3 _ N1 (zhy b0 b1),pB N2 L1,λ_=>?_,λz=>?_⟩
   ·rcases hb with⟨rfl,rfl⟩ | ⟨rfl,rfl⟩
    ·exact L2
    ·exact pB (N3 (by omega)) L1
   ·rcases hb with⟨rfl,rfl⟩ | ⟨rfl,rfl⟩
    ·omega
    ·exact L2
  ·rintro σ H3 ⟨N,v3,rfl,s3,N0,N1,N2,N3,N4⟩
   refine⟨N,_,_,rfl,s1.trans (s2.trans s3),N0,N1,λj z hj hz=>?_⟩
   by_cases ji:j=i
   ·subst ji
    rw[e]at hz
    cases hz
    exact⟨N3 (by simp),N4 (by simp)⟩
   ·obtain⟨d1,d2⟩:=hM j z (by omega) hz
    exact⟨pB d1 N2,pB d2 N2⟩
 ·rintro σ H1 ⟨M,v2,v3,rfl,s1,M0,Md,hM⟩
  refine⟨_,rfl,q M H1 s1 M0 (Int.le_of_dvd (by decide) Md) λc hc=>?_⟩
  obtain⟨y,hy,rfl⟩:=mem_map.mp hc
  obtain⟨j,hj,ej⟩:=tX hy
  exact hM j y (by rw[tq];exact hj) (by rw[tm hj,ej])
def b8:FnScope ["claim","turn","common","weight","speed"] pl9 (zac zey):=fsc
include T in
theorem zkt(D:Dfn K mg "place_key" zey pl9 f fd):Cal P w K mg bf "place_key" 1 pl9 (ztv K):=by
 refine D.cal (D.F.ok b8 (by walk_at "z") (λc A o s H vs Q E hr h=>?_))
 obtain⟨p,c,t,M,rfl,hc,ok,M0,M1,q⟩:=h
 refine⟨_,(zab (zap (i:=3) b8.nd rfl (Or.inl rfl) (zaz zbJ (zaq zal (zaq zal (pv 0) zae (λ_ _=>rfl)) zae (λ_ _=>rfl)) (zaz zcn (pv 2) (zaq zal (zaq zal (pv 0) zae (λ_ _=>rfl)) zae (λ_ _=>rfl)))))
  (zab (zap (i:=4) b8.nd rfl (Or.inl rfl) (zaz zbJ (zaq zal (zaq zal (pv 0) zae (λ_ _=>rfl)) zae (λ_ _=>rfl)) (zaz zcn (pv 2) (zaq zal (zaq zal (pv 0) zae (λ_ _=>rfl)) zae (λ_ _=>rfl)))))
  (zag (zah (zaM (zaa (zsy zqs (zaz ay (pv 3) (zaz zbJ (zaz zgI (pv 1) (zaq zal (pv 0) zae (λ_ _=>rfl))) (pv 4)))) (zaa (zaq zal (pv 0) zae (λ_ _=>rfl)) (zaa (zaq zal (pv 0) zae (λ_ _=>rfl)) zaf)))))))),?_⟩
 obtain⟨pw,ps,e1,e2,e3⟩:=id hc.ex
 have hp:SqT K H p _:=SqT.of e1
 have hw:SqT K H pw _:=SqT.of e2
 have hs:SqT K H ps _:=SqT.of e3
 have w2:=ok.w2
 have w3:=ok.w3
 have b2:=ok.s2
 have b3:=ok.s3
 have d1:M / c.wb<=M:=rD _ (by omega)
 have d2:0<=M / c.wb:=qi (by omega) (by omega)
 have d3:M / c.sb<=M:=rD _ (by omega)
 have d4:0<=M / c.sb:=qi (by omega) (by omega)
 have d5:c.st*(M / c.sb)<=1000000*27720:=Int.mul_le_mul ok.s1 (by omega) d4 (by decide)
 have d6:0<=c.st*(M / c.sb):=qA ok.s0 d4
 refine⟨_,rfl,p,_,_,_,rfl,rfl,hp,rfl,pw,_,_,_,rfl,rfl,hw,rfl,_,rfl,_,rfl,p,_,_,_,rfl,rfl,hp,rfl,pw,_,_,_,rfl,rfl,hw,rfl,_,_,rfl,rfl,⟨w2,by omega⟩,_,_,rfl,rfl,.inr ⟨by omega,by omega⟩,?_⟩
 refine⟨_,rfl,p,_,_,_,rfl,rfl,hp,rfl,ps,_,_,_,rfl,rfl,hs,rfl,_,rfl,_,rfl,p,_,_,_,rfl,rfl,hp,rfl,ps,_,_,_,rfl,rfl,hs,rfl,_,_,rfl,rfl,⟨b2,by omega⟩,_,_,rfl,rfl,.inr ⟨by omega,by omega⟩,?_⟩
 refine⟨_,rfl,_,rfl,_,rfl,p,_,_,_,rfl,rfl,hp,rfl,_,_,rfl,rfl,_,rfl,_,_,rfl,rfl,.inr ⟨by omega,by omega⟩,_,_,rfl,rfl,_,rfl,?_⟩
 refine⟨_,rfl,p,_,_,_,rfl,rfl,hp,rfl,_,rfl,p,_,_,_,rfl,rfl,hp,rfl,si3,λr H1 s1 n1 h1=>?_⟩
 exact q r H1 s1 h1
def zcP:FnScope ["claims","turn","common"] pl10 (zac zaE):=fsc
include T in
theorem zfn{cv:Value}(D:DfnC K mg "claims_in_order" zaE pl10 f fd cv)(SI:Site K mg bf cv tT)(zcD:Cal P w K mg bf "common_bottom" 2 ["claims"] (zmg K))(zeM:Cal P w K mg bf "place_key" 1 pl9 (ztv K)):Cal P w K mg bf "claims_in_order" 6 pl10 (zoK K tT):=by
 refine D.cal (D.F.ok zcP (by walk_at "z") (λA o s H vs Q E hr h=>?_))
 obtain⟨l,ps,t,rfl,hC,G,pl,hT,q⟩:=h
 refine⟨_,(zab (zap (i:=2) zcP.nd rfl (Or.inr rfl) (zaj zcD hr.o rfl (zaa (pv 0) zaf)))
  (zag (zah (zmG (N:=pl9) (js:=[1,2]) (CompScope.of rfl rfl rfl rfl rfl (by decide +kernel) rfl rfl rfl rfl) SI rfl hr.depth rfl rfl T.zjh (zaa (pv 0) zaf) (λ_ _ _ _ _=>(zaj zeM (((hr.mono (j:=1+3) (by decide)).in1).in1.deeper _) rfl (zaa (pv 0) (zaa (pv 1) (zaa (pv 2) zaf))))))))),?_⟩
 refine⟨_,rfl,l,ps,rfl,hC,G,λM H1 s1 M0 M1 hM=>?_⟩
 have ml:(ps.map λq=>V.ref q.1).length=(ps.map (·.2)).length:=by rw[tq,tq]
 refine⟨_,rfl,l,_,zdN (ps.map (·.2)) t M,3,rfl,SqL.of (hC.same s1).at_,by rw[ml,tq];omega,zqG _ t M,by decide,by rw[ml];exact zqH G M0 hM,s1 _ _ hT,λH2 s2=>⟨λi v hv H3 s3=>?_,λD H' p s' n' h' hp hs=>?_⟩⟩
 ·obtain⟨y,e,hv⟩:=gmp hv
  cases hv
  have hy:=tz e
  refine⟨_,rfl,_,rfl,_,rfl,y.1,y.2,t,M,rfl,(hC.cl y hy).same (s1.trans (s2.trans s3)),G.ok y.2 (mem_map.mpr ⟨y,hy,rfl⟩),M0,M1,λr H4 s4 h4=>⟨s4,r,rfl,?_⟩⟩
  rw[h4]
  unfold zdN
  rw[getElem?_map,e]
  rfl
 ·rw[ml]at hp
  have s02:=s1.trans s2
  have d:Addr × Cl:=(0,⟨0,0,1,0,1,0⟩)
  have lt:∀i∈p,i<ps.length:=λi hi=>by
   have:=mem_range.mp (hp.mem_iff.mp hi)
   simpa using this
  have hp2:p.Perm (List.range ps.length):=by simpa using hp
  refine q D H' (p.map λi=>ps.getD i d) (s02.trans s') (Same.free s02 n') ?_ (eL d ps hp2) (zlZ G M0 hM hp d hs)
  rw[h',tW]
  congr 2
  refine rV λi hi=>?_
  have:=lt i hi
  show(ps.map λq=>V.ref q.1).getD i .non=V.ref (ps.getD i d).1
  rw[tK,tK,getElem?_map,tm this]
  rfl
def zeN:FnScope pl10 pl10 (zac zbM):=fsc
include T in
theorem zeO(D:Dfn K mg "numbers_in_order" zbM pl10 f fd)(b9:Cal P w K mg bf "claims_in_order" 6 pl10 (zoK K tT)):Cal P w K mg bf "numbers_in_order" 7 pl10 (zhV K tT):=by
 refine D.cal (D.F.ok zeN (by walk_at "z") (λc A o s H vs Q E hr h=>?_))
 obtain⟨l,ps,t,rfl,hC,G,pl,hT,q⟩:=h
 refine⟨_,(zag (zah (zaZ (N:=["claim"]) (js:=[]) rfl cpo (zaK (zaj b9 hr.o rfl (zaa (pv 0) (zaa (pv 1) zaf)))) (λ_ _ _ _ _=>zbG) (λ_ _ _ _ _=>(zaq (r:=rIxT K) zal (pv 0) zae (λ_ _=>rfl)))))),?_⟩
 refine⟨_,rfl,_,rfl,l,ps,t,rfl,hC,G,pl,hT,λm H1 qs s1 n1 h1 hp hs=>⟨m,rfl,⟨_,SqL.of h1⟩,?_⟩⟩
 have mo:(qs.map λq=>V.ref q.1).length=qs.length:=tq _
 have lq:=hp.length_eq
 refine aC (xs:=qs.map λq=>V.ref q.1) (λ_=>true) (itm qs λq=>V.int q.2.n) (SqL.of h1) (λi x Hh Q' hx sh q'=>q' Hh (Same.refl _)) ?_ (zaC (by rw[mo];omega)) (λD H2 s2 nD hD=>?_)
 ·intro i x Hh Q' hx _ sh q'
  obtain⟨y,e,hx⟩:=gmp hx
  cases hx
  obtain⟨pw,pz,z1,_,_⟩:=(((hC.cl y (hp.mem_iff.mp (tz e))).same s1).same sh).ex
  refine⟨_,rfl,y.1,_,_,_,rfl,rfl,SqT.of z1,rfl,?_⟩
  have z:=q' Hh (Same.refl _)
  unfold itm at z
  rw[e]at z
  exact z
 rw[zbY,mo,zfK]at hD
 refine q D H2 (s1.trans s2) (Same.free s1 nD) ?_
 rw[hD,<-zlV G (hp.map _) hs,tW,tW]
 rfl
def zdh:FnScope ["chores","hands","turn","there"] pl11 (zac zcf):=fsc
include T in
theorem zgn(D:Dfn K mg "numbers_worked" zcf pl11 f fd)(zaV:Cal P w K mg bf "numbers_in_order" 7 pl10 (zhV K tT)):Cal P w K mg bf "numbers_worked" 8 pl11 (zmh K tT):=by
 refine D.cal (D.F.ok zdh (by walk_at "z") (λc A o s H vs Q E hr h=>?_))
 obtain⟨l,xs,h,t,rfl,hx,h0,hT,q⟩:=h
 refine⟨_,(zab (zeu (i:=3) (N:=["chore","turn"]) (js:=[2]) zdh.nd rfl rfl rfl cpo (zaK (pv 0)) (λ_ _ _ _ _=>(zdb (PW.pt (zgH (zas zes (zaq (r:=rIxT K) zal (pv 0) zae (λ_ _=>rfl)) zae (zaB _)) (zdQ (zas zjO (zaq (r:=rIxT K) zal (zaq (r:=rIxT K) zal (pv 0) zae (λ_ _=>rfl)) zae (λ_ _=>rfl)) (pv 1) (zaB _))))))) (λ_ _ _ _ _=>(zaq (r:=rIxT K) zal (pv 0) zae (λ_ _=>rfl))))
  (zag (zah (zdm bg (zaj zaV hr.o rfl (zaa (pv 3) (zaa (pv 2) zaf))) zfF (zdU (pv 1)))))),?_⟩
 refine⟨_,rfl,l,rfl,⟨_,SqL.of hx.chs.at_⟩,?_⟩
 have ml:(xs.map λq=>V.ref q.1).length=xs.length:=tq _
 refine aC (xs:=xs.map λq=>V.ref q.1) (tak xs (zew t)) (itm xs λk=>V.ref (kcOf H k.1)) (SqL.of hx.chs.at_) ?_ ?_ (zaC (by rw[ml];exact tM hx.len (by decide))) (λD H2 s2 nD hD=>?_)
 ·intro i x Hh Q' hi sh q'
  obtain⟨k,e,hi⟩:=gmp hi
  cases hi
  have z:=q' Hh (Same.refl _)
  unfold tak zew at z
  rw[e]at z
  have z:Q' (decide (0<k.2.2)&&decide (k.2.1.came<=t)) Hh:=z
  obtain⟨k1,k2⟩:=(hx.chs.ch k (tz e)).kc
  obtain⟨_,_,c1,_,_⟩:=id k2.ex
  refine⟨_,rfl,k.1,_,_,_,rfl,rfl,SqT.of (sh _ _ k1),rfl,_,_,rfl,rfl,_,rfl,?_⟩
  by_cases c1':0<k.2.2
  ·refine iteD c1' ?_
   rw[decide_eq_true c1',rp]at z
   exact⟨_,rfl,k.1,_,_,_,rfl,rfl,SqT.of (sh _ _ k1),rfl,_,_,_,_,rfl,rfl,SqT.of (sh _ _ c1),rfl,_,rfl,_,_,rfl,rfl,_,rfl,z⟩
  ·refine zfH c1' ?_
   rw[tL c1',rR]at z
   exact z
 ·intro i x Hh Q' hi _ sh q'
  obtain⟨k,e,hi⟩:=gmp hi
  cases hi
  have z:=q' Hh (Same.refl _)
  unfold itm at z
  rw[e]at z
  obtain⟨k1,k2⟩:=(hx.chs.ch k (tz e)).kc
  exact⟨_,rfl,k.1,_,_,_,rfl,rfl,SqT.of (sh _ _ k1),rfl,z⟩
 rw[ml,zbZ,<-zhA]at hD
 have hC:IsCs K H2 D (zdd H t xs):=⟨hD,λc hc=>(eR hx.chs t hc).same s2⟩
 have G:Good ((zdd H t xs).map (·.2)):=by rw[zfe];exact hx.good t
 refine⟨_,rfl,_,rfl,D,zdd H t xs,t,rfl,hC,G,tM (ziQ _ _ _) hx.len,s2 _ _ hT,λm H3 s3 n3 h3=>?_⟩
 rw[zfe]at h3
 refine⟨_,rfl,_,rfl,m,_,rfl,SqL.of h3,λp H4 s4 n4 h4=>?_⟩
 refine q p H4 (s2.trans (s3.trans s4)) (Same.free (s2.trans s3) n4) ?_
 rw[h4]
 unfold zcV cutV
 rw[HT.sIx_none,show h=((h.toNat:Nat):Int) by omega,HT.sIx_nat,tq,drop_zero,Nat.sub_zero,map_take,pf]
 congr 2
 rw[Nat.min_def]
 split
 ·rfl
 ·rw[sv (by rw[tq];omega),sv (by rw[tq];omega)]
def zdM:FnScope ["chores","numbers","lessened"] pl12 (zac zcx):=fsc
include T in
theorem zgY(D:Dfn K mg "chores_behind" zcx pl12 f fd):Cal P w K mg bf "chores_behind" 1 pl12 (zjl K):=by
 refine D.cal (D.F.ok zdM (by walk_at "z") (λc A o s H vs Q E hr h=>?_))
 obtain⟨l,m,xs,ws,rfl,hx,hm,q⟩:=h
 refine⟨_,(zab (zeu (i:=2) (N:=["chore","numbers"]) (js:=[1]) zdM.nd rfl rfl rfl cpo (zaK (pv 0)) (λ_ _ _ _ _=>zbG) (λ_ _ _ _ _=>(zaM (zaa (zaq (r:=rIxT K) zal (pv 0) zae (λ_ _=>rfl)) (zaa (zeg (zas (zqJ (K:=K) rfl) (zaq (r:=rIxT K) zal (zaq (r:=rIxT K) zal (pv 0) zae (λ_ _=>rfl)) zae (λ_ _=>rfl)) (pv 1) rfl) (zaz zgI (zaq (r:=rIxT K) zal (pv 0) zae (λ_ _=>rfl)) zae) (zaq (r:=rIxT K) zal (pv 0) zae (λ_ _=>rfl))) zaf)))))
  (zag (zah (zaZ (N:=["chore"]) (js:=[]) rfl cpo (zaK (pv 2)) (λ_ _ _ _ _=>(zdb (zas zes (zaq (r:=rIxT K) zal (pv 0) zae (λ_ _=>rfl)) zae (zaB _)))) (λ_ _ _ _ _=>(pv 0)))))),?_⟩
 refine⟨_,rfl,l,rfl,⟨_,SqL.of hx.chs.at_⟩,?_⟩
 have ml:(xs.map λq=>V.ref q.1).length=xs.length:=tq _
 have fl:∀ns:List Int,(ns.map V.int).all zcc=true:=λns=>all_eq_true.mpr λy hy=>by obtain⟨i,_,rfl⟩:=mem_map.mp hy;rfl
 refine zfc (xs:=xs.map λq=>V.ref q.1) (tak xs λ_=>true) (itl xs λk=>[V.ref (kcOf H k.1),V.int (zbu ws k.2)]) (SqL.of hx.chs.at_) ?_ ?_ (zaC (by rw[ml];exact tM hx.len (by decide))) (λD H2 bs s2 nD hD eb hb=>?_)
 ·intro i x Hh Q' hi sh q'
  have z:=q' Hh (Same.refl _)
  unfold tak at z
  rw[getElem?_map]at hi
  cases e:xs[i]? with
  | none=>rw[e]at hi;cases hi
  | some k=>
    rw[e]at z
    exact z
 ·intro i x Hh Q' hi _ sh q'
  obtain⟨k,e,hi⟩:=gmp hi
  cases hi
  obtain⟨k1,k2⟩:=(hx.chs.ch k (tz e)).kc
  obtain⟨_,_,c1,_,_⟩:=id k2.ex
  have z:∀b Hh',Same Hh Hh'->Hh' b=some (.tup [V.ref (kcOf H k.1),V.int (zbu ws k.2)])->Q' (.ref b) Hh':=λb H' s' h'=>q' b H' s' (by rw[h'];unfold itl;rw[e])
  refine⟨_,rfl,k.1,_,_,_,rfl,rfl,SqT.of (sh _ _ k1),rfl,?_⟩
  refine⟨_,rfl,k.1,_,_,_,rfl,rfl,SqT.of (sh _ _ k1),rfl,_,_,_,_,rfl,rfl,SqT.of (sh _ _ c1),rfl,_,rfl,m,_,rfl,.inl (SqL.of (sh _ _ hm)),rfl,fl _,_,rfl,?_⟩
  have ei:(if false=true then !inV (.int k.2.1.n) (ws.map V.int)else inV (.int k.2.1.n) (ws.map V.int))=decide (k.2.1.n∈ws):=by
   rw[if_neg tE]
   exact bi
  rw[ei]
  by_cases c:k.2.1.n∈ws
  ·refine iteD c ?_
   refine⟨_,rfl,k.1,_,_,_,rfl,rfl,SqT.of (sh _ _ k1),rfl,_,_,rfl,rfl,si2,λb H3 s3 n3 h3=>z b H3 s3 ?_⟩
   rw[h3]
   unfold zbu
   rw[if_pos c]
  ·refine zfH c ?_
   refine⟨_,rfl,k.1,_,_,_,rfl,rfl,SqT.of (sh _ _ k1),rfl,si2,λb H3 s3 n3 h3=>z b H3 s3 ?_⟩
   rw[h3]
   unfold zbu
   rw[if_neg c]
 rw[ml,zev,zcN]at eb
 have lb:bs.length=xs.length:=by
  have:=tS List.length eb
  rw[tq,tq]at this
  exact this
 have mb:(bs.map λb=>V.ref b.1).length=bs.length:=tq _
 refine⟨_,rfl,D,rfl,⟨_,SqL.of hD⟩,?_⟩
 have parts:∀b,b∈bs->∃(a:Addr)(i:Int),b.2=[.ref a,.int i]:=λb hb'=>by
  have:b.2∈bs.map (·.2):=mem_map.mpr ⟨b,hb',rfl⟩
  rw[eb]at this
  obtain⟨k,_,e⟩:=mem_map.mp this
  exact⟨_,_,e.symm⟩
 refine aC (xs:=bs.map λb=>V.ref b.1) (tak bs λb=>plV b.2) (itm bs λb=>V.ref b.1) (SqL.of hD) ?_ ?_ (zaC (by rw[mb,lb];exact tM hx.len (by decide))) (λD3 H3 s3 nD3 hD3=>?_)
 ·intro i x Hh Q' hi sh q'
  obtain⟨b,e,hi⟩:=gmp hi
  cases hi
  have hbm:=tz e
  have z:=q' Hh (Same.refl _)
  unfold tak at z
  rw[e]at z
  obtain⟨a,n,e2⟩:=parts b hbm
  have z:Q' (plV b.2) Hh:=z
  rw[e2]at z
  have g:=sh _ _ (hb b hbm)
  rw[e2]at g
  exact⟨_,rfl,b.1,_,_,_,rfl,rfl,SqT.of g,rfl,_,_,rfl,rfl,_,rfl,z⟩
 ·intro i x Hh Q' hi _ sh q'
  obtain⟨b,e,hi⟩:=gmp hi
  cases hi
  have z:=q' Hh (Same.refl _)
  unfold itm at z
  rw[e]at z
  exact⟨_,rfl,z⟩
 rw[mb,zbZ]at hD3
 exact q D3 H3 _ (s2.trans s3) (Same.free s2 nD3) ⟨hD3,λb hb'=>s3 _ _ (hb b (mem_filter.mp hb').1),ztc eb⟩
def zgM:FnScope ["chores","hands","turn","numbers"] pl11 (zac zez):=fsc
include T in
theorem zku(D:Dfn K mg "turn_done" zez pl11 f fd)(zcl:Cal P w K mg bf "numbers_worked" 8 pl11 (zmh K tT))(zbb:Cal P w K mg bf "chores_behind" 1 pl12 (zjl K)):Cal P w K mg bf "turn_done" 9 pl11 (zqS K tT):=by
 refine D.cal (D.F.ok zgM (by walk_at "z") (λc A o s H vs Q E hr h=>?_))
 obtain⟨l,xs,h,t,rfl,hx,h0,hT,q⟩:=h
 refine⟨_,(zab (zap (i:=3) zgM.nd rfl (Or.inl rfl) (zaj zcl hr.o rfl (zaa (pv 0) (zaa (pv 1) (zaa (pv 2) zaf)))))
  (zag (zah (zaM (zaa (pv 3) (zaa (zaj zbb hr.o rfl (zaa (pv 0) (zaa (pv 3) zaf))) zaf)))))),?_⟩
 refine⟨_,rfl,_,rfl,_,rfl,l,xs,h,t,rfl,hx,h0,hT,λm H1 s1 n1 h1=>?_⟩
 refine⟨_,rfl,_,rfl,_,rfl,l,m,xs,_,rfl,hx.same s1,h1,λD H2 bs s2 nD B=>?_⟩
 rw[eQ hx.chs s1]at B
 have mD:m≠D:=λz=>by rw[<-z,h1]at nD;cases nD
 exact⟨si2,λp H3 s3 n3 h3=>q p m D H3 bs (s1.trans (s2.trans s3)) h3 n1 (Same.free s1 nD) mD (s3 _ _ (s2 _ _ h1)) (B.same s3)⟩
def zhW:FnScope pl13 pl13 (zac zcW):=fsc
include T in
theorem zhX(D:Dfn K mg "chores_taken" zcW pl13 f fd):Cal P w K mg bf "chores_taken" 1 pl13 zoL:=by
 refine D.cal (D.F.ok zhW (by walk_at "z") (λc A o s H vs Q E hr h=>?_))
 obtain⟨l,rfl,q⟩:=h
 refine⟨_,(zab (au (zas zqu (pv 1) zgF (zaB _)) (zag (zah (pv 0))) zaw)
  (zag aB)),?_⟩
 exact⟨_,rfl,rfl,_,rfl,iteT ⟨_,rfl,q⟩⟩
def zcE:FnScope ["chores","hands","begin","real","left","turn","rows","step"] pl14 (zac zdo):=fsc
include T in
theorem zoM(D:DfnD K mg "run_of" zdo pl14 f fd)(zbb:Cal P w K mg bf "chores_behind" 1 pl12 (zjl K))(zeP:Cal P w K mg bf "turn_done" 9 pl11 (zqS K tT))(cf:Cal P w K mg bf "chores_taken" 1 pl13 zoL):CalD P w K mg bf "run_of" 10 pl14 (zqd K tT):=by
 refine D.cal (D.F.ok zcE (by walk_at "z") (λc A o s H vs Q E hr h=>?_))
 obtain⟨l,xs,h,b,rfl,hI,h0,b0,b1,hT,q⟩:=h
 refine⟨_,(zab (zap (i:=4) zcE.nd rfl (Or.inl rfl) (zaj zbb hr.o rfl (zaa (zaj cf hr.o rfl (zaa (pv 0) (zaa (pv 3) zaf))) (zaa (zaO zaf) zaf))))
  (zab (zap (i:=5) zcE.nd rfl (Or.inl rfl) (pv 2))
  (zab (zap (i:=6) zcE.nd rfl (Or.inl rfl) (zaO zaf))
  (zab (ziZ tY (PW.pt (zgH (zas zes (zay zaF rfl T.zdf zbL (zaa (pv 4) zaf)) zae (zaB _)) (zdQ (zas zes (pv 1) zae (zaB _))))) (zab (zap (i:=7) zcE.nd rfl (Or.inl rfl) (zaj zeP hr.o rfl (zaa (pv 4) (zaa (pv 1) (zaa (pv 5) zaf)))))
  (zab (zcS (zpC qj qb qc zfJ (pv 6) (zaa (zaM (zaa (pv 5) (zaa (zaq zal (pv 7) zae (λ_ _=>rfl)) zaf))) zaf)))
  (zab (zap (i:=4) zcE.nd rfl (Or.inl rfl) (zaq zal (pv 7) zae (λ_ _=>rfl)))
  (zag (zsv (i:=5) zcE.nd rfl (Or.inl rfl) zae zsw))))))
  (zag (zah (pv 6))))))),?_⟩
 refine⟨_,rfl,_,rfl,l,rfl,si0,λl1 H1 s1 n1 h1=>?_⟩
 refine⟨l,l1,xs,[],rfl,hI.same s1,h1,λD1 H2 bs s2 nD1 B=>?_⟩
 obtain⟨hI2,e2⟩:=(hI.same s1).next s2 B
 refine⟨_,rfl,si0,λD H3 s3 n3 h3=>?_⟩
 have s02:=s1.trans s2
 generalize hc0:bhC [] (xs.map (·.2))=c0 at e2
 have hn:0<h.toNat:=by omega
 have s480:sumC c0<=480:=by rw[<-e2];exact hI2.sum
 refine bz (λσ' H'=>∃(l':Addr)(xs':List (Addr × Cl × Int))(rs:List (Addr × Addr × Int × List Int))(n:Nat)(v7:Option V),σ'=[some (.ref l),some (.int h),some (.int b),some .non,some (.ref l'),some (.int (b+n)),some (.ref D),v7]/\Same H2 H'/\ChIn K H' l' xs'/\xs'.map (·.2)=(runN h.toNat n b c0).2/\(∀k,k∈(runN h.toNat n b c0).2->0<k.2)/\IsRun H' D rs/\rs.map (λr=>(r.2.2.1,r.2.2.2))=(runN h.toNat n b c0).1/\(∀r,r∈rs->H2 r.2.1=none/\r.2.1≠D/\r.2.2.2.length<=40)/\(∀k,k<n->(runN h.toNat k b c0).2≠[])/\n+(sumC (runN h.toNat n b c0).2+(1001-(b+n)).toNat)<=sumC c0+(1001-b).toNat)
  (λσ' _=>match σ' with | [_,_,_,_,_,some (.int t),_,_]=>sumC (runN h.toNat (t-b).toNat b c0).2+(1001-t).toNat | _=>0) ?_ ?_ ?_
 ·refine⟨D1,_,[],0,_,by rw[show b+((0:Nat):Int)=b by omega];rfl,s3,hI2.same s3,e2,?_,⟨h3,λr hr=>by simp at hr,λr hr=>by simp at hr⟩,rfl,λr hr=>by simp at hr,λk hk=>by omega,by show 0+(sumC c0+(1001-(b+((0:Nat):Int))).toNat)<=_;omega⟩
  show ∀k,k∈c0->0<k.2
  rw[<-hc0]
  exact λk hk=>zhB hk
 ·rintro σ' H4 ⟨l',xs',rs,n,v7,rfl,s4,hI4,ex,pos,R,er,hr,ln,rl⟩
  have mx:(xs'.map λq=>V.ref q.1).length=xs'.length:=tq _
  refine⟨_,rfl,l',_,rfl,.inl (SqL.of hI4.chs.at_),_,_,rfl,rfl,_,rfl,?_⟩
  rw[mx]
  have lrs:rs.length=n:=by
   have:=tS List.length er
   rw[tq,zfL]at this
   exact this
  cases exs:xs' with
  | nil=>
    subst exs
    refine zfH (by simp) (iteF ?_)
    refine⟨_,rfl,q D H4 rs (s02.trans s4) (Same.free s02 n3) ⟨R,λr h'=>Same.free s02 (hr r h').1,λr h'=>(hr r h').2.1,n,by rw[hc0];exact er,by rw[hc0];exact ex.symm,by rw[hc0];exact ln⟩ (λr h'=>(hr r h').2.2) (by rw[lrs];omega)⟩
  | cons x0 xt=>
    rw[<-exs]
    have ne:(runN h.toNat n b c0).2≠[]:=by rw[<-ex,exs];simp
    refine iteD (by rw[exs,length_cons];omega) ?_
    refine⟨_,rfl,_,_,rfl,rfl,_,rfl,iteD h0 ?_⟩
    refine⟨_,rfl,_,rfl,_,rfl,l',xs',h,_,rfl,hI4,by omega,s4 _ _ (s02 _ _ hT),λp m2 D2 H5 bs2 s5 hp nm nD2 mD hm2 B2=>?_⟩
    have R5:=R.same s5
    have m2D:m2≠D:=λz=>by rw[z,R.at_]at nm;cases nm
    refine⟨_,rfl,.inl ⟨rfl,_,SqL.of R5.at_⟩,_,rfl,_,rfl,p,_,_,_,rfl,rfl,SqT.of hp,rfl,si2,λp6 H6 s6 n6 h6=>?_⟩
    have R6:=R5.same s6
    refine⟨D,_,_,rfl,rfl,R6.at_,?_,λH7 k7 h7=>?_⟩
    ·rw[tq,lrs]
     have z:(100000:Nat)<=sizeLine:=by decide
     omega
    have hp6:=s6 _ _ hp
    have hp7:=k7 _ _ (λz=>by rw[z,R6.at_]at hp6;cases hp6) hp6
    refine⟨_,rfl,p,_,_,_,rfl,rfl,SqT.of hp7,rfl,?_⟩
    obtain⟨hI5,e5⟩:=hI4.next s5 B2
    have D2D:D2≠D:=λz=>by rw[z,R.at_]at nD2;cases nD2
    have B6:=B2.same s6
    have B7:IsBh H7 D2 (behL H4 (zcV (b+n) h.toNat xs') xs') bs2:=⟨k7 _ _ D2D B6.at_,λc hc=>k7 _ _ (λz=>by have:=B6.rw c hc;rw[z,R6.at_]at this;cases this) (B6.rw c hc),B6.eq⟩
    have s47:Same H2 H7:=(s4.trans (s5.trans s6)).but n3 k7
    have hI7:ChIn K H7 D2 (zipB bs2 (behL H4 (zcV (b+n) h.toNat xs') xs')):=by
     have hI6:=hI5.same s6
     exact⟨hI6.chs.but k7 R6.at_ D2D,hI6.len,hI6.ok,hI6.nd⟩
    have ew:zcV (b+n) h.toNat xs'=wkC (b+n) h.toNat (runN h.toNat n b c0).2:=by rw[zoe,ex]
    have dn:=zpT (t:=b+n) hn ne pos (by rw[<-ex];exact hI4.cm)
    refine⟨_,rfl,_,_,rfl,rfl,⟨D2,zipB bs2 (behL H4 (zcV (b+n) h.toNat xs') xs'),rs++[(p6,m2,b+n,zcV (b+n) h.toNat xs')],n+1,_,by rw[show b+((n+1:Nat):Int)=b+n+1 by omega];rfl,s47,hI7,?_,?_,?_,?_,?_,?_,?_⟩,?_⟩
    ·rw[e5,ex,zbA,ew]
    ·rw[zbA]
     exact λk hk=>zhB hk
    ·exact R6.app k7 h7 h6 (s6 _ _ hm2) m2D λr h'=>(hr r h').2.1
    ·rw[tV,er,zbA,<-ew]
     rfl
    ·intro r h'
     rcases mem_append.mp h' with h' | h'
     ·exact hr r h'
     ·rw[mem_singleton.mp h']
      exact⟨Same.free s4 nm,m2D,ztx hI4 _ _⟩
    ·intro k hk
     by_cases kn:k=n
     ·subst kn
      exact ne
     ·exact ln k (by omega)
    ·rw[zbA]
     show n+1+(sumC (bhC (wkC (b+n) h.toNat (runN h.toNat n b c0).2) (runN h.toNat n b c0).2)+(1001-(b+((n+1:Nat):Int))).toNat)<=_
     omega
    ·show sumC (runN h.toNat (b+n+1-b).toNat b c0).2+(1001-(b+n+1)).toNat<sumC (runN h.toNat (b+n-b).toNat b c0).2+(1001-(b+n)).toNat
     rw[show(b+(n:Int)+1-b).toNat=n+1 by omega,show(b+(n:Int)-b).toNat=n by omega,zbA]
     exact dn
 ·intro σ' H' Q1 Q2 hq h
  obtain⟨v1,e1,a,ys,e3,hs,i,j,e4,e5,bb,eb,h⟩:=h
  refine⟨v1,e1,a,ys,e3,hs,i,j,e4,e5,bb,eb,?_⟩
  by_cases c:bb=true
  ·rw[if_pos c]at h ⊢
   obtain⟨w1,f1,i2,j2,f3,f4,b2,f5,h⟩:=h
   exact⟨w1,f1,i2,j2,f3,f4,b2,f5,hq _ _ h⟩
  ·rw[if_neg c]at h ⊢
   exact hq _ _ h
inductive zoN(K:am)(vs:List V)(H:Hp)(Q:VK)(_:XK):Prop
 | mk (l:Addr) (ps:List (Addr × Cl)) (t:Int) (_:vs=[.ref l,.int t]) (_:IsCs K H l ps) (_:ps.length<=40) (_:0<=t) (_:t<=1000000000000000) (_:(∀q,q∈ps->q.2.came<=t)) (_:∀H',Same H H'->Q .non H')
def zjm:FnScope pl10 pl10 (zac zdV):=fsc
include T in
theorem zjn(D:Dfn K mg "check_turn" zdV pl10 f fd)(zao:Cal P w K mg bf "is_whole" 1 pl4 (zbo K)):Cal P w K mg bf "check_turn" 2 pl10 (zoN K):=by
 refine D.cal (D.F.ok zjm (by walk_at "z") (λc A o s H vs Q E hr h=>?_))
 obtain⟨l,ps,t,rfl,hC,pl,t0,t1,ca,q⟩:=h
 refine⟨_,(zab (au (zbl (av (zaj zao hr.o rfl (zaa (pv 1) (zaa zae (zaa (zbB (v:=.int 1000000000000000) rfl T.Bg.choose_spec ⟨_,rfl⟩) zaf)))))) (zag aB) zaw)
  (zag (au (av (zay (eM rfl) rfl T.ztq zqC (zaa (zaZ (N:=["claim","turn"]) (js:=[1]) rfl cpo (zaK (pv 0)) (λ_ _ _ _ _=>zbG) (λ_ _ _ _ _=>(zcv zes (zaq (r:=rIxT K) zal (pv 0) zae (λ_ _=>rfl)) (pv 1) (zaB _)))) zaf))) (zag aB) zaw))),?_⟩
 have ml:(ps.map λq=>V.ref q.1).length=ps.length:=tq _
 ·refine⟨_,rfl,_,0,1000000000000000,_,rfl,.inl ⟨t,rfl,rfl⟩,?_⟩
  rw[decide_eq_true t0,decide_eq_true t1]
  refine⟨_,rfl,iteF ?_⟩
  refine⟨_,rfl,l,rfl,⟨_,SqL.of hC.at_⟩,?_⟩
  refine aC (xs:=ps.map λq=>V.ref q.1) (λ_=>true) (itm ps λq=>V.bl (decide (t<q.2.came))) (SqL.of hC.at_) (λi x Hh Q' hx sh q'=>q' Hh (Same.refl _)) ?_ (zaC (by rw[ml];omega)) (λD H2 s2 nD hD=>?_)
  ·intro i x Hh Q' hx _ sh q'
   obtain⟨y,e,hx⟩:=gmp hx
   cases hx
   obtain⟨pw,pz,z1,_,_⟩:=((hC.cl y (tz e)).same sh).ex
   refine⟨_,rfl,y.1,_,_,_,rfl,rfl,SqT.of z1,rfl,_,rfl,_,_,rfl,rfl,?_⟩
   have z:=q' Hh (Same.refl _)
   unfold itm at z
   rw[e]at z
   exact z
  rw[zbY,ml,zfK]at hD
  have hD:H2 D=some (.lst ((ps.map λq=>decide (t<q.2.came)).map V.bl)):=by
   rw[hD,tW]
   rfl
  refine⟨D,_,rfl,SqL.of hD,_,rfl,?_⟩
  have an:(ps.map λq=>decide (t<q.2.came)).any id=false:=by
   rw[List.any_eq_false]
   intro b hb
   obtain⟨y,hy,rfl⟩:=mem_map.mp hb
   have:=ca y hy
   simp
   omega
  rw[an]
  exact iteF (q H2 s2)
inductive zoO(K:am)(tT:Addr)(vs:List V)(H:Hp)(Q:VK)(_:XK):Prop
 | mk (l:Addr) (ps:List (Addr × Cl)) (t:Int) (_:vs=[.ref l,.int t]) (_:IsCs K H l ps) (_:Good (ps.map (·.2))) (_:ps.length<=40) (_:H tT=some (.tbl zbh lamQ)) (_:0<=t) (_:t<=1000000000000000) (_:(∀q,q∈ps->q.2.came<=t)) (_:∀m H',Same H H'->H m=none->H' m=some (.lst (((ord (ps.map (·.2)) t).map (·.n)).map V.int))->Q (.ref m) H')
def zlh:FnScope pl10 pl10 (zac zfU):=fsc
include T in
theorem zli(D:Dfn K mg "order_at" zfU pl10 f fd)(ci:Cal P w K mg bf "check_turn" 2 pl10 (zoN K))(zaV:Cal P w K mg bf "numbers_in_order" 7 pl10 (zhV K tT)):Cal P w K mg bf "order_at" 8 pl10 (zoO K tT):=by
 refine D.cal (D.F.ok zlh (by walk_at "z") (λc A o s H vs Q E hr h=>?_))
 obtain⟨l,ps,t,rfl,hC,G,pl,hT,t0,t1,ca,q⟩:=h
 refine⟨_,(zab (zcS (zaj ci hr.o rfl (zaa (pv 0) (zaa (pv 1) zaf))))
  (zag (zah (zaj zaV hr.o rfl (zaa (pv 0) (zaa (pv 1) zaf)))))),?_⟩
 refine⟨_,rfl,_,rfl,l,ps,t,rfl,hC,pl,t0,t1,ca,λH1 s1=>?_⟩
 exact⟨_,rfl,_,rfl,l,ps,t,rfl,hC.same s1,G,pl,s1 _ _ hT,λm H2 s2 n2 h2=>q m H2 (s1.trans s2) (Same.free s1 n2) h2⟩
inductive zqU(K:am)(vs:List V)(H:Hp)(Q:VK)(_:XK):Prop
 | mk (l:Addr) (xs:List (Addr × Cl × Int)) (k0:Addr × Cl × Int) (_:vs=[.ref l,.int k0.2.1.n]) (_:ChIn K H l xs) (_:k0∈xs) (_:0<k0.2.2) (_:∀H',Same H H'->Q (.bl true) H')
def zil:FnScope pl15 pl15 (zac zdp):=fsc
include T in
theorem zim(D:Dfn K mg "is_piece_of" zdp pl15 f fd)(zao:Cal P w K mg bf "is_whole" 1 pl4 (zbo K)):Cal P w K mg bf "is_piece_of" 2 pl15 (zqU K):=by
 refine D.cal (D.F.ok zil (by walk_at "z") (λc A o s H vs Q E hr h=>?_))
 obtain⟨l,xs,k0,rfl,hI,hk0,p0,q⟩:=h
 refine⟨_,(zag (zah (zay (eM rfl) rfl T.ztq zqC (zaa (zaZ (N:=["chore","number"]) (js:=[1]) rfl cpo (zaK (pv 0)) (λ_ _ _ _ _=>zbG) (λ_ _ _ _ _=>(ziC (zcv zes (zaq (r:=rIxT K) zal (pv 0) zae (λ_ _=>rfl)) zae (zaB _)) (ziB (zaj zao hr.o rfl (zaa (pv 1) (zaa (zaq (r:=rIxT K) zal (zaq (r:=rIxT K) zal (pv 0) zae (λ_ _=>rfl)) zae (λ_ _=>rfl)) (zaa (zaq (r:=rIxT K) zal (zaq (r:=rIxT K) zal (pv 0) zae (λ_ _=>rfl)) zae (λ_ _=>rfl)) zaf)))))))) zaf)))),?_⟩
 have ml:(xs.map λq=>V.ref q.1).length=xs.length:=tq _
 refine⟨_,rfl,l,rfl,⟨_,SqL.of hI.chs.at_⟩,?_⟩
 refine aC (xs:=xs.map λq=>V.ref q.1) (λ_=>true) (itm xs λk=>V.bl (decide (0<k.2.2)&&(decide (k.2.1.n<=k0.2.1.n)&&decide (k0.2.1.n<=k.2.1.n)))) (SqL.of hI.chs.at_) (λi x Hh Q' hx sh q'=>q' Hh (Same.refl _)) ?_ (zaC (by rw[ml];have:=hI.len;omega)) (λD H2 s2 nD hD=>?_)
 ·intro i y Hh Q' hi _ sh q'
  obtain⟨k,e,hi⟩:=gmp hi
  cases hi
  have hk:=tz e
  obtain⟨k1,k2⟩:=(hI.chs.ch k hk).kc
  obtain⟨_,_,c1,_,_⟩:=id k2.ex
  have z:Q' (V.bl (decide (0<k.2.2)&&(decide (k.2.1.n<=k0.2.1.n)&&decide (k0.2.1.n<=k.2.1.n)))) Hh:=by
   have z:=q' Hh (Same.refl _)
   unfold itm at z
   rw[e]at z
   exact z
  refine⟨_,rfl,k.1,_,_,_,rfl,rfl,SqT.of (sh _ _ k1),rfl,_,_,rfl,rfl,_,rfl,?_⟩
  by_cases c:0<k.2.2
  ·refine iteD c ?_
   rw[decide_eq_true c,rp]at z
   exact⟨_,rfl,_,rfl,k.1,_,_,_,rfl,rfl,SqT.of (sh _ _ k1),rfl,_,_,_,_,rfl,rfl,SqT.of (sh _ _ c1),rfl,_,rfl,k.1,_,_,_,rfl,rfl,SqT.of (sh _ _ k1),rfl,_,_,_,_,rfl,rfl,SqT.of (sh _ _ c1),rfl,_,_,_,_,rfl,.inl ⟨_,rfl,rfl⟩,z⟩
  ·refine zfH c ?_
   rw[tL c,rR]at z
   exact z
 rw[zbY,ml,zfK]at hD
 have hD:H2 D=some (.lst ((xs.map λk=>decide (0<k.2.2)&&(decide (k.2.1.n<=k0.2.1.n)&&decide (k0.2.1.n<=k.2.1.n))).map V.bl)):=by
  rw[hD,tW]
  rfl
 refine⟨D,_,rfl,SqL.of hD,?_⟩
 have an:(xs.map λk=>decide (0<k.2.2)&&(decide (k.2.1.n<=k0.2.1.n)&&decide (k0.2.1.n<=k.2.1.n))).any id=true:=by
  rw[List.any_eq_true]
  refine⟨_,mem_map.mpr ⟨k0,hk0,rfl⟩,?_⟩
  rw[decide_eq_true p0,decide_eq_true (rL _)]
  rfl
 rw[an]
 exact q H2 s2
inductive zqV(K:am)(vs:List V)(H:Hp)(Q:VK)(_:XK):Prop
 | mk (l:Addr) (xs:List (Addr × Cl × Int)) (k0:Addr × Cl × Int) (_:vs=[.ref l,.int k0.2.1.n]) (_:ChIn K H l xs) (_:k0∈xs) (_:0<k0.2.2) (_:∀H',Same H H'->Q .non H')
def zin:FnScope pl15 pl15 (zac zdq):=fsc
include T in
theorem zio(D:Dfn K mg "check_piece" zdq pl15 f fd)(zdB:Cal P w K mg bf "is_piece_of" 2 pl15 (zqU K)):Cal P w K mg bf "check_piece" 3 pl15 (zqV K):=by
 refine D.cal (D.F.ok zin (by walk_at "z") (λc A o s H vs Q E hr h=>?_))
 obtain⟨l,xs,k0,rfl,hI,hk0,p0,q⟩:=h
 refine⟨_,(zag (au (zbl (av (zaj zdB hr.o rfl (zaa (pv 0) (zaa (pv 1) zaf))))) (zag aB) zaw)),?_⟩
 exact⟨_,rfl,_,rfl,l,xs,k0,rfl,hI,hk0,p0,λH1 s1=>⟨_,rfl,iteF (q H1 s1)⟩⟩
abbrev aw(rs:List (Addr × Addr × Int × List Int)):List (Int × List Int):=rs.map λr=>(r.2.2.1,r.2.2.2)
inductive ziX(K:am)(vs:List V)(H:Hp)(Q:VK)(_:XK):Prop
 | mk (D:Addr) (rs:List (Addr × Addr × Int × List Int)) (_:vs=[.ref D]) (_:IsRun H D rs) (_:(∀r,r∈rs->r.2.2.2.length<=40)) (_:rs.length<=1481) (_:∀d H',Same H H'->H d=none->H' d=some (.dK (dI (zbr (aw rs) [])))->Q (.ref d) H')
def zha{rs:List (Addr × Addr × Int × List Int)}{i j:Nat}{t:Int}{ws:List Int}(h1:∀r,r∈rs->r.2.2.2.length<=40)(h2:rs.length<=1481)(h3:ws.length<=40):(dI (zdO t (ws.take j) (zbr (aw (rs.take i)) []))).length<sizeLine:=by
 have a:=zka (B:=40) (aw (rs.take i)) [] λr hr=>by
  obtain⟨q,hq,rfl⟩:=mem_map.mp hr
  exact h1 q (qU hq)
 have b:=zhD t (ws.take j) (zbr (aw (rs.take i)) [])
 rw[tq,su]at a
 rw[su]at b
 rw[ziR]
 have z:(100000:Nat)<=sizeLine:=by decide
 rw[length_nil,qa]at a
 omega
def zjo{α:Type}{xs:List α}{i:Nat}{x : α}(h:xs[i]?=some x):xs.take (i+1)=xs.take i++[x]:=by
 rw[List.take_succ,h]
 rfl
def zco:FnScope ["rows","turns","row","number"] ["rows"] (zac zdW):=fsc
include T in
theorem zjp(D:Dfn K mg "last_turns" zdW ["rows"] f fd):Cal P w K mg bf "last_turns" 1 ["rows"] (ziX K):=by
 refine D.cal (D.F.ok zco (by walk_at "z") (λc A o s H vs Q E hr h=>?_))
 obtain⟨D,rs,rfl,R,l40,l14,q⟩:=h
 refine⟨_,(zab (zap (i:=1) zco.nd rfl (Or.inl rfl) zfd)
  (zab (zcJ tY rfl (zaK (pv 0)) (zaH (i:=2) zco.nd rfl (Or.inl rfl)) (zag (zcJ tY rfl (zaK (zaq zal (pv 2) zae (λ_ _=>rfl))) (zaH (i:=3) zco.nd rfl (Or.inl rfl)) (zag (zdT hr.units1 (pv 1) (pv 3) (zaq zal (pv 2) zae (λ_ _=>rfl)) rfl)))))
  (zag (zah (pv 1))))),?_⟩
 refine λd H1 s1 n1 h1=>?_
 have mr:(rs.map λr=>V.ref r.1).length=rs.length:=tq _
 refine⟨_,rfl,D,rfl,⟨_,SqL.of (s1 _ _ R.at_)⟩,?_⟩
 refine zcK (K:=K) (a:=D) (xs:=rs.map λr=>V.ref r.1) (λi σ H'=>∃v2 v3:Option V,σ=[some (.ref D),some (.ref d),v2,v3]/\Same H H'/\H' d=some (.dK (dI (zbr (aw (rs.take i)) []))))
  ⟨_,_,rfl,s1,h1⟩ (λi σ H' _ ⟨_,_,_,s,_⟩=>SqL.of (s _ _ R.at_)) ?_ ?_
 ·rintro i x σ H2 hi ⟨v2,v3,rfl,s2,h2⟩
  obtain⟨r,e,hi⟩:=gmp hi
  cases hi
  have hr:=tz e
  have er:aw (rs.take (i+1))=aw (rs.take i)++[(r.2.2.1,r.2.2.2)]:=by
   rw[zjo e]
   exact tV
  have mw:(r.2.2.2.map V.int).length=r.2.2.2.length:=tq _
  refine⟨_,rfl,r.1,_,_,_,rfl,rfl,SqT.of (s2 _ _ (R.row r hr)),rfl,r.2.1,rfl,⟨_,SqL.of (s2 _ _ (R.num r hr))⟩,?_⟩
  refine zcK (K:=K) (a:=r.2.1) (xs:=r.2.2.2.map V.int) (λj σ H'=>∃v3:Option V,σ=[some (.ref D),some (.ref d),some (.ref r.1),v3]/\Same H H'/\H' d=some (.dK (dI (zdO r.2.2.1 (r.2.2.2.take j) (zbr (aw (rs.take i)) [])))))
   ⟨_,rfl,s2,h2⟩ (λj σ H' _ ⟨_,_,s,_⟩=>SqL.of (s _ _ (R.num r hr))) ?_ ?_
  ·rintro j y σ H3 hj ⟨v3,rfl,s3,h3⟩
   obtain⟨n,ej,hj⟩:=gmp hj
   cases hj
   refine⟨_,rfl,r.1,_,_,_,rfl,rfl,SqT.of (s3 _ _ (R.row r hr)),rfl,_,rfl,_,rfl,d,_,rfl,DPut.k (k:=.inl n) h3 (zha l40 l14 (l40 r hr)),?_⟩
   refine⟨_,rfl,s3.but n1 (But.upd _ _ _),?_⟩
   rw[zan,zoj,zjo ej,zfM]
  ·rintro σ H3 ⟨v3,rfl,s3,h3⟩
   rw[mw,r8]at h3
   refine⟨_,_,rfl,s3,?_⟩
   rw[h3,er,zfN]
 ·rintro σ H2 ⟨v2,v3,rfl,s2,h2⟩
  rw[mr,r8]at h2
  exact⟨_,rfl,q d H2 s2 n1 h2⟩
structure LatOf(H:Hp)(d:Addr)(h:Nat)(b:Int)(c:Ch)(L:ak):Prop where
 at_:H d=some (.dK (dI L))
 ex:∃N,L=zbr (runN h N b (bhC [] c)).1 []/\(runN h N b (bhC [] c)).2=[]/\∀k,k<N->(runN h k b (bhC [] c)).2≠[]
 len:(dI L).length<sizeLine
def RunOf.lat{H0 H H':Hp}{h:Nat}{b:Int}{c:Ch}{D d:Addr}{rs:List (Addr × Addr × Int × List Int)}(R:RunOf H0 H h b c D rs)(l40:∀r,r∈rs->r.2.2.2.length<=40)(l14:rs.length<=1481)(hd:H' d=some (.dK (dI (zbr (aw rs) [])))):LatOf H' d h b c (zbr (aw rs) []):=by
 obtain⟨n,a1,a2,a3⟩:=R.eq
 have hL:=zha (i:=rs.length) (j:=0) (t:=0) (ws:=[]) l40 l14 (by decide)
 rw[r8]at hL
 exact⟨hd,⟨n,by rw[<-a1],a2,a3⟩,hL⟩
inductive zmi(K:am)(tT:Addr)(vs:List V)(H:Hp)(Q:VK)(_:XK):Prop
 | mk (l:Addr) (xs:List (Addr × Cl × Int)) (h b:Int) (_:vs=[.ref l,.int h,.int b]) (_:ChIn K H l xs) (_:0<h) (_:0<=b) (_:b<=1000) (_:H tT=some (.tbl zbh lamQ)) (_:∀d H' L,Same H H'->H d=none->LatOf H' d h.toNat b (xs.map (·.2)) L->Q (.ref d) H')
def zjq:FnScope pl16 pl16 (zac zdX):=fsc
include T in
theorem zjr(D:Dfn K mg "latest_all" zdX pl16 f fd)(zcp:CalD P w K mg bf "run_of" 10 pl14 (zqd K tT))(zbH:Cal P w K mg bf "last_turns" 1 ["rows"] (ziX K)):Cal P w K mg bf "latest_all" 11 pl16 (zmi K tT):=by
 refine D.cal (D.F.ok zjq (by walk_at "z") (λc A o s H vs Q E hr h=>?_))
 obtain⟨l,xs,h,b,rfl,hI,h0,b0,b1,hT,q⟩:=h
 refine⟨_,(zag (zah (zaj zbH hr.o rfl (zaa (bF zcp hr.o rfl (zaa (pv 0) (zaa (pv 1) (zaa (pv 2) zaf)))) zaf)))),?_⟩
 refine⟨_,rfl,_,rfl,_,rfl,l,xs,h,b,rfl,hI,h0,b0,b1,hT,λD H1 rs s1 nD R l40 l14=>?_⟩
 exact⟨D,rs,rfl,R.run,l40,l14,λd H2 s2 nd hd=>q d H2 _ (s1.trans s2) (Same.free s1 nd) (R.lat l40 l14 hd)⟩
def LatOf.val{H:Hp}{d:Addr}{h:Nat}{b:Int}{c:Ch}{L:ak}(l:LatOf H d h b c L){k:Cl × Int}(hk:k∈c)(pos:0<k.2):∃u,valI L k.1.n=some u:=by
 obtain⟨N,e,n,_⟩:=l.ex
 have hm:k∈bhC [] c:=by
  rw[bH]
  exact mem_filter.mpr ⟨hk,decide_eq_true pos⟩
 obtain⟨i,_,i2,i3⟩:=zhE (h:=h) (b:=b) (d:=bhC [] c) (j:=k.1.n) N 0 (mem_map.mpr ⟨k,hm,rfl⟩) (λk hk=>zhB hk) (by rw[qa];exact n)
 obtain⟨u,h1,_⟩:=zei (L:=[]) (zoo N).1 (.inr ⟨_,zjb (show i<N by omega),rfl,i3⟩)
 exact⟨u,by rw[e];exact h1⟩
inductive zoP(K:am)(tT:Addr)(vs:List V)(H:Hp)(Q:VK)(_:XK):Prop
 | mk (l:Addr) (xs:List (Addr × Cl × Int)) (h b:Int) (k:Addr × Cl × Int) (_:vs=[.ref l,.int h,.int b,.int k.2.1.n]) (_:ChIn K H l xs) (_:0<h) (_:0<=b) (_:b<=1000) (_:H tT=some (.tbl zbh lamQ)) (_:k∈xs) (_:0<k.2.2) (_:∀u d H' L,Same H H'->LatOf H' d h.toNat b (xs.map (·.2)) L->valI L k.2.1.n=some u->Q (.int u) H')
def zkv:FnScope pl17 pl17 (zac zeA):=fsc
include T in
theorem zkw(D:Dfn K mg "latest_of" zeA pl17 f fd)(zdC:Cal P w K mg bf "check_piece" 3 pl15 (zqV K))(zea:Cal P w K mg bf "latest_all" 11 pl16 (zmi K tT)):Cal P w K mg bf "latest_of" 12 pl17 (zoP K tT):=by
 refine D.cal (D.F.ok zkv (by walk_at "z") (λc A o s H vs Q E hr h=>?_))
 obtain⟨l,xs,h,b,k,rfl,hI,h0,b0,b1,hT,hk,p,q⟩:=h
 refine⟨_,(zab (zcS (zaj zdC hr.o rfl (zaa (pv 0) (zaa (pv 3) zaf))))
  (zag (zah (zaN hr.units1 (zaj zea hr.o rfl (zaa (pv 0) (zaa (pv 1) (zaa (pv 2) zaf)))) (pv 3) (λ_ _=>rfl))))),?_⟩
 refine⟨_,rfl,_,rfl,l,xs,k,rfl,hI,hk,p,λH1 s1=>?_⟩
 refine⟨_,rfl,_,rfl,_,rfl,l,xs,h,b,rfl,hI.same s1,h0,b0,b1,s1 _ _ hT,λd H2 L s2 nd hA=>?_⟩
 obtain⟨u,hu⟩:=hA.val (mem_map.mpr ⟨k,hk,rfl⟩) p
 have g:=zdK (.inl hA.at_) k.2.1.n
 rw[hu]at g
 exact⟨_,rfl,d,_,rfl,g,q u d H2 L (s1.trans s2) hA hu⟩
inductive zqW(K:am)(tT:Addr)(vs:List V)(H:Hp)(Q:VK)(_:XK):Prop
 | mk (l:Addr) (xs:List (Addr × Cl × Int)) (h b:Int) (a:Addr) (tl:ak) (_:vs=[.ref l,.int h,.int b,.ref a]) (_:ChIn K H l xs) (_:0<h) (_:0<=b) (_:b<=1000) (_:H tT=some (.tbl zbh lamQ)) (_:Rd H a (.dK (dI tl))) (_:∀D H' rs,Same H H'->H D=none->RunOf H H' h.toNat b (xs.map (·.2)) D rs->(∀r,r∈rs->r.2.2.2.length<=40)->rs.length<=1481->(zel (zbr (aw rs) []) tl=[]->Q .non H')/\∀M v u p,M∈zel (zbr (aw rs) []) tl->(∀y,y∈zel (zbr (aw rs) []) tl->M<=y)->valI tl M=some v->valI (zbr (aw rs) []) M=some u->H p=none->H' p=some (.tup [.int M,.int v,.int u,.ref D])->Q (.ref p) H')
def zcF:FnScope ["chores","hands","begin","told","run","turns","late","least"] pl18 (zac zfV):=fsc
include T in
theorem zlj(D:Dfn K mg "kept_all" zfV pl18 f fd)(zcp:CalD P w K mg bf "run_of" 10 pl14 (zqd K tT))(zbH:Cal P w K mg bf "last_turns" 1 ["rows"] (ziX K)):Cal P w K mg bf "kept_all" 11 pl18 (zqW K tT):=by
 refine D.cal (D.F.ok zcF (by walk_at "z") (λc A o s H vs Q E hr h=>?_))
 obtain⟨l,xs,h,b,a,tl,rfl,hI,h0,b0,b1,hT,hd,q⟩:=h
 refine⟨_,(zab (zap (i:=4) zcF.nd rfl (Or.inl rfl) (bF zcp hr.o rfl (zaa (pv 0) (zaa (pv 1) (zaa (pv 2) zaf)))))
  (zab (zap (i:=5) zcF.nd rfl (Or.inr rfl) (zaj zbH hr.o rfl (zaa (pv 4) zaf)))
  (zab (zeu (i:=6) (N:=["number","told","turns"]) (js:=[3,5]) zcF.nd rfl rfl rfl cpo (zja (pv 5)) (λ_ _ _ _ _=>(zdb (PW.pt (zgH (zas (ztf hr.units1) (pv 0) (pv 1) rfl) (zdQ (zas zes (zaN hr.units1 (pv 2) (pv 0) (λ_ _=>rfl)) (zaN hr.units1 (pv 1) (pv 0) (λ_ _=>rfl)) (zaB _))))))) (λ_ _ _ _ _=>(pv 0)))
  (zab (au (zas zdk (zay zaF rfl T.zdf zbL (zaa (pv 6) zaf)) zae (zaB _)) (zag (zah zgF)) zaw)
  (zab (zap (i:=7) zcF.nd rfl (Or.inl rfl) (zay (znZ rfl) rfl T.zus zsL (zaa (pv 6) zaf)))
  (zag (zah (zaM (pai (zad (pv 7) (zad (zaN hr.units1 (pv 3) (pv 7) (λ_ _=>rfl)) (zad (zaN hr.units1 (pv 5) (pv 7) (λ_ _=>rfl)) (zad (pv 4) zaL))))))))))))),?_⟩
 refine⟨_,rfl,_,rfl,_,rfl,l,xs,h,b,rfl,hI,h0,b0,b1,hT,λD H1 rs s1 nD R l40 l14=>?_⟩
 refine⟨_,rfl,D,rs,rfl,R.run,l40,l14,λd H2 s2 nd hd2=>?_⟩
 refine⟨_,rfl,d,_,rfl,.inl hd2,λob H3 k3 h3=>?_⟩
 have nd0:H d=none:=Same.free s1 nd
 have s3:Same H H3:=(s1.trans s2).but nd0 k3
 have s13:Same H1 H3:=s2.but nd k3
 have R3:RunOf H H3 h.toNat b (xs.map (·.2)) D rs:=⟨R.run.same s13,R.new,R.ne,R.eq⟩
 have hL:=zha (i:=rs.length) (j:=0) (t:=0) (ws:=[]) l40 l14 (by decide)
 rw[r8]at hL
 have hL:(dI (zbr (aw rs) [])).length<sizeLine:=hL
 have q:=λ(H':Hp)(s:Same H H')(R':RunOf H H' h.toNat b (xs.map (·.2)) D rs)=>q D H' rs s nD R' l40 l14
 generalize zbr (aw rs) []=L at hd2 h3 hL q
 refine zhC (tak L λp=>zff L tl p.1) (itm L λp=>V.int p.1) h3 ?_ ?_ hL (λD4 H4 s4 nD4 hD4=>?_)
 ·intro i kv Hh Q' hi sh q'
  unfold dI at hi
  obtain⟨p,e,hi⟩:=gmp hi
  cases hi
  have z:=q' Hh (Same.refl _)
  unfold tak at z
  rw[e]at z
  have z:Q' (zff L tl p.1) Hh:=z
  unfold zff at z
  obtain⟨u,hu⟩:=bq (tz e)
  refine⟨_,rfl,_,rfl,a,_,rfl,zdK (hd.same (s3.trans sh)) p.1,_,rfl,?_⟩
  cases ev:valI tl p.1 with
  | none=>
    rw[ev]at z
    exact iteF z
  | some v=>
    rw[ev,hu]at z
    refine iteT ?_
    have g1:=zdK (.inr ⟨ob,sh _ _ h3⟩) p.1
    have g2:=zdK (hd.same (s3.trans sh)) p.1
    rw[hu]at g1
    rw[ev]at g2
    exact⟨_,rfl,_,rfl,d,_,rfl,g1,_,rfl,_,rfl,a,_,rfl,g2,_,_,rfl,rfl,_,rfl,z⟩
 ·intro i kv Hh Q' hi _ sh q'
  unfold dI at hi
  obtain⟨p,e,hi⟩:=gmp hi
  cases hi
  have z:=q' Hh (Same.refl _)
  unfold itm at z
  rw[e]at z
  exact⟨_,rfl,z⟩
 rw[ziR,zbZ,zok]at hD4
 have mlate:((zel L tl).map V.int).length=(zel L tl).length:=tq _
 have s04:=s3.trans s4
 have R4:RunOf H H4 h.toNat b (xs.map (·.2)) D rs:=⟨R3.run.same s4,R3.new,R3.ne,R3.eq⟩
 have g1:=λM=>zdK (.inr ⟨ob,s4 _ _ h3⟩) M
 have g2:=λM=>zdK (hd.same s04) M
 refine⟨_,rfl,D4,_,rfl,.inl (SqL.of hD4),rfl,_,rfl,?_⟩
 rw[mlate]
 refine ite2 (λc=>?_) (λc=>?_)
 ·have c0:=V.int.inj (t4 c)
  exact(q H4 s04 R4).1 (List.eq_nil_of_length_eq_zero (by omega))
 ·have c0:0<(zel L tl).length:=Nat.pos_of_ne_zero λz=>c (decide_eq_true (by rw[z];rfl))
  refine⟨_,rfl,D4,zel L tl,rfl,SqL.of hD4,c0,λM hM hmin=>?_⟩
  obtain⟨v,u,ev,eu,_⟩:=zpW hM
  have g1:=g1 M
  have g2:=g2 M
  rw[eu]at g1
  rw[ev]at g2
  refine⟨_,rfl,_,rfl,_,rfl,a,_,rfl,g2,_,rfl,_,rfl,d,_,rfl,g1,_,rfl,si4,λp H5 s5 n5 h5=>?_⟩
  exact(q H5 (s04.trans s5) ⟨R4.run.same s5,R4.new,R4.ne,R4.eq⟩).2 M v u p hM hmin ev eu (Same.free s04 n5) h5
structure Hv where
 rs:List SR
 h:Int
 t:Int
 ps:List (Addr × Wd × Pv)
 nb:List (Key × V)
 aS:Addr
 aP:Addr
 aN:Addr
 aR:Addr
def Hv.fs(v:Hv):List (Str × V):=[("sorts",.ref v.aS),("hands",.int v.h),("turn",.int v.t),("pieces",.ref v.aP),("numbers",.ref v.aN),("rows",.ref v.aR)]
structure IsPs(cs:CsA)(H:Hp)(l:Addr)(ps:List (Addr × Wd × Pv)):Prop where
 at_:H l=some (.lst (ps.map λq=>V.ref q.1))
 pc:∀q,q∈ps->IsPc cs H q.1 q.2.1 q.2.2
def IsPs.same{cs:CsA}{H H':Hp}{l:Addr}{ps:List (Addr × Wd × Pv)}(s:Same H H')(h:IsPs cs H l ps):IsPs cs H' l ps:=⟨s _ _ h.at_,λq hq=>(h.pc q hq).same s⟩
structure HsP(cs:CsA)(cS:Addr)(H:Hp)(v:Hv):Prop where
 st:IsSt cS H v.aS v.rs
 ps:IsPs cs H v.aP v.ps
 nb:H v.aN=some (.dK v.nb)
 rw:∃rw,H v.aR=some (.lst rw)/\rw.length=v.t.toNat
def HsP.same{cs:CsA}{cS:Addr}{H H':Hp}{v:Hv}(s:Same H H')(h:HsP cs cS H v):HsP cs cS H' v:=⟨h.st.same s,h.ps.same s,s _ _ h.nb,let ⟨rw,a,b⟩:=h.rw;⟨rw,s _ _ a,b⟩⟩
structure IsHs(cs:CsA)(cS cH:Addr)(H:Hp)(o:Addr)(v:Hv):Prop where
 at_:∃dx,H o=some (.ins cH dx v.fs)
 p:HsP cs cS H v
def IsHs.same{cs:CsA}{cS cH:Addr}{H H':Hp}{o:Addr}{v:Hv}(s:Same H H')(h:IsHs cs cS cH H o v):IsHs cs cS cH H' o v:=⟨let ⟨dx,e⟩:=h.at_;⟨dx,s _ _ e⟩,h.p.same s⟩
def HsP.but{cs:CsA}{cS cH o dx:Addr}{H H':Hp}{v v0:Hv}(ho:H o=some (.ins cH dx v0.fs))(k:But o H H')(h:HsP cs cS H v):HsP cs cS H' v:=by
 have nl:∀ {z xs},H z=some (.lst xs)->z≠o:=λe z=>by rw[z,ho]at e;cases e
 have nt:∀ {z xs},H z=some (.tup xs)->z≠o:=λe z=>by rw[z,ho]at e;cases e
 have nk:∀ {z xs},H z=some (.dK xs)->z≠o:=λe z=>by rw[z,ho]at e;cases e
 obtain⟨sdx,l,xs,e1,e2,e3⟩:=h.st
 obtain⟨rw,r1,r2⟩:=h.rw
 refine⟨⟨sdx,l,xs,k _ _ (λz=>?_) e1,⟨k _ _ (nl e2.at_) e2.at_,λq hq=>?_⟩,e3⟩,⟨k _ _ (nl h.ps.at_) h.ps.at_,λq hq=>?_⟩,k _ _ (nk h.nb) h.nb,rw,k _ _ (nl r1) r1,r2⟩
 ·rw[z,ho]at e1
  cases e1
 ·obtain⟨pw,ps,a,b,c⟩:=e2.sr q hq
  exact⟨pw,ps,k _ _ (nt a) a,k _ _ (nt b) b,k _ _ (nt c) c⟩
 ·obtain⟨pdx,e⟩:=h.ps.pc q hq
  refine⟨pdx,k _ _ (λz=>?_) e⟩
  rw[z,ho]at e
  have e:=tF e
  injection e with _ _ e
  unfold Hv.fs Pv.fs at e
  injection e with e _
  have:(Str.ofString "sorts")=Str.ofString "number" := (Prod.mk.inj e).1
  revert this
  decide +kernel
def az(rs:List SR)(nm:Str):SR:=(rs.find? λr=>decide (r.nm=nm)).getD ⟨"",0,1,0,1,1,1⟩
def chV(rs:List SR)(ps:List (Addr × Wd × Pv)):Ch:=(ps.filter λq=>q.2.1.opn).map λq=>(clOf q.2.2 (az rs q.2.2.nm).low,q.2.2.left q.2.1)
structure PsOk(rs:List SR)(ps:List (Addr × Wd × Pv)):Prop where
 rl:rs.length<=8
 ro:∀r,r∈rs->r.Ok
 nm:∀(i:Nat) q,ps[i]?=some q->q.2.2.n=i
 ok:∀q,q∈ps->q.2.2.Ok/\0<=q.2.2.left q.2.1/\q.2.2.left q.2.1<=12/\0<=q.2.2.came/\q.2.2.came<=1000
 fd:∀q,q∈ps->zks rs q.2.2.nm (az rs q.2.2.nm)
 len:ps.length<=200
 op:(ps.filter λq=>q.2.1.opn).length<=40
def PsOk.nd{rs:List SR}{ps:List (Addr × Wd × Pv)}(h:PsOk rs ps):(ps.map (·.2.2.n)).Nodup:=by
 rw[List.nodup_iff_pairwise_ne,List.pairwise_map,List.pairwise_iff_getElem]
 intro i j hi hj lt e
 rw[h.nm i _ (tm hi),h.nm j _ (tm hj)]at e
 omega
def zty{p:Pv}{r:SR}(n0:0<=p.n)(c0:0<=p.came)(c1:p.came<=1000)(o:r.Ok):(clOf p r.low).Ok:=by
 have l:=o.low
 exact⟨n0,l.a0,l.a1,l.b0,l.b1,l.c0,l.c1,l.d0,l.d1,c0,by show p.came<=_;omega⟩
def PsOk.n0{rs:List SR}{ps:List (Addr × Wd × Pv)}(h:PsOk rs ps):∀q,q∈ps->0<=q.2.2.n:=λq hq=>by
 obtain⟨i,hi,e⟩:=tX hq
 have:=h.nm i q (by rw[tm hi,e])
 omega
def zmj{rs:List SR}{ps:List (Addr × Wd × Pv)}(h:PsOk rs ps){H:Hp}{D:Addr}{bs:List (Addr × Cl × Int)}(hD:H D=some (.lst (bs.map λb=>V.ref b.1)))(eb:bs.map (·.2)=chV rs ps)(hb:∀b,b∈bs->IsCh K H b.1 b.2):ChIn K H D bs:=by
 have mem:∀b,b∈bs->∃q,q∈ps/\b.2=(clOf q.2.2 (az rs q.2.2.nm).low,q.2.2.left q.2.1):=λb hb=>by
  have:b.2∈bs.map (·.2):=mem_map.mpr ⟨b,hb,rfl⟩
  rw[eb]at this
  obtain⟨q,hq,e⟩:=mem_map.mp this
  exact⟨q,(mem_filter.mp hq).1,e.symm⟩
 refine⟨⟨hD,hb⟩,?_,λb hb'=>?_,?_⟩
 ·have:=tS List.length eb
  unfold chV at this
  rw[tq,tq]at this
  rw[this]
  exact h.op
 ·obtain⟨q,hq,e⟩:=mem b hb'
  obtain⟨_,l0,l1,c0,c1⟩:=h.ok q hq
  rw[e]
  exact⟨zty (h.n0 q hq) c0 c1 (h.ro _ (h.fd q hq).1),l0,l1,c1⟩
 ·have e2:bs.map (·.2.1.n)=(ps.filter λq=>q.2.1.opn).map (·.2.2.n):=by
   have:=tS (List.map λx:Cl × Int=>x.1.n) eb
   unfold chV at this
   rw[tW,tW]at this
   exact this
  rw[e2]
  exact h.nd.sublist (filter_sublist.map _)
inductive zgo(K:am)(cs:CsA)(cS:Addr)(vs:List V)(H:Hp)(Q:VK)(_:XK):Prop
 | mk (l s:Addr) (ps:List (Addr × Wd × Pv)) (rs:List SR) (_:vs=[.ref l,.ref s]) (_:IsPs cs H l ps) (_:IsSt cS H s rs) (_:PsOk rs ps) (_:∀D H' xs,Same H H'->H D=none->ChIn K H' D xs->xs.map (·.2)=chV rs ps->Q (.ref D) H')
def zkx{H H':Hp}{u:Addr}{c:Cl × Int}(t:Tups H H')(h:IsCh K H u c):IsCh K H' u c:=by
 obtain⟨p,a,b⟩:=h.ex
 obtain⟨pw,ps,x,y,z⟩:=b.ex
 exact⟨p,t _ _ a,⟨pw,ps,t _ _ x,t _ _ y,t _ _ z⟩⟩
def zky:FnScope pl19 pl19 (zac zeD):=fsc
include T in
theorem zkz(D:Dfn K mg "chores_of" zeD pl19 f fd)(zgp:Cal P w K mg bf "chore_of" 9 pl8 (zoJ K (CsA.mk Ae Aa Ab Ac) Af))(BG:∀d,MOk CX0 P w K mg bf 1 (CsA.cl (CsA.mk Ae Aa Ab Ac) d) "is_open" (zkf (CsA.mk Ae Aa Ab Ac) d)):Cal P w K mg bf "chores_of" 10 pl19 (zgo K (CsA.mk Ae Aa Ab Ac) Af):=by
 refine D.cal (D.F.ok zky (by walk_at "z") (λc A o s H vs Q E hr h=>?_))
 obtain⟨l,s,ps,rs,rfl,hP,hS,ok,q⟩:=h
 refine⟨_,(zag (zah (zaZ (N:=pl8) (js:=[1]) rfl cpo (zaK (pv 0)) (λ_ _ _ _ _=>(zdb (av (zjd (P:=P) (w:=w) (K:=K) (mg:=mg) (bf:=bf) (k:=1) rfl rfl rfl rfl rfl (pv 0) hr.o zaD)))) (λ_ _ _ _ _=>(zaj zgp hr.o rfl (zaa (pv 0) (zaa (pv 1) zaf))))))),?_⟩
 have ml:(ps.map λq=>V.ref q.1).length=ps.length:=tq _
 refine⟨_,rfl,l,rfl,⟨_,SqL.of hP.at_⟩,?_⟩
 refine zje (xs:=ps.map λq=>V.ref q.1) (tak ps λq=>q.2.1.opn) (itG ps (λq=>(clOf q.2.2 (az rs q.2.2.nm).low,q.2.2.left q.2.1)) (⟨0,0,0,0,0,0⟩,0)) (IsCh K) (λH H' u c t h=>zkx t h) (SqL.of hP.at_) ?_ ?_ (zaC (by rw[ml];have:=ok.len;omega)) (λD H1 bs s1 nD hD eb hb=>?_)
 ·intro i x Hh Q' hx sh q'
  obtain⟨z,e,hx⟩:=gmp hx
  cases hx
  have zz:=q' Hh (Same.refl _)
  unfold tak at zz
  rw[e]at zz
  obtain⟨dx,ez⟩:=(hP.pc z (tz e)).same sh
  exact⟨_,rfl,z.1,_,dx,_,_,rfl,ez,rfl,BG z.2.1,z.1,z.2.2,rfl,⟨dx,ez⟩,_,rfl,zz⟩
 ·intro i x Hh Q' hx _ sh q'
  obtain⟨z,e,hx⟩:=gmp hx
  cases hx
  have hz:=tz e
  unfold itG at q'
  rw[e]at q'
  refine⟨_,rfl,_,rfl,z.1,s,z.2.1,z.2.2,rs,_,rfl,(hP.pc z hz).same sh,(ok.ok z hz).1,hS.same sh,ok.rl,ok.ro,ok.fd z hz,λt u H' s' hu ht=>q' u H' s' ⟨t,hu,ht⟩⟩
 rw[ml,zfS]at eb
 exact q D H1 bs s1 nD (zmj ok hD eb hb) eb
def IsGr(cG:Addr)(H:Hp)(a:Addr)(n:V):Prop:=∃dx,H a=some (.ins cG dx [("number",n)])
def IsGr.same{cG:Addr}{H H':Hp}{a:Addr}{n:V}(s:Same H H')(h:IsGr cG H a n):IsGr cG H' a n:=let ⟨dx,e⟩:=h;⟨dx,s _ _ e⟩
inductive zmk(K:am)(vs:List V)(H:Hp)(Q:VK)(_:XK):Prop
 | mk (x C dx:Addr) (n:V) (_:vs=[.ref x,n]) (_:H x=some (.ins C dx [])) (_:Cls K C) (_:zak K C "number") (_:∀H',But x H H'->H' x=some (.ins C dx [("number",n)])->Q .non H')
inductive zoQ(cG:Addr)(vs:List V)(H:Hp)(Q:VK)(_:XK):Prop
 | mk (n:V) (_:vs=[n]) (_:∀a H',Same H H'->H a=none->IsGr cG H' a n->Q (.ref a) H')
def ztz{cG:Addr}(cl:Cls K cG)(no:zak K cG "number"):∀vs H Q E,zoQ cG vs H Q E->∀y dx,H y=none->H dx=none->dx≠y->zmk K (.ref y::vs) (upd (upd H dx (.own y)) y (.ins cG dx [])) (λv H2=>v=.non/\Q (.ref y) H2) E:=by
 rintro vs H Q E ⟨n,rfl,q⟩ y dx ny nd ne
 have up:Same H (upd (upd H dx (.own y)) y (.ins cG dx [])):=λz o h=>by
  rw[zau (zaA h ny),zau (zaA h nd)]
  exact h
 exact⟨y,cG,dx,n,rfl,zan,cl,no,λH' k e=>⟨rfl,q y H' (λw o hw=>k w o (zaA hw ny) (up w o hw)) ny ⟨dx,e⟩⟩⟩
def zeQ:FnScope pl20 pl20 (zac zbP):=fsc
include T in
theorem zeR(D:Mfn K "__init__" "Granted.__init__" zbP pl20 f fd):FnOk P w K mg bf CX0 1 f fd pl20 (zmk K):=by
 refine D.F.ok zeQ (by walk_at "z") (λc A o s H vs Q E hr h=>?_)
 obtain⟨x,C,dx,n,rfl,hx,cl,no,q⟩:=h
 refine⟨_,(zag (zaP (pv 0) (pv 1))),?_⟩
 exact⟨_,rfl,_,rfl,x,C,dx,_,rfl,hx,cl,no,(by show(0:Nat)<1000;decide),λH1 k1 h1=>q H1 k1 h1⟩
inductive zfo(cG:Addr)(vs:List V)(H:Hp)(Q:VK)(_:XK):Prop
 | mk (a:Addr) (n:V) (_:vs=[.ref a]) (_:IsGr cG H a n) (_:Q (.bl true) H)
def zfp:FnScope pl2 pl2 (zac bR):=fsc
include T in
theorem zfq(D:Mfn K "granted" "Granted.granted" bR pl2 f fd):FnOk P w K mg bf CX0 1 f fd pl2 (zfo Ah):=by
 refine D.F.ok zfp (by walk_at "z") (λc A o s H vs Q E hr h=>?_)
 obtain⟨a,n,rfl,hg,q⟩:=h
 exact⟨_,(zag (zah zdj)),q⟩
structure IsLt(cL:Addr)(H:Hp)(a:Addr)(n d t:Int)(rows:List (Int × List Int)):Prop where
 ex:∃(dx r:Addr)(rs:List (Addr × Addr × Int × List Int)),H a=some (.ins cL dx [("number",.int n),("due",.int d),("turn",.int t),("run",.ref r)])/\IsRun H r rs/\aw rs=rows/\(∀r,r∈rs->r.2.2.2.length<=40)/\rs.length<=1481
def IsLt.same{cL:Addr}{H H':Hp}{a:Addr}{n d t:Int}{rows:List (Int × List Int)}(s:Same H H')(h:IsLt cL H a n d t rows):IsLt cL H' a n d t rows:=let ⟨dx,r,rs,e,x,y,z,u⟩:=h.ex;⟨dx,r,rs,s _ _ e,x.same s,y,z,u⟩
inductive zml(cL:Addr)(vs:List V)(H:Hp)(Q:VK)(_:XK):Prop
 | mk (a:Addr) (n d t:Int) (rows:List (Int × List Int)) (_:vs=[.ref a]) (_:IsLt cL H a n d t rows) (_:Q (.bl false) H)
def zfr:FnScope pl2 pl2 (zac bS):=fsc
include T in
theorem zfs(D:Mfn K "granted" "LateOne.granted" bS pl2 f fd):FnOk P w K mg bf CX0 1 f fd pl2 (zml Ag):=by
 refine D.F.ok zfr (by walk_at "z") (λc A o s H vs Q E hr h=>?_)
 obtain⟨a,n,d,t,rows,rfl,hg,q⟩:=h
 exact⟨_,(zag (zah zdj)),q⟩
inductive zhY(vs:List V)(H:Hp)(Q:VK)(_:XK):Prop
 | mk (l:Addr) (rs:List (Addr × Addr × Int × List Int)) (_:vs=[.ref l]) (_:IsRun H l rs) (_:rs.length<=2000) (_:∀D H' rs',Same H H'->H D=none->IsRun H' D rs'->rs'.map (·.2.2)=rs.map (·.2.2)->(∀r,r∈rs'->H r.1=none/\H r.2.1=none)->Q (.ref D) H')
def zqe{rs:List (Addr × Addr × Int × List Int)}{bs:List (Addr × Addr)}(l:bs.length=rs.length):((bs.zip rs).map λz=>V.ref (z.1.1,z.1.2,z.2.2.2.1,z.2.2.2.2).1)=bs.map (λb=>V.ref b.1)/\(bs.zip rs).map (λz=>(z.2.2.2.1,z.2.2.2.2))=rs.map (·.2.2):=by
 constructor
 ·rw[show(λz:(Addr × Addr) × (Addr × Addr × Int × List Int)=>V.ref (z.1.1,z.1.2,z.2.2.2.1,z.2.2.2.2).1)=(λb:Addr × Addr=>V.ref b.1) ∘ Prod.fst from rfl,<-tW,List.map_fst_zip (by omega)]
 ·rw[show(λz:(Addr × Addr) × (Addr × Addr × Int × List Int)=>(z.2.2.2.1,z.2.2.2.2))=(λr:Addr × Addr × Int × List Int=>r.2.2) ∘ Prod.snd from rfl,<-tW,pF (by omega)]
def zlk:FnScope ["rows"] ["rows"] (zac zfZ):=fsc
include T in
theorem zll(D:Dfn K mg "own_rows" zfZ ["rows"] f fd):Cal P w K mg bf "own_rows" 1 ["rows"] zhY:=by
 refine D.cal (D.F.ok zlk (by walk_at "z") (λc A o s H vs Q E hr h=>?_))
 obtain⟨l,rs,rfl,hR,len,q⟩:=h
 refine⟨_,(zag (zah (zaZ (N:=["row"]) (js:=[]) rfl cpo (zaK (pv 0)) (λ_ _ _ _ _=>zbG) (λ_ _ _ _ _=>(zaM (zaa (zaq (r:=rIxT K) zal (pv 0) zae (λ_ _=>rfl)) (zaa (zbK (zmO (K:=K) rfl) rfl T.ziV zfG (zaa (zaq (r:=rIxT K) zal (pv 0) zae (λ_ _=>rfl)) zaf)) zaf))))))),?_⟩
 have big:(10000:Nat)<=sizeLine:=by decide
 refine⟨_,rfl,l,rfl,⟨_,SqL.of hR.at_⟩,?_⟩
 refine zmR (xs:=rs.map λr=>V.ref r.1) (λi=>V.int (rs.getD i (0,0,0,[])).2.2.1) (λi=>((rs.getD i (0,0,0,[])).2.2.2).map V.int) (SqL.of hR.at_) (λi x Hh Q' hx sh q'=>q' Hh (Same.refl _)) ?_ (by rw[tq];omega) (λD H1 bs s1 nD hD lb hb=>?_)
 ·intro i x Hh Q' hx sh q'
  obtain⟨r,e,hx⟩:=gmp hx
  cases hx
  have hr':=tz e
  have h1:=sh _ _ (hR.row r hr')
  have h2:=sh _ _ (hR.num r hr')
  rw[show rs.getD i (0,0,0,[])=r by rw[tK,e];rfl]at q'
  exact⟨_,rfl,r.1,_,_,_,rfl,rfl,SqT.of h1,rfl,_,rfl,r.1,_,_,_,rfl,rfl,SqT.of h1,rfl,r.2.1,_,rfl,.inl (SqL.of h2),λlx Hx sx nx hx=>⟨si2,λp H3 s3 n3 h3=>q' p lx H3 (sx.trans s3) nx (Same.free sx n3) h3 (s3 _ _ hx)⟩⟩
 rw[tq]at lb
 obtain⟨z1,z2⟩:=zqe (rs:=rs) (bs:=bs) lb
 have mem:∀{z:(Addr × Addr) × (Addr × Addr × Int × List Int)},z∈bs.zip rs->H1 z.1.1=some (.tup [.int z.2.2.2.1,.ref z.1.2])/\H1 z.1.2=some (.lst (z.2.2.2.2.map V.int))/\H z.1.1=none/\H z.1.2=none:=λ{z} hz=>by
  obtain⟨i,hi,ez⟩:=tX hz
  have hz':(bs.zip rs)[i]?=some z:=by rw[tm hi,ez]
  rw[rS]at hz'
  have:=hb i z.1 hz'.1
  rw[show rs.getD i (0,0,0,[])=z.2 by rw[tK,hz'.2];rfl]at this
  exact this
 refine q D H1 ((bs.zip rs).map λz=>(z.1.1,z.1.2,z.2.2.2.1,z.2.2.2.2)) s1 nD ⟨?_,λr hr=>?_,λr hr=>?_⟩ ?_ λr hr=>?_
 ·rw[hD,tW,<-z1]
  rfl
 ·obtain⟨z,hz,rfl⟩:=mem_map.mp hr
  exact(mem hz).1
 ·obtain⟨z,hz,rfl⟩:=mem_map.mp hr
  exact(mem hz).2.1
 ·rw[tW]
  exact z2
 ·obtain⟨z,hz,rfl⟩:=mem_map.mp hr
  exact(mem hz).2.2
def ltN:List Str:=["number","due","turn","run"]
def noL{C:Addr}(a:zak K C "number")(b:zak K C "due")(c:zak K C "turn")(d:zak K C "run"):∀g,g∈ltN->zak K C g:=λg hg=>by
 rcases mem_cons.mp hg with rfl | hg
 ·exact a
 rcases mem_cons.mp hg with rfl | hg
 ·exact b
 rcases mem_cons.mp hg with rfl | hg
 ·exact c
 rw[mem_singleton.mp hg]
 exact d
inductive zmm(K:am)(vs:List V)(H:Hp)(Q:VK)(_:XK):Prop
 | mk (x C dx l:Addr) (n d t:Int) (rs:List (Addr × Addr × Int × List Int)) (_:vs=[.ref x,.int n,.int d,.int t,.ref l]) (_:H x=some (.ins C dx [])) (_:Cls K C) (_:(∀f,f∈ltN->zak K C f)) (_:IsRun H l rs) (_:rs.length<=1481) (_:∀H' r rs',But x H H'->H' x=some (.ins C dx [("number",.int n),("due",.int d),("turn",.int t),("run",.ref r)])->IsRun H' r rs'->rs'.map (·.2.2)=rs.map (·.2.2)->Q .non H')
inductive zoR(cL:Addr)(vs:List V)(H:Hp)(Q:VK)(_:XK):Prop
 | mk (l:Addr) (n d t:Int) (rs:List (Addr × Addr × Int × List Int)) (_:vs=[.int n,.int d,.int t,.ref l]) (_:IsRun H l rs) (_:rs.length<=1481) (_:(∀r,r∈rs->r.2.2.2.length<=40)) (_:∀a H',Same H H'->H a=none->IsLt cL H' a n d t (aw rs)->Q (.ref a) H')
def ztA{cL:Addr}(cl:Cls K cL)(no:∀f,f∈ltN->zak K cL f):∀vs H Q E,zoR cL vs H Q E->∀y dx,H y=none->H dx=none->dx≠y->zmm K (.ref y::vs) (upd (upd H dx (.own y)) y (.ins cL dx [])) (λv H2=>v=.non/\Q (.ref y) H2) E:=by
 rintro vs H Q E ⟨l,n,d,t,rs,rfl,hR,len,l40,q⟩ y dx ny nd ne
 have up:Same H (upd (upd H dx (.own y)) y (.ins cL dx [])):=λz o h=>by
  rw[zau (zaA h ny),zau (zaA h nd)]
  exact h
 refine⟨y,cL,dx,l,n,d,t,rs,rfl,zan,cl,no,hR.same up,len,λH' r rs' k e R' er=>⟨rfl,q y H' (λw o hw=>k w o (zaA hw ny) (up w o hw)) ny ⟨dx,r,rs',e,R',?_,λr hr=>?_,?_⟩⟩⟩
 ·exact er
 ·have:r.2.2∈rs'.map (·.2.2):=mem_map.mpr ⟨r,hr,rfl⟩
  rw[er]at this
  obtain⟨z,hz,ez⟩:=mem_map.mp this
  rw[<-ez]
  exact l40 z hz
 ·have:=tS List.length er
  rw[tq,tq]at this
  omega
def zoS{H H':Hp}{x C dx l:Addr}{fs:List (Str × V)}{rs:List (Addr × Addr × Int × List Int)}(hx:H x=some (.ins C dx fs))(k:But x H H')(h:IsRun H l rs):IsRun H' l rs:=
 ⟨k _ _ (λz=>by have:=h.at_;rw[z,hx]at this;cases this) h.at_,λr hr=>k _ _ (λz=>by have:=h.row r hr;rw[z,hx]at this;cases this) (h.row r hr),λr hr=>k _ _ (λz=>by have:=h.num r hr;rw[z,hx]at this;cases this) (h.num r hr)⟩
def zeS:FnScope pl21 pl21 (zac zbQ):=fsc
include T in
theorem zeT(D:Mfn K "__init__" "LateOne.__init__" zbQ pl21 f fd)(zcs:Cal P w K mg bf "own_rows" 1 ["rows"] zhY):FnOk P w K mg bf CX0 2 f fd pl21 (zmm K):=by
 refine D.F.ok zeS (by walk_at "z") (λc A o s H vs Q E hr h=>?_)
 obtain⟨x,C,dx,l,n,d,t,rs,rfl,hx,cl,no,hR,len,q⟩:=h
 refine⟨_,(zab (zaP (pv 0) (pv 1))
  (zab (zaP (pv 0) (pv 2))
  (zab (zaP (pv 0) (pv 3))
  (zag (zaP (pv 0) (zaj zcs hr.o rfl (zaa (pv 4) zaf))))))),?_⟩
 refine⟨_,rfl,_,rfl,x,C,dx,_,rfl,hx,cl,no _ (by decide),(by show(0:Nat)<1000;decide),λH1 k1 h1=>?_⟩
 have h1:H1 x=some (.ins C dx [("number",.int n)]):=h1
 refine⟨_,rfl,_,rfl,x,C,dx,_,rfl,h1,cl,no _ (by decide),(by show(1:Nat)<1000;decide),λH2 k2 h2=>?_⟩
 have h2:H2 x=some (.ins C dx [("number",.int n),("due",.int d)]):=h2
 refine⟨_,rfl,_,rfl,x,C,dx,_,rfl,h2,cl,no _ (by decide),(by show(2:Nat)<1000;decide),λH3 k3 h3=>?_⟩
 have h3:H3 x=some (.ins C dx [("number",.int n),("due",.int d),("turn",.int t)]):=h3
 have k13:=k1.trans (k2.trans k3)
 refine⟨_,rfl,l,rs,rfl,zoS hx k13 hR,by omega,λD H4 rs4 s4 n4 R4 e4 _=>?_⟩
 exact⟨_,rfl,x,C,dx,_,rfl,s4 _ _ h3,cl,no _ (by decide),(by show(3:Nat)<1000;decide),λH5 k5 h5=>q H5 D rs4 (k13.trans (s4.toBut.trans k5)) h5 (zoS (s4 _ _ h3) k5 R4) e4⟩
def IsSt.butI{ct:Addr}{H H':Hp}{a x C dx:Addr}{rs:List SR}{fs:List (Str × V)}(hx:H x=some (.ins C dx fs))(ax:a≠x)(k:But x H H')(h:IsSt ct H a rs):IsSt ct H' a rs:=by
 obtain⟨sdx,m,zs,e1,e2,e3⟩:=h
 refine⟨sdx,m,zs,k _ _ ax e1,e2.but k hx (λ_ z=>by cases z) (λz=>?_),e3⟩
 have:=e2.at_
 rw[z,hx]at this
 cases this
def hsN:List Str:=["sorts","hands","turn","pieces","numbers","rows"]
def noH{C:Addr}(a:zak K C "sorts")(b:zak K C "hands")(c:zak K C "turn")(d:zak K C "pieces")(e:zak K C "numbers")(f:zak K C "rows"):∀g,g∈hsN->zak K C g:=λg hg=>by
 rcases mem_cons.mp hg with rfl | hg
 ·exact a
 rcases mem_cons.mp hg with rfl | hg
 ·exact b
 rcases mem_cons.mp hg with rfl | hg
 ·exact c
 rcases mem_cons.mp hg with rfl | hg
 ·exact d
 rcases mem_cons.mp hg with rfl | hg
 ·exact e
 rw[mem_singleton.mp hg]
 exact f
structure New(v:Hv)(rs:List SR)(h:Int):Prop where
 rs:v.rs=rs
 h:v.h=h
 t:v.t=0
 ps:v.ps=[]
 nb:v.nb=[]
inductive zmn(K:am)(cs:CsA)(cS:Addr)(vs:List V)(H:Hp)(Q:VK)(_:XK):Prop
 | mk (x C dx l:Addr) (xs:List (Addr × SR)) (h:Int) (_:vs=[.ref x,.ref l,.int h]) (_:H x=some (.ins C dx [])) (_:Cls K C) (_:(∀f,f∈hsN->zak K C f)) (_:IsSRs H l xs) (_:RsOk (xs.map (·.2))) (_:1<=h) (_:h<=6) (_:∀H' v,But x H H'->H' x=some (.ins C dx v.fs)->HsP cs cS H' v->New v (xs.map (·.2.low)) h->Q .non H')
inductive zoT(cs:CsA)(cS cHs:Addr)(vs:List V)(H:Hp)(Q:VK)(_:XK):Prop
 | mk (l:Addr) (xs:List (Addr × SR)) (h:Int) (_:vs=[.ref l,.int h]) (_:IsSRs H l xs) (_:RsOk (xs.map (·.2))) (_:1<=h) (_:h<=6) (_:∀o H' v,Same H H'->H o=none->IsHs cs cS cHs H' o v->New v (xs.map (·.2.low)) h->Q (.ref o) H')
def ztB{cs:CsA}{cS cHs:Addr}(cl:Cls K cHs)(no:∀f,f∈hsN->zak K cHs f):∀vs H Q E,zoT cs cS cHs vs H Q E->∀y dx,H y=none->H dx=none->dx≠y->zmn K cs cS (.ref y::vs) (upd (upd H dx (.own y)) y (.ins cHs dx [])) (λv H2=>v=.non/\Q (.ref y) H2) E:=by
 rintro vs H Q E ⟨l,xs,h,rfl,g,k,h0,h1,q⟩ y dx ny nd ne
 have up:Same H (upd (upd H dx (.own y)) y (.ins cHs dx [])):=λz o h=>by
  rw[zau (zaA h ny),zau (zaA h nd)]
  exact h
 exact⟨y,cHs,dx,l,xs,h,rfl,zan,cl,no,g.same up,k,h0,h1,λH' v k' hy hp nw=>⟨rfl,q y H' v (λw o hw=>k' w o (zaA hw ny) (up w o hw)) ny ⟨⟨dx,hy⟩,hp⟩ nw⟩⟩
def zgq:FnScope pl22 pl22 (zac zci):=fsc
include T in
theorem zgr(D:Mfn K "__init__" "House.__init__" zci pl22 f fd)(zao:Cal P w K mg bf "is_whole" 1 pl4 (zbo K))(C8:MakG CX0 P w K mg bf "Sorts" Af 7 (zme Af)):FnOk P w K mg bf CX0 9 f fd pl22 (zmn K (CsA.mk Ae Aa Ab Ac) Af):=by
 refine D.F.ok zgq (by walk_at "z") (λc A o s H vs Q E hr h=>?_)
 obtain⟨x,C,dx,l,xs,h,rfl,hx,cl,no,hl,ro,h0,h1,q⟩:=h
 refine⟨_,(zab (zaP (pv 0) (zfR C8 hr.o rfl zaD (zaa (pv 1) zaf)))
  (zab (au (zbl (av (zaj zao hr.o rfl (zaa (pv 2) (zaa zae (zaa (zbB (v:=.int 6) rfl T.A7.choose_spec ⟨_,rfl⟩) zaf)))))) (zag aB) zaw)
  (zab (zaP (pv 0) (pv 2))
  (zab (zaP (pv 0) zae)
  (zab (zaP (pv 0) (zaO zaf))
  (zab (zaP (pv 0) zfd)
  (zag (zaP (pv 0) (zaO zaf))))))))),?_⟩
 refine⟨_,rfl,l,xs,rfl,hl,ro,λa H1 s1 hst=>?_⟩
 refine⟨_,rfl,x,C,dx,_,rfl,s1 _ _ hx,cl,no _ (by decide),(by show(0:Nat)<1000;decide),λH2 k2 h2=>?_⟩
 have h2:H2 x=some (.ins C dx [("sorts",.ref a)]):=by
  rw[h2]
  rfl
 have k02:But x H H2:=s1.toBut.trans k2
 have ax:a≠x:=λz=>by
  obtain⟨_,_,_,e,_⟩:=hst
  rw[z,s1 _ _ hx]at e
  cases e
 have hst2:IsSt Af H2 a (xs.map (·.2.low)):=hst.butI (s1 _ _ hx) ax k2
 refine⟨_,rfl,.int h,1,6,_,rfl,.inl ⟨h,rfl,rfl⟩,?_⟩
 rw[decide_eq_true h0,decide_eq_true h1]
 refine⟨_,rfl,iteF ?_⟩
 refine⟨_,rfl,_,rfl,x,C,dx,_,rfl,h2,cl,no _ (by decide),(by show(1:Nat)<1000;decide),λH3 k3 h3=>?_⟩
 have h3:H3 x=some (.ins C dx [("sorts",.ref a),("hands",.int h)]):=by
  rw[h3]
  rfl
 refine⟨_,rfl,x,C,dx,_,rfl,h3,cl,no _ (by decide),(by show(2:Nat)<1000;decide),λH4 k4 h4=>?_⟩
 have h4:H4 x=some (.ins C dx [("sorts",.ref a),("hands",.int h),("turn",.int 0)]):=by
  rw[h4]
  rfl
 refine⟨si0,λl5 H5 s5 n5 e5=>⟨_,rfl,x,C,dx,_,rfl,s5 _ _ h4,cl,no _ (by decide),(by show(3:Nat)<1000;decide),λH6 k6 h6=>?_⟩⟩
 have h6:H6 x=some (.ins C dx [("sorts",.ref a),("hands",.int h),("turn",.int 0),("pieces",.ref l5)]):=by
  rw[h6]
  rfl
 refine λd7 H7 s7 n7 e7=>⟨_,rfl,x,C,dx,_,rfl,s7 _ _ h6,cl,no _ (by decide),(by show(4:Nat)<1000;decide),λH8 k8 h8=>?_⟩
 have h8:H8 x=some (.ins C dx [("sorts",.ref a),("hands",.int h),("turn",.int 0),("pieces",.ref l5),("numbers",.ref d7)]):=by
  rw[h8]
  rfl
 refine⟨si0,λl9 H9 s9 n9 e9=>⟨_,rfl,x,C,dx,_,rfl,s9 _ _ h8,cl,no _ (by decide),(by show(5:Nat)<1000;decide),λH10 k10 h10=>?_⟩⟩
 have nl:∀{z:Addr}{Hh:Hp}{fs:List (Str × V)}{ys:List V},Hh x=some (.ins C dx fs)->Hh z=some (.lst ys)->z≠x:=λhw hz e=>by
  rw[e,hw]at hz
  cases hz
 have nd:d7≠x:=λe=>by
  rw[e,s7 _ _ h6]at e7
  cases e7
 have k210:But x H2 H10:=k3.trans (k4.trans (s5.toBut.trans (k6.trans (s7.toBut.trans (k8.trans (s9.toBut.trans k10))))))
 have k510:But x H5 H10:=k6.trans (s7.toBut.trans (k8.trans (s9.toBut.trans k10)))
 refine q H10 ⟨xs.map (·.2.low),h,0,[],[],a,l5,d7,l9⟩ (k02.trans k210) (by rw[h10];rfl) ⟨hst2.butI h2 ax k210,⟨k510 _ _ (nl (s5 _ _ h4) e5) e5,λq hq=>by simp at hq⟩,(k8.trans (s9.toBut.trans k10)) _ _ nd e7,[],k10 _ _ (nl (s9 _ _ h8) e9) e9,rfl⟩ ⟨rfl,rfl,rfl,rfl,rfl⟩
inductive zmY(K:am)(cs:CsA)(cS cH:Addr)(vs:List V)(H:Hp)(Q:VK)(_:XK):Prop
 | mk (o:Addr) (v:Hv) (_:vs=[.ref o]) (_:IsHs cs cS cH H o v) (_:PsOk v.rs v.ps) (_:∀D H' xs,Same H H'->H D=none->ChIn K H' D xs->xs.map (·.2)=chV v.rs v.ps->Q (.ref D) H')
def zeU:FnScope pl2 pl2 (zac zbU):=fsc
include T in
theorem zeV(D:Mfn K "chores_now" "House.chores_now" zbU pl2 f fd)(zca:Cal P w K mg bf "chores_of" 10 pl19 (zgo K (CsA.mk Ae Aa Ab Ac) Af)):FnOk P w K mg bf CX0 11 f fd pl2 (zmY K (CsA.mk Ae Aa Ab Ac) Af Ad):=by
 refine D.F.ok zeU (by walk_at "z") (λc A o s H vs Q E hr h=>?_)
 obtain⟨o,v,rfl,⟨⟨dx,e⟩,hp⟩,ok,q⟩:=h
 have O:=T.Ai
 refine⟨_,(zag (zah (zaj zca hr.o rfl (zaa (zai (pv 0) rfl) (zaa (zai (pv 0) rfl) zaf))))),?_⟩
 exact⟨_,rfl,o,_,dx,_,_,rfl,e,O.cl,T.Aj,rfl,_,rfl,o,_,dx,_,_,rfl,e,O.cl,T.An,rfl,v.aP,v.aS,v.ps,v.rs,rfl,hp.ps,hp.st,ok,q⟩
def ofW(d:Wd)(ps:List (Addr × Wd × Pv)):List (Addr × Wd × Pv):=ps.filter λq=>decide (q.2.1=d)
def zbV{d:Wd}{ps:List (Addr × Wd × Pv)}{q:Addr × Wd × Pv}:q∈ofW d ps↔q∈ps/\q.2.1=d:=by
 unfold ofW
 rw[mem_filter,sy]
inductive zmZ(cs:CsA)(cS cH:Addr)(d:Wd)(vs:List V)(H:Hp)(Q:VK)(_:XK):Prop
 | mk (o:Addr) (v:Hv) (_:vs=[.ref o]) (_:IsHs cs cS cH H o v) (_:v.ps.length<=200) (_:∀D H',Same H H'->H D=none->IsPs cs H' D (ofW d v.ps)->Q (.ref D) H')
theorem is_w(T:Txt K mg BC Ae Aa Cr Ab Ac Am Af AC Ah Ag Ad):∀d,W.kitOne K (.ref (CsA.cl (CsA.mk Ae Aa Ab Ac) d)) (.ref Aa)=some (decide (d=.waiting)):=λd=>match d with
 | .waiting=>T.C7
 | .held=>T.DL
 | .givenUp=>T.C6
 | .missed=>T.Dp
theorem is_h(T:Txt K mg BC Ae Aa Cr Ab Ac Am Af AC Ah Ag Ad):∀d,W.kitOne K (.ref (CsA.cl (CsA.mk Ae Aa Ab Ac) d)) (.ref Ae)=some (decide (d=.held)):=λd=>match d with
 | .waiting=>T.DM
 | .held=>T.El
 | .givenUp=>T.DK
 | .missed=>T.DV
def zdD:FnScope pl2 pl2 (zac zbk):=fsc
include T in
theorem zdE(D:Mfn K "pieces_waiting" "House.pieces_waiting" zbk pl2 f fd):FnOk P w K mg bf CX0 1 f fd pl2 (zmZ (CsA.mk Ae Aa Ab Ac) Af Ad .waiting):=by
 refine D.F.ok zdD (by walk_at "z") (λc A o s H vs Q E hr h=>?_)
 obtain⟨o,v,rfl,⟨⟨dx,e⟩,hp⟩,len,q⟩:=h
 have O:=T.Ai
 have S:=zcd T
 refine⟨_,(zag (zah (zaZ (N:=["piece"]) (js:=[]) rfl cpo (zaK (zai (pv 0) rfl)) (λ_ _ _ _ _=>(zdb (av (zay (ziP (C:=Aa) (K:=K) rfl) rfl T.za2 zaS (zaa (pv 0) (zaa (zbB (v:=.ref Aa) rfl T.Ef rfl) zaf)))))) (λ_ _ _ _ _=>(pv 0))))),?_⟩
 have ml:(v.ps.map λq=>V.ref q.1).length=v.ps.length:=tq _
 refine⟨_,rfl,o,_,dx,_,_,rfl,e,O.cl,T.Aj,rfl,v.aP,rfl,⟨_,SqL.of hp.ps.at_⟩,?_⟩
 refine aC (xs:=v.ps.map λq=>V.ref q.1) (tak v.ps λq=>decide (q.2.1=.waiting)) (itm v.ps λq=>V.ref q.1) (SqL.of hp.ps.at_) ?_ ?_ (zaC (by rw[ml];omega)) (λD H1 s1 nD hD=>?_)
 ·intro i x Hh Q' hx sh q'
  obtain⟨z,ez,hx⟩:=gmp hx
  cases hx
  have zz:=q' Hh (Same.refl _)
  unfold tak at zz
  rw[ez]at zz
  obtain⟨zdx,e1⟩:=(hp.ps.pc z (tz ez)).same sh
  exact⟨_,rfl,_,_,_,rfl,.old ((S.ow z.2.1).ty e1),is_w T z.2.1,_,rfl,zz⟩
 ·intro i x Hh Q' hx _ sh q'
  obtain⟨z,ez,hx⟩:=gmp hx
  cases hx
  have zz:=q' Hh (Same.refl _)
  unfold itm at zz
  rw[ez]at zz
  exact⟨_,rfl,zz⟩
 rw[ml,zbZ]at hD
 exact q D H1 s1 nD ⟨hD,λz hz=>(hp.ps.pc z (zbV.mp hz).1).same s1⟩
def zhZ:FnScope pl2 pl2 (zac bU):=fsc
include T in
theorem fG(D:Mfn K "places" "House.places" bU pl2 f fd):FnOk P w K mg bf CX0 1 f fd pl2 (zmZ (CsA.mk Ae Aa Ab Ac) Af Ad .held):=by
 refine D.F.ok zhZ (by walk_at "z") (λc A o s H vs Q E hr h=>?_)
 obtain⟨o,v,rfl,⟨⟨dx,e⟩,hp⟩,len,q⟩:=h
 have O:=T.Ai
 have S:=zcd T
 refine⟨_,(zag (zah (zaZ (N:=["piece"]) (js:=[]) rfl cpo (zaK (zai (pv 0) rfl)) (λ_ _ _ _ _=>(zdb (av (zay (ziP (C:=Ae) (K:=K) rfl) rfl T.za2 zaS (zaa (pv 0) (zaa (zbB (v:=.ref Ae) rfl T.EJ rfl) zaf)))))) (λ_ _ _ _ _=>(pv 0))))),?_⟩
 have ml:(v.ps.map λq=>V.ref q.1).length=v.ps.length:=tq _
 refine⟨_,rfl,o,_,dx,_,_,rfl,e,O.cl,T.Aj,rfl,v.aP,rfl,⟨_,SqL.of hp.ps.at_⟩,?_⟩
 refine aC (xs:=v.ps.map λq=>V.ref q.1) (tak v.ps λq=>decide (q.2.1=.held)) (itm v.ps λq=>V.ref q.1) (SqL.of hp.ps.at_) ?_ ?_ (zaC (by rw[ml];omega)) (λD H1 s1 nD hD=>?_)
 ·intro i x Hh Q' hx sh q'
  obtain⟨z,ez,hx⟩:=gmp hx
  cases hx
  have zz:=q' Hh (Same.refl _)
  unfold tak at zz
  rw[ez]at zz
  obtain⟨zdx,e1⟩:=(hp.ps.pc z (tz ez)).same sh
  exact⟨_,rfl,_,_,_,rfl,.old ((S.ow z.2.1).ty e1),is_h T z.2.1,_,rfl,zz⟩
 ·intro i x Hh Q' hx _ sh q'
  obtain⟨z,ez,hx⟩:=gmp hx
  cases hx
  have zz:=q' Hh (Same.refl _)
  unfold itm at zz
  rw[ez]at zz
  exact⟨_,rfl,zz⟩
 rw[ml,zbZ]at hD
 exact q D H1 s1 nD ⟨hD,λz hz=>(hp.ps.pc z (zbV.mp hz).1).same s1⟩
def zoU{H H':Hp}{u:Addr}{c:Cl}(t:Tups H H')(h:IsCl K H u c):IsCl K H' u c:=by
 obtain⟨pw,ps,x,y,z⟩:=h.ex
 exact⟨pw,ps,t _ _ x,t _ _ y,t _ _ z⟩
def clV(rs:List SR)(ps:List (Addr × Wd × Pv)):List Cl:=(ofW .waiting ps).map λq=>clOf q.2.2 (az rs q.2.2.nm).low
theorem PsOk.len_w{rs:List SR}{ps:List (Addr × Wd × Pv)}(h:PsOk rs ps)(d:Wd)(od:d.opn=true):(ofW d ps).length<=40:=by
 refine tM ?_ h.op
 unfold ofW
 have:∀l:List (Addr × Wd × Pv),(l.filter λq=>decide (q.2.1=d)).length<=(l.filter λq=>q.2.1.opn).length:=λl=>by
  induction l with
  | nil=>exact tD _
  | cons x l ih=>
    rw[sQ,sQ]
    by_cases c:x.2.1=d
    ·rw[if_pos (decide_eq_true c),if_pos (by rw[c];exact od),length_cons,length_cons]
     omega
    ·rw[if_neg (by simpa using c)]
     split
     ·rw[length_cons]
      omega
     ·exact ih
 exact this ps
def PsOk.good{rs:List SR}{ps:List (Addr × Wd × Pv)}(h:PsOk rs ps):Good (clV rs ps):=by
 refine⟨λc hc=>?_,?_⟩
 ·obtain⟨q,hq,rfl⟩:=mem_map.mp hc
  have hq:=(zbV.mp hq).1
  obtain⟨_,_,_,c0,c1⟩:=h.ok q hq
  exact zty (h.n0 q hq) c0 c1 (h.ro _ (h.fd q hq).1)
 ·unfold clV
  rw[tW]
  exact h.nd.sublist (filter_sublist.map _)
inductive zoV(K:am)(cs:CsA)(cS cH:Addr)(vs:List V)(H:Hp)(Q:VK)(_:XK):Prop
 | mk (o:Addr) (v:Hv) (_:vs=[.ref o]) (_:IsHs cs cS cH H o v) (_:PsOk v.rs v.ps) (_:∀D H' bs,Same H H'->H D=none->IsCs K H' D bs->bs.map (·.2)=clV v.rs v.ps->Q (.ref D) H')
def zeW:FnScope pl2 pl2 (zac zbT):=fsc
include T in
theorem zeX(D:Mfn K "claims_now" "House.claims_now" zbT pl2 f fd)(zcr:Cal P w K mg bf "claim_of" 8 pl8 (zld K (CsA.mk Ae Aa Ab Ac) Af))(At:MOk CX0 P w K mg bf 1 Ad "pieces_waiting" (zmZ (CsA.mk Ae Aa Ab Ac) Af Ad .waiting)):FnOk P w K mg bf CX0 9 f fd pl2 (zoV K (CsA.mk Ae Aa Ab Ac) Af Ad):=by
 refine D.F.ok zeW (by walk_at "z") (λc A o s H vs Q E hr h=>?_)
 obtain⟨o,v,rfl,hh,ok,q⟩:=h
 obtain⟨dx,e⟩:=hh.at_
 have O:=T.Ai
 refine⟨_,(zag (zah (zaZ (N:=["piece","self"]) (js:=[0]) rfl cpo (zaK (zaI (k:=1) (pv 0) hr.o zaD)) (λ_ _ _ _ _=>zbG) (λ_ _ _ _ _=>(zaj zcr hr.o rfl (zaa (pv 0) (zaa (aD (K:=K) rfl (pv 1) rfl) zaf))))))),?_⟩
 refine⟨_,rfl,o,_,dx,_,_,rfl,e,rfl,At,o,v,rfl,hh,ok.len,λl H1 s1 nl hl=>⟨l,rfl,⟨_,SqL.of hl.at_⟩,?_⟩⟩
 have hh1:=hh.same s1
 have lw:=ok.len_w .waiting rfl
 have ml:((ofW .waiting v.ps).map λq=>V.ref q.1).length=(ofW .waiting v.ps).length:=tq _
 refine zje (xs:=(ofW .waiting v.ps).map λq=>V.ref q.1) (tak (ofW .waiting v.ps) λ_=>true) (itG (ofW .waiting v.ps) (λq=>clOf q.2.2 (az v.rs q.2.2.nm).low) ⟨0,0,0,0,0,0⟩) (IsCl K) (λH H' u c t h=>zoU t h) (SqL.of hl.at_) ?_ ?_ (zaC (by rw[ml];omega)) (λD H2 bs s2 nD hD eb hb=>?_)
 ·intro i x Hh Q' hx sh q'
  rw[getElem?_map]at hx
  cases ez:(ofW .waiting v.ps)[i]? with
  | none=>rw[ez]at hx;cases hx
  | some z=>
    have zz:=q' Hh (Same.refl _)
    unfold tak at zz
    rw[ez]at zz
    exact zz
 ·intro i x Hh Q' hx _ sh q'
  obtain⟨z,ez,hx⟩:=gmp hx
  cases hx
  have hz:=tz ez
  have hz2:=(zbV.mp hz).1
  unfold itG at q'
  rw[ez]at q'
  obtain⟨dx2,e2⟩:=(hh1.same sh).at_
  exact⟨_,rfl,_,rfl,o,_,dx2,_,_,rfl,e2,O.cl,T.An,rfl,z.1,v.aS,z.2.1,z.2.2,v.rs,_,rfl,(hl.pc z hz).same sh,(hh1.same sh).p.st,ok.rl,ok.ro,ok.fd z hz2,λt H' s' ht=>q' t H' s' ht⟩
 rw[ml,zfS,zcN]at eb
 exact q D H2 bs (s1.trans s2) (Same.free s1 nD) ⟨hD,hb⟩ eb
inductive zlm(K:am)(cs:CsA)(cS cH tT:Addr)(vs:List V)(H:Hp)(Q:VK)(_:XK):Prop
 | mk (o:Addr) (v:Hv) (_:vs=[.ref o]) (_:IsHs cs cS cH H o v) (_:PsOk v.rs v.ps) (_:0<=v.t) (_:v.t<=1000) (_:(∀q,q∈v.ps->q.2.1=.waiting->q.2.2.came<=v.t)) (_:H tT=some (.tbl zbh lamQ)) (_:∀D H',Same H H'->H D=none->H' D=some (.lst (((ord (clV v.rs v.ps) v.t).map (·.n)).map V.int))->Q (.ref D) H')
def zgZ:FnScope pl2 pl2 (zac zcC):=fsc
include T in
theorem fH(D:Mfn K "waiting" "House.waiting" zcC pl2 f fd)(zgs:Cal P w K mg bf "order_at" 8 pl10 (zoO K tT))(Cb:MOk CX0 P w K mg bf 9 Ad "claims_now" (zoV K (CsA.mk Ae Aa Ab Ac) Af Ad)):FnOk P w K mg bf CX0 10 f fd pl2 (zlm K (CsA.mk Ae Aa Ab Ac) Af Ad tT):=by
 refine D.F.ok zgZ (by walk_at "z") (λc A o s H vs Q E hr h=>?_)
 obtain⟨o,v,rfl,hh,ok,t0,t1,ca,hT,q⟩:=h
 obtain⟨dx,e⟩:=hh.at_
 have O:=T.Ai
 refine⟨_,(zag (zah (zaj zgs hr.o rfl (zaa (zaI (k:=9) (pv 0) hr.o zaD) (zaa (zai (pv 0) rfl) zaf))))),?_⟩
 refine⟨_,rfl,o,_,dx,_,_,rfl,e,rfl,Cb,o,v,rfl,hh,ok,λl H1 bs s1 nl hl eb=>?_⟩
 have e1:=s1 _ _ e
 have lb:bs.length<=40:=by
  have:=tS List.length eb
  unfold clV at this
  rw[tq,tq]at this
  rw[this]
  exact ok.len_w .waiting rfl
 refine⟨_,rfl,o,_,dx,_,_,rfl,e1,O.cl,T.Al,rfl,l,bs,v.t,rfl,hl,by rw[eb];exact ok.good,lb,s1 _ _ hT,t0,by omega,λb hb=>?_,λm H2 s2 n2 h2=>q m H2 (s1.trans s2) (Same.free s1 n2) (by rw[h2,eb])⟩
 have:b.2∈bs.map (·.2):=mem_map.mpr ⟨b,hb,rfl⟩
 rw[eb]at this
 obtain⟨z,hz,ez⟩:=mem_map.mp this
 rw[<-ez]
 exact ca z (zbV.mp hz).1 (zbV.mp hz).2
inductive zoW(K:am)(cs:CsA)(cS cH:Addr)(vs:List V)(H:Hp)(Q:VK)(_:XK):Prop
 | mk (o:Addr) (v:Hv) (_:vs=[.ref o]) (_:IsHs cs cS cH H o v) (_:PsOk v.rs v.ps) (_:∀D H' (bs:List (Addr × List V)),Same H H'->H D=none->H' D=some (.lst (bs.map λb=>V.ref b.1))->bs.map (·.2)=(ofW .held v.ps).map (λq=>[V.int q.2.2.n,V.str q.2.2.nm,V.int q.2.2.came])->(∀b,b∈bs->H' b.1=some (.tup b.2))->Q (.ref D) H')
def zjs:FnScope pl2 pl2 (zac bZ):=fsc
include T in
theorem zjt(D:Mfn K "held" "House.held" bZ pl2 f fd)(Cp:MOk CX0 P w K mg bf 1 Ad "places" (zmZ (CsA.mk Ae Aa Ab Ac) Af Ad .held)):FnOk P w K mg bf CX0 2 f fd pl2 (zoW K (CsA.mk Ae Aa Ab Ac) Af Ad):=by
 refine D.F.ok zjs (by walk_at "z") (λc A o s H vs Q E hr h=>?_)
 obtain⟨o,v,rfl,hh,ok,q⟩:=h
 obtain⟨dx,e⟩:=hh.at_
 have S:=zcd T
 refine⟨_,(zag (zah (zaZ (N:=["place"]) (js:=[]) rfl cpo (zaK (zaI (k:=1) (pv 0) hr.o zaD)) (λ_ _ _ _ _=>zbG) (λ_ _ _ _ _=>(zaM (zaa (aD (K:=K) rfl (pv 0) rfl) (zaa (aD (K:=K) rfl (pv 0) rfl) (zaa (aD (K:=K) rfl (pv 0) rfl) zaf)))))))),?_⟩
 refine⟨_,rfl,o,_,dx,_,_,rfl,e,rfl,Cp,o,v,rfl,hh,ok.len,λl H1 s1 nl hl=>⟨l,rfl,⟨_,SqL.of hl.at_⟩,?_⟩⟩
 have lw:=ok.len_w .held rfl
 have ml:((ofW .held v.ps).map λq=>V.ref q.1).length=(ofW .held v.ps).length:=tq _
 refine zfc (xs:=(ofW .held v.ps).map λq=>V.ref q.1) (tak (ofW .held v.ps) λ_=>true) (itl (ofW .held v.ps) λq=>[V.int q.2.2.n,V.str q.2.2.nm,V.int q.2.2.came]) (SqL.of hl.at_) ?_ ?_ (zaC (by rw[ml];omega)) (λD H2 bs s2 nD hD eb hb=>?_)
 ·intro i x Hh Q' hx sh q'
  rw[getElem?_map]at hx
  cases ez:(ofW .held v.ps)[i]? with
  | none=>rw[ez]at hx;cases hx
  | some z=>
    have zz:=q' Hh (Same.refl _)
    unfold tak at zz
    rw[ez]at zz
    exact zz
 ·intro i x Hh Q' hx _ sh q'
  obtain⟨z,ez,hx⟩:=gmp hx
  cases hx
  have hz:=tz ez
  unfold itl at q'
  rw[ez]at q'
  obtain⟨zdx,e1⟩:=(hl.pc z hz).same sh
  exact⟨_,rfl,z.1,_,zdx,_,_,rfl,e1,(S.ow z.2.1).cl,S.n1 z.2.1,rfl,_,rfl,z.1,_,zdx,_,_,rfl,e1,(S.ow z.2.1).cl,S.n2 z.2.1,rfl,_,rfl,z.1,_,zdx,_,_,rfl,e1,(S.ow z.2.1).cl,S.n3 z.2.1,rfl,si3,λp H3 s3 n3 h3=>q' p H3 s3 h3⟩
 rw[ml,zev,zcN]at eb
 exact q D H2 bs (s1.trans s2) (Same.free s1 nD) hD eb hb
inductive ck(cs:CsA)(cS cH:Addr)(vs:List V)(H:Hp)(Q:VK)(_:XK):Prop
 | mk (o:Addr) (v:Hv) (i:Nat) (q0:Addr × Wd × Pv) (_:vs=[.ref o,.int i]) (_:IsHs cs cS cH H o v) (_:v.ps[i]?=some q0) (_:Q (.ref q0.1) H)
def zgt:FnScope pl20 pl20 (zac zcj):=fsc
include T in
theorem zgu(D:Mfn K "piece_of" "House.piece_of" zcj pl20 f fd)(zao:Cal P w K mg bf "is_whole" 1 pl4 (zbo K)):FnOk P w K mg bf CX0 2 f fd pl20 (ck (CsA.mk Ae Aa Ab Ac) Af Ad):=by
 refine D.F.ok zgt (by walk_at "z") (λc A o s H vs Q E hr h=>?_)
 obtain⟨o,v,i,q0,rfl,hh,ei,q⟩:=h
 obtain⟨dx,e⟩:=hh.at_
 have O:=T.Ai
 refine⟨_,(zab (au (zbl (av (zaj zao hr.o rfl (zaa (pv 1) (zaa zae (zaa (zaz zgI (zay zaF rfl T.zdf zbL (zaa (zai (pv 0) rfl) zaf)) zae) zaf)))))) (zag aB) zaw)
  (zag (zah (zaq zbC (zai (pv 0) rfl) (pv 1) (λ_ _=>rfl))))),?_⟩
 have il:i<v.ps.length:=(List.getElem?_eq_some_iff.mp ei).1
 have ml:(v.ps.map λq=>V.ref q.1).length=v.ps.length:=tq _
 refine⟨_,rfl,_,rfl,o,_,dx,_,_,rfl,e,O.cl,T.Aj,rfl,v.aP,_,rfl,.inl (SqL.of hh.p.ps.at_),_,_,rfl,rfl,.int i,0,_,_,rfl,.inl ⟨i,rfl,rfl⟩,?_⟩
 rw[decide_eq_true (by omega:(0:Int)<=i),decide_eq_true (by rw[ml];omega:(i:Int)<=((v.ps.map λq=>V.ref q.1).length:Int)-1)]
 refine⟨_,rfl,iteF ?_⟩
 refine⟨_,rfl,o,_,dx,_,_,rfl,e,O.cl,T.Aj,rfl,_,rfl,v.aP,_,i,_,rfl,rfl,SqL.of hh.p.ps.at_,?_,q⟩
 exact zcT (by rw[getElem?_map,ei];rfl)
inductive zju(cs:CsA)(cS cH:Addr)(vs:List V)(H:Hp)(Q:VK)(_:XK):Prop
 | mk (o:Addr) (v:Hv) (i:Nat) (q0:Addr × Wd × Pv) (_:vs=[.ref o,.int i]) (_:IsHs cs cS cH H o v) (_:v.ps[i]?=some q0) (_:q0.2.1=.waiting) (_:Q (.ref q0.1) H)
def zbX:FnScope ["self","number","piece"] pl20 (zac zbn):=fsc
include T in
theorem zdP(D:Mfn K "waiting_piece" "House.waiting_piece" zbn pl20 f fd)(Bf:MOk CX0 P w K mg bf 2 Ad "piece_of" (ck (CsA.mk Ae Aa Ab Ac) Af Ad)):FnOk P w K mg bf CX0 3 f fd pl20 (zju (CsA.mk Ae Aa Ab Ac) Af Ad):=by
 refine D.F.ok zbX (by walk_at "z") (λc A o s H vs Q E hr h=>?_)
 obtain⟨o,v,i,q0,rfl,hh,ei,ew,q⟩:=h
 obtain⟨dx,e⟩:=hh.at_
 have S:=zcd T
 refine⟨_,(zab (zap (i:=2) zbX.nd rfl (Or.inl rfl) (zbd (k:=2) (pv 0) hr.o zaD (zaa (pv 1) zaf)))
  (zab (au (zbl (av (zay (zhr (C:=Aa)) rfl T.za2 zaS (zaa (pv 2) (zaa (zbB (v:=.ref Aa) rfl T.Ef rfl) zaf))))) (zag aB) zaw)
  (zag (zah (pv 2))))),?_⟩
 obtain⟨zdx,e1⟩:=hh.p.ps.pc q0 (tz ei)
 refine⟨_,rfl,o,_,dx,_,_,rfl,e,rfl,Bf,_,rfl,o,v,i,q0,rfl,hh,ei,?_⟩
 refine⟨_,rfl,_,_,_,rfl,.old ((S.ow q0.2.1).ty e1),is_w T q0.2.1,?_⟩
 rw[decide_eq_true ew]
 exact⟨_,rfl,iteF ⟨_,rfl,q⟩⟩
def wiP(b:Addr × Wd × Pv)(ps:List (Addr × Wd × Pv)):List (Addr × Wd × Pv):=ps.map λq=>if q.2.2.n=b.2.2.n then b else q
inductive zoX(cs:CsA)(vs:List V)(H:Hp)(Q:VK)(_:XK):Prop
 | mk (l:Addr) (b:Addr × Wd × Pv) (ps:List (Addr × Wd × Pv)) (_:vs=[.ref l,.ref b.1]) (_:IsPs cs H l ps) (_:IsPc cs H b.1 b.2.1 b.2.2) (_:ps.length<=200) (_:∀D H',Same H H'->H D=none->IsPs cs H' D (wiP b ps)->Q (.ref D) H')
def zjv:FnScope pl23 pl23 (zac zdY):=fsc
include T in
theorem zjw(D:Dfn K mg "with_piece" zdY pl23 f fd):Cal P w K mg bf "with_piece" 1 pl23 (zoX (CsA.mk Ae Aa Ab Ac)):=by
 refine D.cal (D.F.ok zjv (by walk_at "z") (λc A o s H vs Q E hr h=>?_))
 obtain⟨l,b,ps,rfl,hP,hb,len,q⟩:=h
 have S:=zcd T
 refine⟨_,(zag (zah (zaZ (N:=["piece","changed"]) (js:=[1]) rfl cpo (zaK (pv 0)) (λ_ _ _ _ _=>zbG) (λ_ _ _ _ _=>(zeg (zas zdk (aD (K:=K) rfl (pv 0) rfl) (aD (K:=K) rfl (pv 1) rfl) (zaB _)) (pv 1) (pv 0)))))),?_⟩
 have ml:(ps.map λq=>V.ref q.1).length=ps.length:=tq _
 refine⟨_,rfl,l,rfl,⟨_,SqL.of hP.at_⟩,?_⟩
 refine aC (xs:=ps.map λq=>V.ref q.1) (λ_=>true) (itm ps λq=>V.ref (if q.2.2.n=b.2.2.n then b else q).1) (SqL.of hP.at_) (λi x Hh Q' hx sh q'=>q' Hh (Same.refl _)) ?_ (zaC (by rw[ml];omega)) (λD H1 s1 nD hD=>?_)
 ·intro i x Hh Q' hx _ sh q'
  obtain⟨z,ez,hx⟩:=gmp hx
  cases hx
  have zz:=q' Hh (Same.refl _)
  unfold itm at zz
  rw[ez]at zz
  have zz:Q' (V.ref (if z.2.2.n=b.2.2.n then b else z).1) Hh:=zz
  obtain⟨zdx,e1⟩:=(hP.pc z (tz ez)).same sh
  obtain⟨bdx,e2⟩:=hb.same sh
  refine⟨_,rfl,z.1,_,zdx,_,_,rfl,e1,(S.ow z.2.1).cl,S.n1 z.2.1,rfl,_,rfl,b.1,_,bdx,_,_,rfl,e2,(S.ow b.2.1).cl,S.n1 b.2.1,rfl,rfl,_,rfl,?_⟩
  by_cases c:z.2.2.n=b.2.2.n
  ·rw[if_pos c]at zz
   exact iteD (by rw[c]) ⟨_,rfl,zz⟩
  ·rw[if_neg c]at zz
   exact zfH (λw=>c (V.int.inj w)) ⟨_,rfl,zz⟩
 rw[zbY,ml,zfK]at hD
 refine q D H1 s1 nD ⟨by rw[hD];unfold wiP;rw[tW];rfl,λz hz=>?_⟩
 obtain⟨y,hy,ey⟩:=mem_map.mp hz
 rw[<-ey]
 split
 ·exact hb.same s1
 ·exact(hP.pc y hy).same s1
def zux{rs:List SR}{ps:List (Addr × Wd × Pv)}{xs:List (Addr × Cl × Int)}(ex:xs.map (·.2)=chV rs ps){q0:Addr × Wd × Pv}(hq:q0∈ps)(op:q0.2.1.opn=true):∃k,k∈xs/\k.2=(clOf q0.2.2 (az rs q0.2.2.nm).low,q0.2.2.left q0.2.1):=by
 have:(clOf q0.2.2 (az rs q0.2.2.nm).low,q0.2.2.left q0.2.1)∈xs.map (·.2):=by
  rw[ex]
  exact mem_map.mpr ⟨q0,mem_filter.mpr ⟨hq,op⟩,rfl⟩
 obtain⟨k,hk,e⟩:=mem_map.mp this
 exact⟨k,hk,e⟩
structure HvOk(v:Hv):Prop where
 p:PsOk v.rs v.ps
 h0:0<v.h
 t0:0<=v.t
 t1:v.t<=1000
inductive zoY(K:am)(cs:CsA)(cS cH tT:Addr)(vs:List V)(H:Hp)(Q:VK)(_:XK):Prop
 | mk (o:Addr) (v:Hv) (i:Nat) (q0:Addr × Wd × Pv) (_:vs=[.ref o,.int i]) (_:IsHs cs cS cH H o v) (_:HvOk v) (_:H tT=some (.tbl zbh lamQ)) (_:v.ps[i]?=some q0) (_:q0.2.1.opn=true) (_:0<q0.2.2.left q0.2.1) (_:∀u d H' L,Same H H'->LatOf H' d v.h.toNat v.t (chV v.rs v.ps) L->valI L i=some u->Q (.int u) H')
def zem:FnScope pl20 pl20 (zac zbD):=fsc
include T in
theorem zen(D:Mfn K "latest_turn" "House.latest_turn" zbD pl20 f fd)(zeY:Cal P w K mg bf "latest_of" 12 pl17 (zoP K tT))(Ak:MOk CX0 P w K mg bf 11 Ad "chores_now" (zmY K (CsA.mk Ae Aa Ab Ac) Af Ad)):FnOk P w K mg bf CX0 13 f fd pl20 (zoY K (CsA.mk Ae Aa Ab Ac) Af Ad tT):=by
 refine D.F.ok zem (by walk_at "z") (λc A o s H vs Q E hr h=>?_)
 obtain⟨o,v,i,q0,rfl,hh,ok,hT,ei,op,l0,q⟩:=h
 obtain⟨dx,e⟩:=hh.at_
 have O:=T.Ai
 refine⟨_,(zag (zah (zaj zeY hr.o rfl (pai (zad (zaI (k:=11) (pv 0) hr.o zaD) (zad (zai (pv 0) rfl) (zad (zai (pv 0) rfl) (zad (pv 1) zaL)))))))),?_⟩
 refine⟨_,rfl,o,_,dx,_,_,rfl,e,rfl,Ak,o,v,rfl,hh,ok.p,λD H1 xs s1 nD hI ex=>?_⟩
 have e1:=s1 _ _ e
 obtain⟨k,hk,ek⟩:=zux ex (tz ei) op
 have en:k.2.1.n=i:=by
  rw[ek]
  exact ok.p.nm i q0 ei
 refine⟨_,rfl,o,_,dx,_,_,rfl,e1,O.cl,T.Ap,rfl,_,rfl,o,_,dx,_,_,rfl,e1,O.cl,T.Al,rfl,_,rfl,D,xs,v.h,v.t,k,by rw[en];rfl,hI,ok.h0,ok.t0,ok.t1,s1 _ _ hT,hk,by rw[ek];exact l0,λu d H2 L s2 hL hu=>?_⟩
 rw[ex]at hL
 rw[en]at hu
 exact q u d H2 L (s1.trans s2) hL hu
inductive zqX(K:am)(cs:CsA)(cS cH:Addr)(vs:List V)(H:Hp)(Q:VK)(_:XK):Prop
 | mk (o:Addr) (v:Hv) (_:vs=[.ref o]) (_:IsHs cs cS cH H o v) (_:PsOk v.rs v.ps) (_:(v.ps.filter λq=>q.2.1.opn).length<40) (_:∀H',Same H H'->Q .non H')
def zeZ:FnScope pl2 pl2 (zac zbR):=fsc
include T in
theorem fJ(D:Mfn K "check_room" "House.check_room" zbR pl2 f fd)(Ak:MOk CX0 P w K mg bf 11 Ad "chores_now" (zmY K (CsA.mk Ae Aa Ab Ac) Af Ad)):FnOk P w K mg bf CX0 12 f fd pl2 (zqX K (CsA.mk Ae Aa Ab Ac) Af Ad):=by
 refine D.F.ok zeZ (by walk_at "z") (λc A o s H vs Q E hr h=>?_)
 obtain⟨o,v,rfl,hh,ok,c,q⟩:=h
 obtain⟨dx,e⟩:=hh.at_
 refine⟨_,(zag (au (zas zsz (zay zaF rfl T.zdf zbL (zaa (zaI (k:=11) (pv 0) hr.o zaD) zaf)) (zbB (v:=.int 40) rfl T.Bi.choose_spec ⟨_,rfl⟩) (zaB _)) (zag aB) zaw)),?_⟩
 refine⟨_,rfl,o,_,dx,_,_,rfl,e,rfl,Ak,o,v,rfl,hh,ok,λD H1 xs s1 nD hI ex=>?_⟩
 have lx:(xs.map λq=>V.ref q.1).length=(v.ps.filter λq=>q.2.1.opn).length:=by
  have:=tS List.length ex
  unfold chV at this
  rw[tq,tq]at this
  rw[tq,this]
 refine⟨D,_,rfl,.inl (SqL.of hI.chs.at_),_,_,rfl,rfl,_,rfl,?_⟩
 rw[lx]
 exact zfH (by omega) (q H1 s1)
def zqf{L:ak}{bs:List (Addr × List V)}(eb:bs.map (·.2)=L.map λp=>[V.int p.1,V.int p.2]):∃cs:List (Addr × Key × V),(cs.map λb=>V.ref b.1)=(bs.map λb=>V.ref b.1)/\cs.map (·.2)=dI L/\∀c,c∈cs->∃b,b∈bs/\b.1=c.1/\b.2=[kV c.2.1,c.2.2]:=by
 refine⟨List.zipWith (λb p=>(b.1,(Sum.inl p.1:Key),V.int p.2)) bs L,?_,?_,λc hc=>?_⟩
 ·have hl:bs.length=L.length:=by
   have:=tS List.length eb
   rw[tq,tq]at this
   exact this
  rw[map_zipWith]
  refine rE (by simp[hl]) λi h1 h2=>?_
  simp
 ·have hl:bs.length=L.length:=by
   have:=tS List.length eb
   rw[tq,tq]at this
   exact this
  unfold dI
  rw[map_zipWith]
  refine rE (by simp[hl]) λi h1 h2=>?_
  simp
 ·obtain⟨i,hi,ei⟩:=tX hc
  have hi2:i<bs.length/\i<L.length:=by
   rw[List.length_zipWith]at hi
   omega
  have e:=tS (λl:List (List V)=>l[i]?) eb
  simp[hi2.1,hi2.2]at e
  have ec:c=(bs[i].1,(Sum.inl L[i].1:Key),V.int L[i].2):=by
   rw[<-ei,List.getElem_zipWith]
  subst ec
  exact⟨bs[i],sJ hi2.1,rfl,e⟩
def TlP(H:Hp)(v:Hv)(tl:Int->Int):Prop:=∀q,q∈v.ps->q.2.1=.waiting->∃(l:Addr)(us:List Int),valV v.nb (.inl q.2.2.n)=some (.ref l)/\H l=some (.lst ((us++[tl q.2.2.n]).map V.int))
def TlP.same{H H':Hp}{v:Hv}{tl:Int->Int}(s:Same H H')(h:TlP H v tl):TlP H' v tl:=λq hq w=>let ⟨l,us,a,b⟩:=h q hq w;⟨l,us,a,s _ _ b⟩
def tlL(tl:Int->Int)(ps:List (Addr × Wd × Pv)):List (Int × Int):=(ofW .waiting ps).map λq=>(q.2.2.n,tl q.2.2.n)
def zsd(xs:List V)(x:V):atI (xs++[x]) (-1)=some x:=by
 have z:ixN (xs.length+1) (-1)=some xs.length:=by
  unfold ixN
  rw[if_neg (by decide),if_pos (by omega)]
  congr 1
  omega
 unfold atI
 rw[tQ,show[x].length=1 from rfl,z]
 simp
def zqg(us:List Int)(u:Int):atI ((us++[u]).map V.int) (-1)=some (.int u):=by
 rw[tV]
 exact zsd _ _
inductive zoZ(K:am)(cs:CsA)(cS cH:Addr)(vs:List V)(H:Hp)(Q:VK)(_:XK):Prop
 | mk (o:Addr) (v:Hv) (tl:Int->Int) (_:vs=[.ref o]) (_:IsHs cs cS cH H o v) (_:PsOk v.rs v.ps) (_:TlP H v tl) (_:∀d H',Same H H'->H d=none->H' d=some (.dK (dI (tlL tl v.ps)))->Q (.ref d) H')
def zgv:FnScope pl2 pl2 (zac zck):=fsc
include T in
theorem zgw(D:Mfn K "told_now" "House.told_now" zck pl2 f fd)(At:MOk CX0 P w K mg bf 1 Ad "pieces_waiting" (zmZ (CsA.mk Ae Aa Ab Ac) Af Ad .waiting)):FnOk P w K mg bf CX0 2 f fd pl2 (zoZ K (CsA.mk Ae Aa Ab Ac) Af Ad):=by
 refine D.F.ok zgv (by walk_at "z") (λc A o s H vs Q E hr h=>?_)
 obtain⟨o,v,tl,rfl,hh,ok,ht,q⟩:=h
 obtain⟨dx,e⟩:=hh.at_
 have O:=T.Ai
 have S:=zcd T
 refine⟨_,(zag (zah (zbK (zmN hr.hd) rfl T.zts zrG (zaa (zaZ (N:=["piece","self"]) (js:=[0]) rfl cpo (zaK (zaI (k:=1) (pv 0) hr.o zaD)) (λ_ _ _ _ _=>zbG) (λ_ _ _ _ _=>(zaM (zaa (aD (K:=K) rfl (pv 0) rfl) (zaa (zaq (r:=rIxL K) zbC (zaN hr.units1 (aD (K:=K) rfl (pv 1) rfl) (aD (K:=K) rfl (pv 0) rfl) (λ_ _=>rfl)) (zsy zqs zae) (λ_ _=>rfl)) zaf))))) zaf)))),?_⟩
 refine⟨_,rfl,o,_,dx,_,_,rfl,e,rfl,At,o,v,rfl,hh,ok.len,λl H1 s1 nl hl=>⟨l,rfl,⟨_,SqL.of hl.at_⟩,?_⟩⟩
 have hh1:=hh.same s1
 have ht1:=ht.same s1
 have lw:=ok.len_w .waiting rfl
 have ml:((ofW .waiting v.ps).map λq=>V.ref q.1).length=(ofW .waiting v.ps).length:=tq _
 refine zfc (xs:=(ofW .waiting v.ps).map λq=>V.ref q.1) (tak (ofW .waiting v.ps) λ_=>true) (itl (ofW .waiting v.ps) λq=>[V.int q.2.2.n,V.int (tl q.2.2.n)]) (SqL.of hl.at_) ?_ ?_ (zaC (by rw[ml];omega)) (λD H2 bs s2 nD hD eb hb=>?_)
 ·intro i x Hh Q' hx sh q'
  rw[getElem?_map]at hx
  cases ez:(ofW .waiting v.ps)[i]? with
  | none=>rw[ez]at hx;cases hx
  | some z=>
    have zz:=q' Hh (Same.refl _)
    unfold tak at zz
    rw[ez]at zz
    exact zz
 ·intro i x Hh Q' hx _ sh q'
  obtain⟨z,ez,hx⟩:=gmp hx
  cases hx
  have hz:=tz ez
  have hz2:=zbV.mp hz
  unfold itl at q'
  rw[ez]at q'
  obtain⟨zdx,e1⟩:=(hl.pc z hz).same sh
  obtain⟨dx2,e2⟩:=(hh1.same sh).at_
  obtain⟨lt,us,g1,g2⟩:=ht1 z hz2.1 hz2.2
  have g:=DGet.k (k:=.inl z.2.2.n) (hh1.same sh).p.nb
  rw[g1]at g
  exact⟨_,rfl,z.1,_,zdx,_,_,rfl,e1,(S.ow z.2.1).cl,S.n1 z.2.1,rfl,_,rfl,o,_,dx2,_,_,rfl,e2,O.cl,T.AA,rfl,_,rfl,z.1,_,zdx,_,_,rfl,e1,(S.ow z.2.1).cl,S.n1 z.2.1,rfl,v.aN,_,rfl,g,_,rfl,lt,_,_,_,rfl,rfl,SqL.of (sh _ _ g2),zqg us _,si2,λp H3 s3 n3 h3=>q' p H3 s3 h3⟩
 rw[ml,zev,zcN]at eb
 obtain⟨cs,c1,c2,c3⟩:=zqf (L:=tlL tl v.ps) (bs:=bs) (by rw[eb];unfold tlL;rw[tW];rfl)
 have nd:((tlL tl v.ps).map (·.1)).Nodup:=by
  unfold tlL
  rw[tW]
  exact ok.nd.sublist (filter_sublist.map _)
 refine⟨D,cs,rfl,by rw[c1];exact hD,λc hc=>?_,λd H3 s3 nd3 hd=>q d H3 (s1.trans (s2.trans s3)) (Same.free (s1.trans s2) nd3) ?_⟩
 ·obtain⟨b,b1,b2,b3⟩:=c3 c hc
  rw[<-b2,hb b b1,b3]
 ·rw[hd,c2,ztk nd]
def NbP(H:Hp)(v:Hv)(n:Int)(km:Nat):Prop:=∀x,valV v.nb (.inl n)=some x->∃(l:Addr)(us:List Int),x=.ref l/\H l=some (.lst (us.map V.int))/\us.length<=km
inductive zqY(K:am)(cs:CsA)(cS cH tT:Addr)(vs:List V)(H:Hp)(Q:VK)(_:XK):Prop
 | mk (o:Addr) (v:Hv) (i:Nat) (q0:Addr × Wd × Pv) (km:Nat) (_:vs=[.ref o,.int i]) (_:IsHs cs cS cH H o v) (_:HvOk v) (_:H tT=some (.tbl zbh lamQ)) (_:v.ps[i]?=some q0) (_:q0.2.1=.waiting) (_:0<q0.2.2.left q0.2.1) (_:NbP H v i km) (_:km<=1000) (_:v.nb.length<=1000) (_:∀u d Hd L l us H',Same H Hd->LatOf Hd d v.h.toNat v.t (chV v.rs v.ps) L->valI L i=some u->But v.aN H H'->H l=none->H' l=some (.lst ((us++[u]).map V.int))->us.length<=km->H' v.aN=some (.dK (putK v.nb (.inl (i:Int)) (.ref l)))->Q (.int u) H')
def zft:FnScope ["self","number","turn"] pl20 (zac bY):=fsc
include T in
theorem zjx(D:Mfn K "tell" "House.tell" bY pl20 f fd)(BO:MOk CX0 P w K mg bf 13 Ad "latest_turn" (zoY K (CsA.mk Ae Aa Ab Ac) Af Ad tT))(Av:MOk CX0 P w K mg bf 3 Ad "waiting_piece" (zju (CsA.mk Ae Aa Ab Ac) Af Ad)):FnOk P w K mg bf CX0 14 f fd pl20 (zqY K (CsA.mk Ae Aa Ab Ac) Af Ad tT):=by
 refine D.F.ok zft (by walk_at "z") (λc A o s H vs Q E hr h=>?_)
 obtain⟨o,v,i,q0,km,rfl,hh,ok,hT,ei,ew,lf,hn,hkm,ln,q⟩:=h
 obtain⟨dx,e⟩:=hh.at_
 have O:=T.Ai
 refine⟨_,(zab (zcS (zbd (k:=3) (pv 0) hr.o zaD (zaa (pv 1) zaf)))
  (zab (zap (i:=2) zft.nd rfl (Or.inl rfl) (zbd (k:=13) (pv 0) hr.o zaD (zaa (pv 1) zaf)))
  (zab (zdT hr.units1 (zai (pv 0) rfl) (pv 1) (zaz bj (zlN hr.units1 (zai (pv 0) rfl) (pv 1) (zaO zaf) ⟨rfl,rfl,rfl,rfl⟩) (zaO (zaa (pv 2) zaf))) rfl)
  (zag (zah (pv 2)))))),?_⟩
 refine⟨_,rfl,o,_,dx,_,_,rfl,e,rfl,Av,_,rfl,o,v,i,q0,rfl,hh,ei,ew,?_⟩
 refine⟨_,rfl,o,_,dx,_,_,rfl,e,rfl,BO,_,rfl,o,v,i,q0,rfl,hh,ok,hT,ei,by rw[ew];rfl,lf,λu d H1 L s1 hL hu=>?_⟩
 have e1:=s1 _ _ e
 have hh1:=hh.same s1
 refine⟨_,rfl,o,_,dx,_,_,rfl,e1,O.cl,T.AA,rfl,v.aN,rfl,.inl ⟨_,.inl hh1.p.nb⟩,_,rfl,si0,λnl H2 s2 n2 h2=>⟨_,DGet.k (k:=.inl (i:Int)) (s2 _ _ hh1.p.nb),?_⟩⟩
 obtain⟨m,us,em,hm,lu⟩:∃(m:Addr)(us:List Int),(valV v.nb (.inl (i:Int))).getD (.ref nl)=.ref m/\H2 m=some (.lst (us.map V.int))/\us.length<=km:=by
  cases ev:valV v.nb (.inl (i:Int)) with
  | none=>exact⟨nl,[],rfl,h2,tU _⟩
  | some x=>
    obtain⟨l,us,rfl,h3,h4⟩:=hn x ev
    exact⟨l,us,rfl,s2 _ _ (s1 _ _ h3),h4⟩
 rw[em]
 have big:(10000:Nat)<=sizeLine:=by decide
 refine⟨_,rfl,si1,λl3 H3 s3 n3 h3=>⟨m,l3,_,_,rfl,rfl,SqL.of (s3 _ _ hm),SqL.of h3,by rw[tq];show us.length+1<=_;omega,λC H4 s4 n4 h4=>?_⟩⟩
 have s14:=s2.trans (s3.trans s4)
 have hh4:=hh1.same s14
 obtain⟨dx4,e4⟩:=hh4.at_
 refine⟨_,rfl,o,_,dx4,_,_,rfl,e4,O.cl,T.AA,rfl,_,rfl,v.aN,_,rfl,DPut.k (k:=.inl (i:Int)) hh4.p.nb (zaC ln),?_⟩
 have CN:C≠v.aN:=λz=>by
  have:=hh4.p.nb
  rw[<-z,h4]at this
  cases this
 refine⟨_,rfl,q u d H1 L C us _ s1 hL hu ((s1.trans s14).toBut.trans (But.upd _ _ _)) (Same.free (s1.trans (s2.trans s3)) n4) ?_ lu zan⟩
 rw[zau CN,h4,tV]
 rfl
def IsHs.put{cs:CsA}{cS cH o:Addr}{H H':Hp}{v:Hv}{kvs:List (Key × V)}(h:IsHs cs cS cH H o v)(k:But v.aN H H')(e:H' v.aN=some (.dK kvs)):IsHs cs cS cH H' o { v with nb:=kvs }:=by
 have hn:=h.p.nb
 have nl:∀ {z xs},H z=some (.lst xs)->z≠v.aN:=λe z=>by rw[z,hn]at e;cases e
 have nt:∀ {z xs},H z=some (.tup xs)->z≠v.aN:=λe z=>by rw[z,hn]at e;cases e
 have ni:∀ {z C dx fs},H z=some (.ins C dx fs)->z≠v.aN:=λe z=>by rw[z,hn]at e;cases e
 obtain⟨dx,e0⟩:=h.at_
 obtain⟨sdx,l,xs,e1,e2,e3⟩:=h.p.st
 obtain⟨rw,r1,r2⟩:=h.p.rw
 refine⟨⟨dx,k _ _ (ni e0) e0⟩,⟨sdx,l,xs,k _ _ (ni e1) e1,⟨k _ _ (nl e2.at_) e2.at_,λq hq=>?_⟩,e3⟩,⟨k _ _ (nl h.p.ps.at_) h.p.ps.at_,λq hq=>?_⟩,e,rw,k _ _ (nl r1) r1,r2⟩
 ·obtain⟨pw,ps,a,b,c⟩:=e2.sr q hq
  exact⟨pw,ps,k _ _ (nt a) a,k _ _ (nt b) b,k _ _ (nt c) c⟩
 ·obtain⟨pdx,ep⟩:=h.p.ps.pc q hq
  exact⟨pdx,k _ _ (ni ep) ep⟩
def But2(a b:Addr)(H H':Hp):Prop:=∀c u,c≠a->c≠b->H c=some u->H' c=some u
def aJ(h:Nat)(b:Int)(c:Ch)(tl:ak):Prop:=∃N,(runN h N b (bhC [] c)).2=[]/\(∀k,k<N->(runN h k b (bhC [] c)).2≠[])/\zel (zbr (runN h N b (bhC [] c)).1 []) tl=[]
structure LateV(cL:Addr)(h:Nat)(b:Int)(c:Ch)(tl:ak)(H:Hp)(g:Addr):Prop where
 ex:∃N M d u,(runN h N b (bhC [] c)).2=[]/\M∈zel (zbr (runN h N b (bhC [] c)).1 []) tl/\(∀y,y∈zel (zbr (runN h N b (bhC [] c)).1 []) tl->M<=y)/\valI tl M=some d/\valI (zbr (runN h N b (bhC [] c)).1 []) M=some u/\IsLt cL H g M d u (runN h N b (bhC [] c)).1
def LateV.same{cL:Addr}{h:Nat}{b:Int}{c:Ch}{tl:ak}{H H':Hp}{g:Addr}(s:Same H H')(l:LateV cL h b c tl H g):LateV cL h b c tl H' g:=let ⟨N,M,d,u,a1,a2,a3,a4,a5,a6⟩:=l.ex;⟨N,M,d,u,a1,a2,a3,a4,a5,a6.same s⟩
abbrev Hv.to(v:Hv)(s':Addr)(rs':List SR)(h':Int)(l':Addr)(ps':List (Addr × Wd × Pv)):Hv := { v with rs:=rs',h:=h',ps:=ps',aS:=s',aP:=l' }
inductive aU(K:am)(cs:CsA)(cS cH cG cL tT:Addr)(vs:List V)(H:Hp)(Q:VK)(_:XK):Prop
 | mk (o:Addr) (v:Hv) (tl:Int->Int) (l' s':Addr) (ps':List (Addr × Wd × Pv)) (rs':List SR) (h':Int) (n:V) (_:vs=[.ref o,.ref l',.ref s',.int h',n]) (_:IsHs cs cS cH H o v) (_:HvOk v) (_:TlP H v tl) (_:IsPs cs H l' ps') (_:IsSt cS H s' rs') (_:PsOk rs' ps') (_:0<h') (_:H tT=some (.tbl zbh lamQ)) (_:(∀g H',aJ h'.toNat v.t (chV rs' ps') (tlL tl v.ps)->But o H H'->IsHs cs cS cH H' o (v.to s' rs' h' l' ps')->H g=none->IsGr cG H' g n->Q (.ref g) H')) (_:∀g H',Same H H'->LateV cL h'.toNat v.t (chV rs' ps') (tlL tl v.ps) H' g->Q (.ref g) H')
def zeq:FnScope ["self","pieces","sorts","hands","number","late"] pl24 (zac zdv):=fsc
include T in
theorem ziq(D:Mfn K "asked" "House.asked" zdv pl24 f fd)(zgx:Cal P w K mg bf "kept_all" 11 pl18 (zqW K tT))(zca:Cal P w K mg bf "chores_of" 10 pl19 (zgo K (CsA.mk Ae Aa Ab Ac) Af))(DC:MakG CX0 P w K mg bf "Granted" Ah 1 (zoQ Ah))(DE:MakG CX0 P w K mg bf "LateOne" Ag 2 (zoR Ag))(AT:MOk CX0 P w K mg bf 2 Ad "told_now" (zoZ K (CsA.mk Ae Aa Ab Ac) Af Ad)):FnOk P w K mg bf CX0 13 f fd pl24 (aU K (CsA.mk Ae Aa Ab Ac) Af Ad Ah Ag tT):=by
 refine D.F.ok zeq (by walk_at "z") (λc A o s H vs Q E hr h=>?_)
 obtain⟨o,v,tl,l',s',ps',rs',h',n,rfl,hh,ok,ht,hP,hS,ok',h0,hT,q,qL⟩:=h
 obtain⟨dx,e⟩:=hh.at_
 have O:=T.Ai
 refine⟨_,(zab (zap (i:=5) zeq.nd rfl (Or.inl rfl) (zaj zgx hr.o rfl (pai (zad (zaj zca hr.o rfl (zaa (pv 1) (zaa (pv 2) zaf))) (zad (pv 3) (zad (zai (pv 0) rfl) (zad (zaI (k:=2) (pv 0) hr.o zaD) zaL)))))))
  (zab (au (zas znr (pv 5) zgF (zaB _)) (zag (zah (zfR DE hr.o rfl zaD (pai (zad (zaq zal (pv 5) zae (λ_ _=>rfl)) (zad (zaq zal (pv 5) zae (λ_ _=>rfl)) (zad (zaq zal (pv 5) zae (λ_ _=>rfl)) (zad (zaq zal (pv 5) zae (λ_ _=>rfl)) zaL)))))))) zaw)
  (zab (zaP (pv 0) (pv 1))
  (zab (zaP (pv 0) (pv 2))
  (zab (zaP (pv 0) (pv 3))
  (zag (zah (zfR DC hr.o rfl zaD (zaa (pv 4) zaf))))))))),?_⟩
 refine⟨_,rfl,_,rfl,l',s',ps',rs',rfl,hP,hS,ok',λD H1 xs s1 nD hI ex=>?_⟩
 have e1:=s1 _ _ e
 have hh1:=hh.same s1
 refine⟨_,rfl,_,rfl,o,_,dx,_,_,rfl,e1,O.cl,T.Al,rfl,_,rfl,o,_,dx,_,_,rfl,e1,rfl,AT,o,v,tl,rfl,hh1,ok.p,ht.same s1,λd H2 s2 nd hd=>?_⟩
 have s02:=s1.trans s2
 refine⟨D,xs,h',v.t,d,tlL tl v.ps,rfl,hI.same s2,h0,ok.t0,ok.t1,s02 _ _ hT,.inl hd,λE1 H3 rs s3 nE R l40 l14=>⟨λem=>?_,λM vv uu p hM hmin ev eu _ hp=>?_⟩⟩
 ·have s03:=s02.trans s3
  have e3:=s03 _ _ e
  refine⟨_,rfl,rfl,_,rfl,iteF ?_⟩
  have p3:HsP (CsA.mk Ae Aa Ab Ac) Af H3 (v.to s' rs' h' l' ps'):=⟨hS.same s03,hP.same s03,s03 _ _ hh.p.nb,let ⟨rw,a,b⟩:=hh.p.rw;⟨rw,s03 _ _ a,b⟩⟩
  refine⟨_,rfl,_,rfl,o,_,dx,_,rfl,e3,O.cl,T.Aj,(by show(6:Nat)<1000;decide),λH4 k4 h4=>?_⟩
  have p4:=p3.but e3 k4
  have e4:H4 o=some (.ins Ad dx (v.to v.aS v.rs v.h l' ps').fs):=h4
  refine⟨_,rfl,_,rfl,o,_,dx,_,rfl,e4,O.cl,T.An,(by show(6:Nat)<1000;decide),λH5 k5 h5=>?_⟩
  have p5:=p4.but e4 k5
  have e5:H5 o=some (.ins Ad dx (v.to s' rs' v.h l' ps').fs):=h5
  refine⟨_,rfl,_,rfl,o,_,dx,_,rfl,e5,O.cl,T.Ap,(by show(6:Nat)<1000;decide),λH6 k6 h6=>?_⟩
  have p6:=p5.but e5 k6
  have e6:H6 o=some (.ins Ad dx (v.to s' rs' h' l' ps').fs):=h6
  obtain⟨N,a1,a2,a3⟩:=R.eq
  have a1:aw rs=_:=a1
  rw[ex]at a1 a2 a3
  rw[a1]at em
  refine⟨_,rfl,n,rfl,λg H7 s7 ng hg=>q g H7 ⟨N,a2,a3,em⟩ (s03.toBut.trans (k4.trans (k5.trans (k6.trans s7.toBut)))) ⟨⟨dx,s7 _ _ e6⟩,p6.same s7⟩ (Same.free s03 (But.free (k4.trans (k5.trans k6)) e6 ng)) hg⟩
 ·refine⟨_,rfl,rfl,_,rfl,iteT ?_⟩
  have ix:∀(j:Nat)(x:V),[V.int M,V.int vv,V.int uu,V.ref E1][j]?=some x->atI [V.int M,V.int vv,V.int uu,V.ref E1] (j:Int)=some x:=λj x h=>zcT h
  refine⟨_,rfl,p,_,_,_,rfl,rfl,SqT.of hp,ix 0 _ rfl,_,rfl,p,_,_,_,rfl,rfl,SqT.of hp,ix 1 _ rfl,_,rfl,p,_,_,_,rfl,rfl,SqT.of hp,ix 2 _ rfl,_,rfl,p,_,_,_,rfl,rfl,SqT.of hp,ix 3 _ rfl,E1,M,vv,uu,rs,rfl,R.run,l14,l40,λg H4 s4 ng hg=>qL g H4 (s02.trans (s3.trans s4)) ?_⟩
  obtain⟨N,a1,a2,_⟩:=R.eq
  have a1:aw rs=_:=a1
  rw[ex]at a1 a2
  rw[a1]at hM hmin eu hg
  exact⟨N,M,vv,uu,a2,hM,hmin,ev,eu,hg⟩
inductive zjy(K:am)(cs:CsA)(cS cH cG cL tT:Addr)(vs:List V)(H:Hp)(Q:VK)(_:XK):Prop
 | mk (o:Addr) (v:Hv) (tl:Int->Int) (b:Addr × Wd × Pv) (_:vs=[.ref o,.ref b.1]) (_:IsHs cs cS cH H o v) (_:HvOk v) (_:TlP H v tl) (_:IsPc cs H b.1 b.2.1 b.2.2) (_:H tT=some (.tbl zbh lamQ)) (_:(v.ps.filter λq=>q.2.1.opn).length<40) (_:PsOk v.rs (v.ps++[b])) (_:(∀g l' H',aJ v.h.toNat v.t (chV v.rs (v.ps++[b])) (tlL tl v.ps)->But o H H'->H l'=none->IsHs cs cS cH H' o (v.to v.aS v.rs v.h l' (v.ps++[b]))->H g=none->IsGr cG H' g (.int b.2.2.n)->Q (.ref g) H')) (_:∀g H',Same H H'->LateV cL v.h.toNat v.t (chV v.rs (v.ps++[b])) (tlL tl v.ps) H' g->Q (.ref g) H')
def fL:FnScope ["self","piece"] ["self","piece"] (zac zbS):=fsc
include T in
theorem fM(D:Mfn K "asked_with" "House.asked_with" zbS ["self","piece"] f fd)(Bb:MOk CX0 P w K mg bf 13 Ad "asked" (aU K (CsA.mk Ae Aa Ab Ac) Af Ad Ah Ag tT))(Cc:MOk CX0 P w K mg bf 12 Ad "check_room" (zqX K (CsA.mk Ae Aa Ab Ac) Af Ad)):FnOk P w K mg bf CX0 14 f fd ["self","piece"] (zjy K (CsA.mk Ae Aa Ab Ac) Af Ad Ah Ag tT):=by
 refine D.F.ok fL (by walk_at "z") (λc A o s H vs Q E hr h=>?_)
 obtain⟨o,v,tl,b,rfl,hh,ok,ht,hb,hT,c,ok',q,qL⟩:=h
 obtain⟨dx,e⟩:=hh.at_
 have O:=T.Ai
 have S:=zcd T
 refine⟨_,(zab (zcS (zaI (k:=12) (pv 0) hr.o zaD))
  (zag (zah (zbd (k:=13) (pv 0) hr.o zaD (pai (zad (zaz bj (zai (pv 0) rfl) (zaO (zaa (pv 1) zaf))) (zad (zai (pv 0) rfl) (zad (zai (pv 0) rfl) (zad (zai (pv 1) rfl) zaL))))))))),?_⟩
 refine⟨_,rfl,o,_,dx,_,_,rfl,e,rfl,Cc,o,v,rfl,hh,ok.p,c,λH1 s1=>?_⟩
 have e1:=s1 _ _ e
 have hh1:=hh.same s1
 have big:(10000:Nat)<=sizeLine:=by decide
 have ll:=ok.p.len
 refine⟨_,rfl,o,_,dx,_,_,rfl,e1,rfl,Bb,_,rfl,o,_,dx,_,_,rfl,e1,O.cl,T.Aj,rfl,_,rfl,si1,λl2 H2 s2 n2 h2=>?_⟩
 have hh2:=hh1.same s2
 refine⟨v.aP,l2,_,_,rfl,rfl,SqL.of hh2.p.ps.at_,SqL.of h2,by rw[tq];show v.ps.length+1<=_;omega,λC H3 s3 n3 h3=>?_⟩
 have s03:=s1.trans (s2.trans s3)
 have hh3:=hh.same s03
 have e3:=s03 _ _ e
 obtain⟨bdx,eb⟩:=hb.same s03
 have hP:IsPs (CsA.mk Ae Aa Ab Ac) H3 C (v.ps++[b]):=by
  refine⟨by rw[h3,tV];rfl,λq hq=>?_⟩
  rcases mem_append.mp hq with hq | hq
  ·exact hh3.p.ps.pc q hq
  ·rw[mem_singleton.mp hq]
   exact⟨bdx,eb⟩
 exact⟨_,rfl,o,_,dx,_,_,rfl,e3,O.cl,T.An,rfl,_,rfl,o,_,dx,_,_,rfl,e3,O.cl,T.Ap,rfl,_,rfl,b.1,_,bdx,_,_,rfl,eb,(S.ow b.2.1).cl,S.n1 b.2.1,rfl,o,v,tl,C,v.aS,v.ps++[b],v.rs,v.h,.int b.2.2.n,rfl,hh3,ok,ht.same s03,hP,hh3.p.st,ok',ok.h0,s03 _ _ hT,λg H4 kp k4 h4 ng hg=>q g C H4 kp (s03.toBut.trans k4) (Same.free (s1.trans s2) n3) h4 (Same.free s03 ng) hg,λg H4 s4 hg=>qL g H4 (s03.trans s4) hg⟩
def pvOf(r:SR)(n:Nat)(c:Int):Pv:=⟨n,r.nm,c,r.sp,r.tr,0⟩
inductive zpa(K:am)(cs:CsA)(cS cH cG cL tT:Addr)(vs:List V)(H:Hp)(Q:VK)(_:XK):Prop
 | mk (o:Addr) (v:Hv) (tl:Int->Int) (r:SR) (km:Nat) (_:vs=[.ref o,.str r.nm]) (_:IsHs cs cS cH H o v) (_:HvOk v) (_:TlP H v tl) (_:H tT=some (.tbl zbh lamQ)) (_:(∀n,NbP H v n km)) (_:km<=1000) (_:v.nb.length<=1000) (_:r∈v.rs) (_:(∀s,s∈v.rs->s.nm=r.nm->s=r)) (_:(v.ps.filter λq=>q.2.1.opn).length<40) (_:(∀a,PsOk v.rs (v.ps++[(a,.waiting,pvOf r v.ps.length v.t)]))) (_:0<(pvOf r v.ps.length v.t).left .waiting) (_:(∀q,q∈v.ps->q.2.1=.held->q.2.2.came≠v.t)) (_:(∀a l' l us u d Hd L g H',aJ v.h.toNat v.t (chV v.rs (v.ps++[(a,.waiting,pvOf r v.ps.length v.t)])) (tlL tl v.ps)->But2 o v.aN H H'->LatOf Hd d v.h.toNat v.t (chV v.rs (v.ps++[(a,.waiting,pvOf r v.ps.length v.t)])) L->valI L (v.ps.length:Int)=some u->H' l=some (.lst ((us++[u]).map V.int))->us.length<=km->IsHs cs cS cH H' o ({ v.to v.aS v.rs v.h l' (v.ps++[(a,.waiting,pvOf r v.ps.length v.t)])with nb:=putK v.nb (.inl (v.ps.length:Int)) (.ref l) })->H g=none->IsGr cG H' g (.int v.ps.length)->Q (.ref g) H')) (_:∀a g H',Same H H'->LateV cL v.h.toNat v.t (chV v.rs (v.ps++[(a,.waiting,pvOf r v.ps.length v.t)])) (tlL tl v.ps) H' g->Q (.ref g) H')
def zbW:FnScope ["self","sort","known","places","piece","verdict"] ["self","sort"] (zac bV):=fsc
include T in
theorem zjz(D:Mfn K "come" "House.come" bV ["self","sort"] f fd)(Ax:Mak P w K mg bf "Waiting" Aa 1 pl0 (.int 0))(AG:MOk CX0 P w K mg bf 14 Ad "asked_with" (zjy K (CsA.mk Ae Aa Ab Ac) Af Ad Ah Ag tT))(Ay:MOk CX0 P w K mg bf 1 Ah "granted" (zfo Ah)/\MOk CX0 P w K mg bf 1 Ag "granted" (zml Ag))(Cp:MOk CX0 P w K mg bf 1 Ad "places" (zmZ (CsA.mk Ae Aa Ab Ac) Af Ad .held))(As:MOk CX0 P w K mg bf 7 Af "sort_of" (zej Am Af))(Ew:MOk CX0 P w K mg bf 14 Ad "tell" (zqY K (CsA.mk Ae Aa Ab Ac) Af Ad tT)):FnOk P w K mg bf CX0 16 f fd ["self","sort"] (zpa K (CsA.mk Ae Aa Ab Ac) Af Ad Ah Ag tT):=by
 refine D.F.ok zbW (by walk_at "z") (λc A o s H vs Q E hr h=>?_)
 obtain⟨o,v,tl,r,km,rfl,hh,ok,ht,hT,hn,hkm,ln,hr',un,op,okn,lf,hpl,q,qL⟩:=h
 obtain⟨dx,e⟩:=hh.at_
 have O:=T.Ai
 have S:=zcd T
 have hst:=hh.p.st
 obtain⟨sdx,sl,sxs,es,_,_⟩:=id hst
 refine⟨_,(zab (zap (i:=2) zbW.nd rfl (Or.inl rfl) (zbd (k:=7) (zai (pv 0) rfl) hr.o zaD (zaa (pv 1) zaf)))
  (zab (zeu (i:=3) (N:=["place","self","sort"]) (js:=[0,1]) zbW.nd rfl rfl rfl cpo (zaK (zaI (k:=1) (pv 0) hr.o zaD)) (λ_ _ _ _ _=>(zdb (zas (zmQ (K:=K) rfl hr.units0) (zaM (zaa (aD (K:=K) rfl (pv 0) rfl) (zaa (aD (K:=K) rfl (pv 0) rfl) zaf))) (zaM (zaa (pv 2) (zaa (aD (K:=K) rfl (pv 1) rfl) zaf))) (zaB _)))) (λ_ _ _ _ _=>(pv 0)))
  (zab (au (zas zes (zay zaF rfl T.zdf zbL (zaa (pv 3) zaf)) zae (zaB _)) (zag aB) zaw)
  (zab (zap (i:=4) zbW.nd rfl (Or.inl rfl) (zjc Ax hr.o rfl (pai (zad (zay zaF rfl T.zdf zbL (zaa (zai (pv 0) rfl) zaf)) (zad (zai (pv 2) rfl) (zad (zai (pv 0) rfl) (zad (zai (pv 2) rfl) (zad (zai (pv 2) rfl) zaL))))))))
  (zab (zap (i:=5) zbW.nd rfl (Or.inl rfl) (zbd (k:=14) (pv 0) hr.o zaD (zaa (pv 4) zaf)))
  (zab (au (av (zaI (k:=1) (pv 5) hr.o zaD)) (zag (zcS (zbd (k:=14) (pv 0) hr.o zaD (zaa (zai (pv 4) rfl) zaf)))) zaw)
  (zag (zah (pv 5))))))))),?_⟩
 refine⟨_,rfl,o,_,dx,_,_,rfl,e,O.cl,T.An,rfl,v.aS,_,sdx,_,_,rfl,es,rfl,As,_,rfl,v.aS,v.rs,r,rfl,hst,ok.p.rl,ok.p.ro,hr',un,λb H1 s1 hb=>?_⟩
 have e1:=s1 _ _ e
 have hh1:=hh.same s1
 refine⟨_,rfl,o,_,dx,_,_,rfl,e1,rfl,Cp,o,v,rfl,hh1,ok.p.len,λl H2 s2 nl hl=>⟨l,rfl,⟨_,SqL.of hl.at_⟩,?_⟩⟩
 have s02:=s1.trans s2
 have hh2:=hh1.same s2
 have lw:=ok.p.len_w .held rfl
 have ml:((ofW .held v.ps).map λq=>V.ref q.1).length=(ofW .held v.ps).length:=tq _
 refine aC (xs:=(ofW .held v.ps).map λq=>V.ref q.1) (tak (ofW .held v.ps) λq=>decide (q.2.2.nm=r.nm)&&decide (q.2.2.came=v.t)) (itm (ofW .held v.ps) λq=>V.ref q.1) (SqL.of hl.at_) ?_ ?_ (zaC (by rw[ml];omega)) (λD H3 s3 nD hD=>?_)
 ·intro i x Hh Q' hx sh q'
  obtain⟨z,ez,hx⟩:=gmp hx
  cases hx
  unfold tak at q'
  rw[ez]at q'
  obtain⟨zdx,z1⟩:=(hl.pc z (tz ez)).same sh
  obtain⟨dx2,e2⟩:=(hh2.same sh).at_
  refine⟨_,rfl,z.1,_,zdx,_,_,rfl,z1,(S.ow z.2.1).cl,S.n2 z.2.1,rfl,_,rfl,z.1,_,zdx,_,_,rfl,z1,(S.ow z.2.1).cl,S.n3 z.2.1,rfl,si2,λp H4 s4 n4 h4=>?_⟩
  refine⟨_,rfl,_,rfl,o,_,dx2,_,_,rfl,s4 _ _ e2,O.cl,T.Al,rfl,si2,λp' H5 s5 n5 h5=>?_⟩
  refine⟨p,p',_,_,rfl,rfl,SqT.of (s5 _ _ h4),SqT.of h5,rfl,rfl,?_⟩
  have ev:eqVs [V.str z.2.2.nm,V.int z.2.2.came] [V.str r.nm,V.int v.t]=(decide (z.2.2.nm=r.nm)&&decide (z.2.2.came=v.t)):=by
   show((z.2.2.nm==r.nm)&&((z.2.2.came==v.t)&&true))=_
   rw[Bool.and_true]
   rfl
  rw[ev]
  exact⟨_,rfl,q' H5 (s4.trans s5)⟩
 ·intro i x Hh Q' hx _ sh q'
  obtain⟨z,ez,hx⟩:=gmp hx
  cases hx
  have zz:=q' Hh (Same.refl _)
  unfold itm at zz
  rw[ez]at zz
  exact⟨_,rfl,zz⟩
 rw[ml,zbZ]at hD
 rw[List.filter_eq_nil_iff.mpr (λq hq=>by
  obtain⟨h1,h2⟩:=zbV.mp hq
  rw[tL (hpl q h1 h2),Bool.and_false]
  exact tE),map_nil]at hD
 have s03:=s02.trans s3
 have hh3:=hh.same s03
 have e3:=s03 _ _ e
 refine⟨_,rfl,D,_,rfl,.inl (SqL.of hD),_,_,rfl,rfl,_,rfl,zfH (by decide) ?_⟩
 obtain⟨bdx,pw,pz,b1,b2,b3⟩:=hb.same (s2.trans s3)
 have SO:=T.Dm
 refine⟨_,rfl,o,_,dx,_,_,rfl,e3,O.cl,T.Aj,rfl,v.aP,_,rfl,.inl (SqL.of hh3.p.ps.at_),_,rfl,b,_,bdx,_,_,rfl,b1,SO.cl,T.AS,rfl,_,rfl,o,_,dx,_,_,rfl,e3,O.cl,T.Al,rfl,_,rfl,b,_,bdx,_,_,rfl,b1,SO.cl,T.Bl,rfl,_,rfl,b,_,bdx,_,_,rfl,b1,SO.cl,T.A8,rfl,rfl,λa adx H4 s4 n4 h4=>?_⟩
 have s04:=s03.trans s4
 have hh4:=hh.same s04
 have e4:=s04 _ _ e
 have ml2:(v.ps.map λq=>V.ref q.1).length=v.ps.length:=tq _
 have ha:IsPc (CsA.mk Ae Aa Ab Ac) H4 a .waiting (pvOf r v.ps.length v.t):=⟨adx,by rw[h4,ml2];rfl⟩
 refine⟨_,rfl,o,_,dx,_,_,rfl,e4,rfl,AG,_,rfl,o,v,tl,(a,.waiting,pvOf r v.ps.length v.t),rfl,hh4,ok,ht.same s04,ha,s04 _ _ hT,op,okn a,λg l' H5 kp k5 nl5 hH5 ng hg=>?_,λg H5 s5 hl=>?_⟩
 rotate_left
 ·obtain⟨_,M,dd,uu,_,_,_,_,_,hg⟩:=hl.ex
  obtain⟨gdx,_,_,g1,_⟩:=id hg.ex
  exact⟨_,rfl,g,_,gdx,_,_,rfl,g1,rfl,Ay.2,g,_,_,_,_,rfl,hg,_,rfl,iteF ⟨_,rfl,qL a g H5 (s04.trans s5) hl⟩⟩
 obtain⟨gdx,g1⟩:=id hg
 have ao:a≠o:=λz=>by
  rw[z,e3]at n4
  cases n4
 obtain⟨adx4,a4⟩:=id ha
 have a5:=k5 _ _ ao a4
 obtain⟨dx5,e5⟩:=hH5.at_
 have ne:∀{z:Addr}{u:HO},H z=some u->(∀C dx fs,u≠.ins C dx fs)->z≠o:=λhz hu w=>by
  rw[w,e]at hz
  cases hz
  exact hu _ _ _ rfl
 have hT5:=k5 _ _ (ne hT λ_ _ _ w=>by cases w) (s04 _ _ hT)
 have ei5:(v.ps++[(a,Wd.waiting,pvOf r v.ps.length v.t)])[v.ps.length]?=some (a,Wd.waiting,pvOf r v.ps.length v.t):=by
  rw[t7 (tD _),Nat.sub_self]
  rfl
 refine⟨_,rfl,g,_,gdx,_,_,rfl,g1,rfl,Ay.1,g,_,rfl,hg,_,rfl,iteT ?_⟩
 refine⟨_,rfl,o,_,dx5,_,_,rfl,e5,rfl,Ew,_,rfl,a,_,adx4,_,_,rfl,a5,(S.ow .waiting).cl,S.n1 .waiting,rfl,o,_,v.ps.length,_,km,rfl,hH5,⟨okn a,ok.h0,ok.t0,ok.t1⟩,hT5,ei5,rfl,lf,?_,hkm,ln,?_⟩
 ·intro x hx
  obtain⟨l,us,b1,b2,b3⟩:=hn _ x hx
  exact⟨l,us,b1,k5 _ _ (ne b2 λ_ _ _ w=>by cases w) (s04 _ _ b2),b3⟩
 ·intro u d Hd L l us H6 sd hL hu k6 nl hl lk h6
  have g6:=k6 _ _ (λw=>by have:=hH5.p.nb;rw[<-w,g1]at this;cases this) g1
  exact⟨_,rfl,q a l' l us u d Hd L g H6 kp (λc u c1 c2 hc=>k6 _ _ c2 (k5 _ _ c1 (s04 _ _ hc))) hL hu hl lk (hH5.put k6 h6) (Same.free s04 ng) ⟨gdx,g6⟩⟩
def AskQ(cs:CsA)(cS cH cG cL:Addr)(H:Hp)(o:Addr)(v:Hv)(tl:Int->Int)(s':Hp->Addr->Prop)(rs':List SR)(h':Int)(ps':Addr->List (Addr × Wd × Pv))(n:V)(Q:VK):Prop:=
 (∀a s l' g H',s' H' s->aJ h'.toNat v.t (chV rs' (ps' a)) (tlL tl v.ps)->But o H H'->IsHs cs cS cH H' o (v.to s rs' h' l' (ps' a))->H g=none->IsGr cG H' g n->Q (.ref g) H')/\∀a g H',Same H H'->LateV cL h'.toNat v.t (chV rs' (ps' a)) (tlL tl v.ps) H' g->Q (.ref g) H'
inductive zqZ(K:am)(cs:CsA)(cS cH cG cL tT:Addr)(vs:List V)(H:Hp)(Q:VK)(_:XK):Prop
 | mk (o:Addr) (v:Hv) (tl:Int->Int) (r:SR) (c:Int) (_:vs=[.ref o,.str r.nm,.int c]) (_:IsHs cs cS cH H o v) (_:HvOk v) (_:TlP H v tl) (_:H tT=some (.tbl zbh lamQ)) (_:r∈v.rs) (_:(∀s,s∈v.rs->s.nm=r.nm->s=r)) (_:v.t<=c) (_:c<=v.t+400) (_:(v.ps.filter λq=>q.2.1.opn).length<40) (_:(∀a,PsOk v.rs (v.ps++[(a,.held,pvOf r v.ps.length c)]))) (_:AskQ cs cS cH cG cL H o v tl (λ_ s=>s=v.aS) v.rs v.h (λa=>v.ps++[(a,.held,pvOf r v.ps.length c)]) (.int v.ps.length) Q)
def zfu:FnScope ["self","sort","turn","known"] ["self","sort","turn"] (zac bW):=fsc
include T in
theorem zjA(D:Mfn K "hold" "House.hold" bW ["self","sort","turn"] f fd)(zao:Cal P w K mg bf "is_whole" 1 pl4 (zbo K))(Ex:Mak P w K mg bf "Held" Ae 1 pl0 (.int 0))(AG:MOk CX0 P w K mg bf 14 Ad "asked_with" (zjy K (CsA.mk Ae Aa Ab Ac) Af Ad Ah Ag tT))(As:MOk CX0 P w K mg bf 7 Af "sort_of" (zej Am Af)):FnOk P w K mg bf CX0 15 f fd ["self","sort","turn"] (zqZ K (CsA.mk Ae Aa Ab Ac) Af Ad Ah Ag tT):=by
 refine D.F.ok zfu (by walk_at "z") (λc A o s H vs Q E hr h=>?_)
 obtain⟨o,v,tl,r,c,rfl,hh,ok,ht,hT,hr',un,c0,c1,op,okn,q,qL⟩:=h
 obtain⟨dx,e⟩:=hh.at_
 have O:=T.Ai
 have hst:=hh.p.st
 obtain⟨sdx,sl,sxs,es,_,_⟩:=id hst
 refine⟨_,(zab (zap (i:=3) zfu.nd rfl (Or.inl rfl) (zbd (k:=7) (zai (pv 0) rfl) hr.o zaD (zaa (pv 1) zaf)))
  (zab (au (zbl (av (zaj zao hr.o rfl (zaa (pv 2) (zaa (zai (pv 0) rfl) (zaa (zaz ay (zai (pv 0) rfl) (zbB (v:=.int 400) rfl T.Ao.choose_spec ⟨_,rfl⟩)) zaf)))))) (zag aB) zaw)
  (zag (zah (zbd (k:=14) (pv 0) hr.o zaD (zaa (zjc Ex hr.o rfl (pai (zad (zay zaF rfl T.zdf zbL (zaa (zai (pv 0) rfl) zaf)) (zad (zai (pv 3) rfl) (zad (pv 2) (zad (zai (pv 3) rfl) (zad (zai (pv 3) rfl) zaL))))))) zaf)))))),?_⟩
 refine⟨_,rfl,o,_,dx,_,_,rfl,e,O.cl,T.An,rfl,v.aS,_,sdx,_,_,rfl,es,rfl,As,_,rfl,v.aS,v.rs,r,rfl,hst,ok.p.rl,ok.p.ro,hr',un,λb H1 s1 hb=>?_⟩
 obtain⟨bdx,pw,pz,b1,b2,b3⟩:=hb
 have e1:=s1 _ _ e
 have hh1:=hh.same s1
 have SO:=T.Dm
 refine⟨_,rfl,_,rfl,o,_,dx,_,_,rfl,e1,O.cl,T.Al,rfl,_,rfl,o,_,dx,_,_,rfl,e1,O.cl,T.Al,rfl,_,_,rfl,rfl,?_⟩
 refine⟨.int c,v.t,v.t+400,_,rfl,.inl ⟨c,rfl,rfl⟩,?_⟩
 rw[decide_eq_true c0,decide_eq_true c1]
 refine⟨_,rfl,iteF ?_⟩
 refine⟨_,rfl,o,_,dx,_,_,rfl,e1,rfl,AG,_,rfl,o,_,dx,_,_,rfl,e1,O.cl,T.Aj,rfl,v.aP,_,rfl,.inl (SqL.of hh1.p.ps.at_),_,rfl,b,_,bdx,_,_,rfl,b1,SO.cl,T.AS,rfl,_,rfl,_,rfl,b,_,bdx,_,_,rfl,b1,SO.cl,T.Bl,rfl,_,rfl,b,_,bdx,_,_,rfl,b1,SO.cl,T.A8,rfl,rfl,λa adx H2 s2 n2 h2=>?_⟩
 have s02:=s1.trans s2
 have ml:(v.ps.map λq=>V.ref q.1).length=v.ps.length:=tq _
 have ha:IsPc (CsA.mk Ae Aa Ab Ac) H2 a .held (pvOf r v.ps.length c):=⟨adx,by rw[h2,ml];rfl⟩
 exact⟨o,v,tl,(a,.held,pvOf r v.ps.length c),rfl,hh.same s02,ok,ht.same s02,ha,s02 _ _ hT,op,okn a,λg l' H' kp k' nl hH ng hg=>q a v.aS l' g H' rfl kp (s02.toBut.trans k') hH (Same.free s02 ng) hg,λg H' s' hl=>qL a g H' (s02.trans s') hl⟩
inductive zmo(K:am)(cs:CsA)(cS cH cG cL tT:Addr)(vs:List V)(H:Hp)(Q:VK)(_:XK):Prop
 | mk (o:Addr) (v:Hv) (tl:Int->Int) (r:SR) (i:Nat) (q0:Addr × Wd × Pv) (_:vs=[.ref o,.int i,.str r.nm]) (_:IsHs cs cS cH H o v) (_:HvOk v) (_:TlP H v tl) (_:H tT=some (.tbl zbh lamQ)) (_:r∈v.rs) (_:(∀s,s∈v.rs->s.nm=r.nm->s=r)) (_:v.ps[i]?=some q0) (_:q0.2.1=.waiting) (_:(∀a,PsOk v.rs (wiP (a,.waiting,{ q0.2.2 with nm:=r.nm }) v.ps))) (_:AskQ cs cS cH cG cL H o v tl (λ_ s=>s=v.aS) v.rs v.h (λa=>wiP (a,.waiting,{ q0.2.2 with nm:=r.nm }) v.ps) .non Q)
def zcG:FnScope ["self","number","sort","piece","changed"] ["self","number","sort"] (zac bX):=fsc
include T in
theorem fN(D:Mfn K "change" "House.change" bX ["self","number","sort"] f fd)(zeb:Cal P w K mg bf "with_piece" 1 pl23 (zoX (CsA.mk Ae Aa Ab Ac)))(Bb:MOk CX0 P w K mg bf 13 Ad "asked" (aU K (CsA.mk Ae Aa Ab Ac) Af Ad Ah Ag tT))(C9:MOk CX0 P w K mg bf 3 Aa "resorted" (zma (CsA.mk Ae Aa Ab Ac)))(As:MOk CX0 P w K mg bf 7 Af "sort_of" (zej Am Af))(Av:MOk CX0 P w K mg bf 3 Ad "waiting_piece" (zju (CsA.mk Ae Aa Ab Ac) Af Ad)):FnOk P w K mg bf CX0 14 f fd ["self","number","sort"] (zmo K (CsA.mk Ae Aa Ab Ac) Af Ad Ah Ag tT):=by
 refine D.F.ok zcG (by walk_at "z") (λc A o s H vs Q E hr h=>?_)
 obtain⟨o,v,tl,r,i,q0,rfl,hh,ok,ht,hT,hr',un,ei,ew,okn,q,qL⟩:=h
 obtain⟨dx,e⟩:=hh.at_
 have O:=T.Ai
 have hst:=hh.p.st
 obtain⟨sdx,sl,sxs,es,_,_⟩:=id hst
 obtain⟨dx0,e0⟩:=hh.p.ps.pc q0 (tz ei)
 rw[ew]at e0
 refine⟨_,(zab (zap (i:=3) zcG.nd rfl (Or.inl rfl) (zbd (k:=3) (pv 0) hr.o zaD (zaa (pv 1) zaf)))
  (zab (zap (i:=4) zcG.nd rfl (Or.inl rfl) (zbd (k:=3) (pv 3) hr.o zaD (zaa (zai (zbd (k:=7) (zai (pv 0) rfl) hr.o zaD (zaa (pv 2) zaf)) rfl) zaf)))
  (zag (zah (zbd (k:=13) (pv 0) hr.o zaD (pai (zad (zaj zeb hr.o rfl (zaa (zai (pv 0) rfl) (zaa (pv 4) zaf))) (zad (zai (pv 0) rfl) (zad (zai (pv 0) rfl) (zad zgF zaL)))))))))),?_⟩
 refine⟨_,rfl,o,_,dx,_,_,rfl,e,rfl,Av,_,rfl,o,v,i,q0,rfl,hh,ei,ew,?_⟩
 refine⟨_,rfl,q0.1,_,dx0,_,_,rfl,e0,rfl,C9,_,rfl,o,_,dx,_,_,rfl,e,O.cl,T.An,rfl,v.aS,_,sdx,_,_,rfl,es,rfl,As,_,rfl,v.aS,v.rs,r,rfl,hst,ok.p.rl,ok.p.ro,hr',un,λb H1 s1 hb=>?_⟩
 obtain⟨bdx,pw,pz,b1,b2,b3⟩:=hb
 have SO:=T.Dm
 refine⟨b,_,bdx,_,_,rfl,b1,SO.cl,T.AS,rfl,q0.1,q0.2.2,r.nm,rfl,⟨dx0,s1 _ _ e0⟩,λa H2 s2 ha=>?_⟩
 have s02:=s1.trans s2
 have e2:=s02 _ _ e
 have hh2:=hh.same s02
 refine⟨_,rfl,o,_,dx,_,_,rfl,e2,rfl,Bb,_,rfl,o,_,dx,_,_,rfl,e2,O.cl,T.Aj,rfl,_,rfl,v.aP,(a,.waiting,{ q0.2.2 with nm:=r.nm }),v.ps,rfl,hh2.p.ps,ha,ok.p.len,λD H3 s3 nD hD=>?_⟩
 have s03:=s02.trans s3
 have e3:=s03 _ _ e
 have hh3:=hh.same s03
 exact⟨_,rfl,o,_,dx,_,_,rfl,e3,O.cl,T.An,rfl,_,rfl,o,_,dx,_,_,rfl,e3,O.cl,T.Ap,rfl,o,v,tl,D,v.aS,_,v.rs,v.h,.non,rfl,hh3,ok,ht.same s03,hD,hh3.p.st,okn a,ok.h0,s03 _ _ hT,λg H' kp k' hH ng hg=>q a v.aS D g H' rfl kp (s03.toBut.trans k') hH (Same.free s03 ng) hg,λg H' s' hl=>qL a g H' (s03.trans s') hl⟩
inductive zkA(K:am)(cs:CsA)(cS cH cG cL tT:Addr)(vs:List V)(H:Hp)(Q:VK)(_:XK):Prop
 | mk (o:Addr) (v:Hv) (tl:Int->Int) (i:Nat) (r:SR) (p:Addr) (c d:Int) (_:vs=[.ref o,.str r.nm,.ref p]) (_:IsHs cs cS cH H o v) (_:HvOk v) (_:TlP H v tl) (_:H tT=some (.tbl zbh lamQ)) (_:RsOk v.rs) (_:(∀r,r∈v.rs->r.low=r)) (_:v.rs[i]?=some r) (_:H p=some (.tup [.int c,.int d])) (_:0<=c) (_:c<=1000000) (_:1<=d) (_:d<=12) (_:PsOk ((v.rs.set i { r with c:=c,d:=d }).map SR.low) v.ps) (_:AskQ cs cS cH cG cL H o v tl (λ_ _=>True) ((v.rs.set i { r with c:=c,d:=d }).map SR.low) v.h (λ_=>v.ps) .non Q)
def zec:FnScope pl25 pl25 (zac zbv):=fsc
include T in
theorem zed(D:Mfn K "change_speed" "House.change_speed" zbv pl25 f fd)(Bb:MOk CX0 P w K mg bf 13 Ad "asked" (aU K (CsA.mk Ae Aa Ab Ac) Af Ad Ah Ag tT))(Cd:MOk CX0 P w K mg bf 9 Af "with_speed" (zoI Af)):FnOk P w K mg bf CX0 14 f fd pl25 (zkA K (CsA.mk Ae Aa Ab Ac) Af Ad Ah Ag tT):=by
 refine D.F.ok zec (by walk_at "z") (λc A o s H vs Q E hr h=>?_)
 obtain⟨o,v,tl,i,r,p,c,d,rfl,hh,ok,ht,hT,ro,lw,hi,hp,c0,c1,d0,d1,okn,q,qL⟩:=h
 obtain⟨dx,e⟩:=hh.at_
 have O:=T.Ai
 have hst:=hh.p.st
 obtain⟨sdx,sl,sxs,es,_,_⟩:=id hst
 refine⟨_,(zag (zah (zbd (k:=13) (pv 0) hr.o zaD (pai (zad (zai (pv 0) rfl) (zad (zbd (k:=9) (zai (pv 0) rfl) hr.o zaD (zaa (pv 1) (zaa (pv 2) zaf))) (zad (zai (pv 0) rfl) (zad zgF zaL)))))))),?_⟩
 refine⟨_,rfl,o,_,dx,_,_,rfl,e,rfl,Bb,_,rfl,o,_,dx,_,_,rfl,e,O.cl,T.Aj,rfl,_,rfl,o,_,dx,_,_,rfl,e,O.cl,T.An,rfl,v.aS,_,sdx,_,_,rfl,es,rfl,Cd,_,rfl,_,rfl,v.aS,p,v.rs,i,r,c,d,rfl,hst,ro,lw,hi,hp,c0,c1,d0,d1,λb H1 s1 hb=>?_⟩
 have e1:=s1 _ _ e
 have hh1:=hh.same s1
 exact⟨_,rfl,o,_,dx,_,_,rfl,e1,O.cl,T.Ap,rfl,o,v,tl,v.aP,b,v.ps,_,v.h,.non,rfl,hh1,ok,ht.same s1,hh1.p.ps,hb,okn,ok.h0,s1 _ _ hT,λg H' kp k' hH ng hg=>q 0 b v.aP g H' trivial kp (s1.toBut.trans k') hH (Same.free s1 ng) hg,λg H' s' hl=>qL 0 g H' (s1.trans s') hl⟩
inductive zpb(K:am)(cs:CsA)(cS cH cG cL tT:Addr)(vs:List V)(H:Hp)(Q:VK)(_:XK):Prop
 | mk (o:Addr) (v:Hv) (tl:Int->Int) (h':Int) (_:vs=[.ref o,.int h']) (_:IsHs cs cS cH H o v) (_:HvOk v) (_:TlP H v tl) (_:H tT=some (.tbl zbh lamQ)) (_:1<=h') (_:h'<=v.h) (_:AskQ cs cS cH cG cL H o v tl (λ_ s=>s=v.aS) v.rs h' (λ_=>v.ps) .non Q)
def zir:FnScope ["self","hands"] ["self","hands"] (zac zdw):=fsc
include T in
theorem zis(D:Mfn K "fewer" "House.fewer" zdw ["self","hands"] f fd)(zao:Cal P w K mg bf "is_whole" 1 pl4 (zbo K))(Bb:MOk CX0 P w K mg bf 13 Ad "asked" (aU K (CsA.mk Ae Aa Ab Ac) Af Ad Ah Ag tT)):FnOk P w K mg bf CX0 14 f fd ["self","hands"] (zpb K (CsA.mk Ae Aa Ab Ac) Af Ad Ah Ag tT):=by
 refine D.F.ok zir (by walk_at "z") (λc A o s H vs Q E hr h=>?_)
 obtain⟨o,v,tl,h',rfl,hh,ok,ht,hT,h0,h1,q,qL⟩:=h
 obtain⟨dx,e⟩:=hh.at_
 have O:=T.Ai
 refine⟨_,(zab (au (zbl (av (zaj zao hr.o rfl (zaa (pv 1) (zaa zae (zaa (zai (pv 0) rfl) zaf)))))) (zag aB) zaw)
  (zag (zah (zbd (k:=13) (pv 0) hr.o zaD (pai (zad (zai (pv 0) rfl) (zad (zai (pv 0) rfl) (zad (pv 1) (zad zgF zaL))))))))),?_⟩
 refine⟨_,rfl,_,rfl,o,_,dx,_,_,rfl,e,O.cl,T.Ap,rfl,.int h',1,v.h,_,rfl,.inl ⟨h',rfl,rfl⟩,?_⟩
 rw[decide_eq_true h0,decide_eq_true h1]
 refine⟨_,rfl,iteF ?_⟩
 exact⟨_,rfl,o,_,dx,_,_,rfl,e,rfl,Bb,_,rfl,o,_,dx,_,_,rfl,e,O.cl,T.Aj,rfl,_,rfl,o,_,dx,_,_,rfl,e,O.cl,T.An,rfl,_,rfl,o,v,tl,v.aP,v.aS,v.ps,v.rs,h',.non,rfl,hh,ok,ht,hh.p.ps,hh.p.st,ok.p,by omega,hT,λg H' kp k' hH ng hg=>q 0 v.aS v.aP g H' rfl kp k' hH ng hg,λg H' s' hl=>qL 0 g H' s' hl⟩
inductive zpc(K:am)(cs:CsA)(cS cH tT:Addr)(vs:List V)(H:Hp)(Q:VK)(_:XK):Prop
 | mk (o:Addr) (v:Hv) (_:vs=[.ref o]) (_:IsHs cs cS cH H o v) (_:HvOk v) (_:H tT=some (.tbl zbh lamQ)) (_:∀D H' rs,Same H H'->H D=none->RunOf H H' v.h.toNat v.t (chV v.rs v.ps) D rs->(∀r,r∈rs->r.2.2.2.length<=40)->rs.length<=1481->Q (.ref D) H')
def RunOf.pre{H0 H1 H:Hp}{h:Nat}{b:Int}{c:Ch}{D:Addr}{rs:List (Addr × Addr × Int × List Int)}(s:Same H0 H1)(R:RunOf H1 H h b c D rs):RunOf H0 H h b c D rs:=⟨R.run,λr hr=>Same.free s (R.new r hr),R.ne,R.eq⟩
def zfv:FnScope pl2 pl2 (zac b7):=fsc
include T in
theorem zfw(D:Mfn K "worst_run" "House.worst_run" b7 pl2 f fd)(zcp:CalD P w K mg bf "run_of" 10 pl14 (zqd K tT))(Ak:MOk CX0 P w K mg bf 11 Ad "chores_now" (zmY K (CsA.mk Ae Aa Ab Ac) Af Ad)):FnOk P w K mg bf CX0 12 f fd pl2 (zpc K (CsA.mk Ae Aa Ab Ac) Af Ad tT):=by
 refine D.F.ok zfv (by walk_at "z") (λc A o s H vs Q E hr h=>?_)
 obtain⟨o,v,rfl,hh,ok,hT,q⟩:=h
 obtain⟨dx,e⟩:=hh.at_
 have O:=T.Ai
 refine⟨_,(zag (zah (bF zcp hr.o rfl (zaa (zaI (k:=11) (pv 0) hr.o zaD) (zaa (zai (pv 0) rfl) (zaa (zai (pv 0) rfl) zaf)))))),?_⟩
 refine⟨_,rfl,o,_,dx,_,_,rfl,e,rfl,Ak,o,v,rfl,hh,ok.p,λD H1 xs s1 nD hI ex=>?_⟩
 have e1:=s1 _ _ e
 exact⟨_,rfl,o,_,dx,_,_,rfl,e1,O.cl,T.Ap,rfl,_,rfl,o,_,dx,_,_,rfl,e1,O.cl,T.Al,rfl,D,xs,v.h,v.t,rfl,hI,ok.h0,ok.t0,ok.t1,s1 _ _ hT,λD2 H2 rs s2 nD2 R l40 l14=>q D2 H2 rs (s1.trans s2) (Same.free s1 nD2) (by rw[<-ex];exact R.pre s1) l40 l14⟩
def zqh(ws:List Int):(ws.map V.int).all zcc=true:=by
 rw[all_eq_true]
 intro x hx
 obtain⟨i,_,rfl⟩:=mem_map.mp hx
 rfl
inductive zra(vs:List V)(H:Hp)(Q:VK)(_:XK):Prop
 | mk (d m:Addr) (_:vs=[.ref d,.ref m]) (_:H d=some (.dK [])) (_:∀H' ob,But d H H'->H' d=some (.frz ob (.dK []))->Q .non H')
def zfx:FnScope ["ends","numbers","number"] ["ends","numbers"] (zac zdZ):=fsc
include T in
theorem zjB(D:Dfn K mg "check_ends" zdZ ["ends","numbers"] f fd)(zao:Cal P w K mg bf "is_whole" 1 pl4 (zbo K)):Cal P w K mg bf "check_ends" 2 ["ends","numbers"] zra:=by
 refine D.cal (D.F.ok zfx (by walk_at "z") (λc A o s H vs Q E hr h=>?_))
 obtain⟨d,m,rfl,hd,q⟩:=h
 refine⟨_,(zag (zcJ tY rfl (zja (pv 0)) (zaH (i:=2) zfx.nd rfl (Or.inr rfl)) (zab aB
  (zag (au (zas zgJ (zaN hr.units1 (pv 0) (pv 2) (λ_ _=>rfl)) (zaM (zaa zaT (zaa zaT zaf))) rfl) (zag aB) zaw))))),?_⟩
 refine⟨_,rfl,d,[],rfl,.inl hd,λob H1 k1 h1=>?_⟩
 exact zpY (λi σ H'=>Same H1 H') (Same.refl _) (λi σ H' s=>s _ _ h1) (λi p σ HA hp _=>by simp at hp) (λσ HA sA=>q HA ob (k1.trans sA.toBut) (sA _ _ h1))
def bhP(t:Int)(ws:List Int)(x:Wd × Pv):Wd × Pv:=if x.1=.held/\x.2.came=t then(.missed,x.2)else if x.2.n∈ws then x.2.step else x
inductive zrb(K:am)(cs:CsA)(vs:List V)(H:Hp)(Q:VK)(_:XK):Prop
 | mk (q0:Addr × Wd × Pv) (t:Int) (m d:Addr) (ws:List Int) (_:vs=[.ref q0.1,.int t,.ref m,.ref d]) (_:IsPc cs H q0.1 q0.2.1 q0.2.2) (_:H m=some (.lst (ws.map V.int))) (_:Rd H d (.dK [])) (_:(q0.2.2.n∈ws->q0.2.1=.waiting)) (_:∀a' H',Same H H'->IsPc cs H' a' (bhP t ws q0.2).1 (bhP t ws q0.2).2->Q (.ref a') H')
def zee:FnScope ["piece","turn","numbers","ends","end"] pl26 (zac zcX):=fsc
include T in
theorem fO(D:Dfn K mg "piece_behind" zcX pl26 f fd)(CQ:MOk CX0 P w K mg bf 3 Aa "failed" (zhS (CsA.mk Ae Aa Ab Ac) Pv.fail))(DY:MOk CX0 P w K mg bf 3 Ae "missed" (zhS (CsA.mk Ae Aa Ab Ac) (λp=>(.missed,p)) .held))(DF:MOk CX0 P w K mg bf 4 Aa "stepped" (zhS (CsA.mk Ae Aa Ab Ac) Pv.step)):Cal P w K mg bf "piece_behind" 5 pl26 (zrb K (CsA.mk Ae Aa Ab Ac)):=by
 refine D.cal (D.F.ok zee (by walk_at "z") (λc A o s H vs Q E hr h=>?_))
 obtain⟨q0,t,m,d,ws,rfl,hp,hm,hd,hw,q⟩:=h
 have S:=zcd T
 obtain⟨dx,e⟩:=id hp
 refine⟨_,(zab (au (PW.pt (zgH (av (zay (zhr (C:=Ae)) rfl T.za2 zaS (zaa (pv 0) (zaa (zbB (v:=.ref Ae) rfl T.EJ rfl) zaf)))) (zdQ (zas zdk (zai (pv 0) rfl) (pv 1) (zaB _))))) (zag (zah (zaI (k:=3) (pv 0) hr.o zaD))) zaw)
  (zab (au (zas zgJ (zai (pv 0) rfl) (pv 2) rfl) (zag (zah (pv 0))) zaw)
  (zab (zap (i:=4) zee.nd rfl (Or.inl rfl) (zpA hr.units1 (pv 3) (zai (pv 0) rfl) ⟨rfl,rfl,rfl,rfl⟩))
  (zab (au (zas zdk (pv 4) zaT (zaB _)) (zag aB) zaw)
  (zag (zah (zeg (zas zdk (pv 4) zaT (zaB _)) (zaI (k:=3) (pv 0) hr.o zaD) (zaI (k:=4) (pv 0) hr.o zaD)))))))),?_⟩
 unfold bhP at q
 by_cases c0:q0.2.1=.held/\q0.2.2.came=t
 ·rw[if_pos c0]at q
  rw[c0.1]at e
  refine⟨_,rfl,_,_,_,rfl,.old ((S.ow .held).ty e),is_h T .held,_,rfl,iteT ⟨_,rfl,q0.1,_,dx,_,_,rfl,e,(S.ow .held).cl,S.n3 .held,rfl,_,rfl,rfl,_,rfl,iteD (by rw[c0.2]) ?_⟩⟩
  exact⟨_,rfl,q0.1,_,dx,_,_,rfl,e,rfl,DY,q0.1,q0.2.2,rfl,⟨dx,e⟩,q⟩
 rw[if_neg c0]at q
 refine⟨_,rfl,_,_,_,rfl,.old ((S.ow q0.2.1).ty e),is_h T q0.2.1,_,rfl,?_⟩
 refine ite2 (λch=>⟨_,rfl,q0.1,_,dx,_,_,rfl,e,(S.ow q0.2.1).cl,S.n3 q0.2.1,rfl,_,rfl,rfl,_,rfl,zfH (λz=>c0 ⟨t4 ch,V.int.inj z⟩) ?_⟩) (λch=>iteF ?_)
 all_goals
  refine⟨_,rfl,q0.1,_,dx,_,_,rfl,e,(S.ow q0.2.1).cl,S.n1 q0.2.1,rfl,_,rfl,m,_,rfl,.inl (SqL.of hm),rfl,zqh ws,?_⟩
  have iv:(if true=true then !inV (V.int q0.2.2.n) (ws.map V.int)else inV (V.int q0.2.2.n) (ws.map V.int)) = !decide (q0.2.2.n∈ws):=by
   rw[if_pos rfl,bi]
  rw[iv]
  by_cases c:q0.2.2.n∈ws
  ·rw[if_pos c]at q
   rw[decide_eq_true c]
   refine⟨_,rfl,iteF ?_⟩
   have ew:=hw c
   rw[ew]at e
   have hp:IsPc (CsA.mk Ae Aa Ab Ac) H q0.1 .waiting q0.2.2:=⟨dx,e⟩
   refine⟨_,rfl,d,rfl,.inl ⟨[],hd⟩,_,rfl,q0.1,_,dx,_,_,rfl,e,(S.ow .waiting).cl,S.n1 .waiting,rfl,none,.inl ⟨[],.inl q0.2.2.n,hd,rfl,rfl⟩,?_⟩
   refine⟨_,rfl,rfl,_,rfl,zfH (λz=>by cases z) ?_⟩
   refine⟨_,rfl,rfl,_,rfl,zfH (λz=>by cases z) ?_⟩
   exact⟨_,rfl,q0.1,_,dx,_,_,rfl,e,rfl,DF,q0.1,_,rfl,hp,q⟩
  ·rw[if_neg c]at q
   rw[tL c]
   exact⟨_,rfl,iteT ⟨_,rfl,q q0.1 H (Same.refl _) hp⟩⟩
def PsOk.one{rs:List SR}{ps:List (Addr × Wd × Pv)}(h:PsOk rs ps){q z:Addr × Wd × Pv}(hq:q∈ps)(hz:z∈ps)(e:q.2.2.n=z.2.2.n):q=z:=by
 obtain⟨i,hi,ei⟩:=tX hq
 obtain⟨j,hj,ej⟩:=tX hz
 have a:=h.nm i q (by rw[tm hi,ei])
 have b:=h.nm j z (by rw[tm hj,ej])
 have:i=j:=by omega
 subst this
 rw[<-ei,<-ej]
def IsHs.butD{cs:CsA}{cS cH o d:Addr}{H H':Hp}{v:Hv}{kvs:List (Key × V)}(h:IsHs cs cS cH H o v)(k:But d H H')(hd:H d=some (.dK kvs))(ne:d≠v.aN):IsHs cs cS cH H' o v:=by
 have nl:∀ {z xs},H z=some (.lst xs)->z≠d:=λe z=>by rw[z,hd]at e;cases e
 have nt:∀ {z xs},H z=some (.tup xs)->z≠d:=λe z=>by rw[z,hd]at e;cases e
 have ni:∀ {z C dx fs},H z=some (.ins C dx fs)->z≠d:=λe z=>by rw[z,hd]at e;cases e
 obtain⟨dx,e0⟩:=h.at_
 obtain⟨sdx,l,xs,e1,e2,e3⟩:=h.p.st
 obtain⟨rw,r1,r2⟩:=h.p.rw
 refine⟨⟨dx,k _ _ (ni e0) e0⟩,⟨sdx,l,xs,k _ _ (ni e1) e1,⟨k _ _ (nl e2.at_) e2.at_,λq hq=>?_⟩,e3⟩,⟨k _ _ (nl h.p.ps.at_) h.p.ps.at_,λq hq=>?_⟩,k _ _ (Ne.symm ne) h.p.nb,rw,k _ _ (nl r1) r1,r2⟩
 ·obtain⟨pw,ps,a,b,c⟩:=e2.sr q hq
  exact⟨pw,ps,k _ _ (nt a) a,k _ _ (nt b) b,k _ _ (nt c) c⟩
 ·obtain⟨pdx,ep⟩:=h.p.ps.pc q hq
  exact⟨pdx,k _ _ (ni ep) ep⟩
def wsV(v:Hv):List Int:=((ord (clV v.rs v.ps) v.t).map (·.n)).take v.h.toNat
def zpd{v:Hv}{n:Int}(h:n∈wsV v):∃q,q∈v.ps/\q.2.1=.waiting/\q.2.2.n=n:=by
 unfold wsV at h
 obtain⟨c,hc,rfl⟩:=mem_map.mp (qU h)
 have hc:=(zeh _ _).mem_iff.mp hc
 obtain⟨q,hq,rfl⟩:=mem_map.mp hc
 exact⟨q,(zbV.mp hq).1,(zbV.mp hq).2,rfl⟩
inductive zpe(K:am)(cs:CsA)(cS cH tT:Addr)(vs:List V)(H:Hp)(Q:VK)(_:XK):Prop
 | mk (o:Addr) (v:Hv) (_:vs=[.ref o,.non,.int 0]) (_:IsHs cs cS cH H o v) (_:HvOk v) (_:v.t<1000) (_:(∀q,q∈v.ps->q.2.1=.waiting->q.2.2.came<=v.t)) (_:H tT=some (.tbl zbh lamQ)) (_:∀ps' l' lr p H',ps'.map (·.2)=v.ps.map (λq=>bhP v.t (wsV v) q.2)->But o H H'->IsHs cs cS cH H' o { v with ps:=ps',aP:=l',aR:=lr,t:=v.t+1 }->Q p H')
def zbm:FnScope ["self","ends","more","known","numbers","row"] pl27 (zac zaR):=fsc
include T in
theorem zfy{u1 u2:Value}(D:MfnE2 K "pass_turn" "House.pass_turn" zaR pl27 f fd u1 u2)(zao:Cal P w K mg bf "is_whole" 1 pl4 (zbo K))(zcs:Cal P w K mg bf "own_rows" 1 ["rows"] zhY)(zef:Cal P w K mg bf "check_ends" 2 ["ends","numbers"] zra)(cq:Cal P w K mg bf "piece_behind" 5 pl26 (zrb K (CsA.mk Ae Aa Ab Ac)))(BH:MOk CX0 P w K mg bf 10 Ad "waiting" (zlm K (CsA.mk Ae Aa Ab Ac) Af Ad tT)):FnOk P w K mg bf CX0 11 f fd pl27 (zpe K (CsA.mk Ae Aa Ab Ac) Af Ad tT):=by
 refine D.F.ok zbm (by walk_at "z") (λc A o s H vs Q E hr h=>?_)
 obtain⟨o,v,rfl,hh,ok,t9,ca,hT,q⟩:=h
 obtain⟨dx,e⟩:=hh.at_
 have O:=T.Ai
 refine⟨_,(zab (au (zbl (av (zaj zao hr.o rfl (zaa (pv 2) (zaa zae (zaa (zbB (v:=.int 6) rfl T.AE.choose_spec ⟨_,rfl⟩) zaf)))))) (zag aB) zaw)
  (zab (zap (i:=3) zbm.nd rfl (Or.inr rfl) (zeg (zas zqu (pv 1) zgF (zaB _)) zfd (pv 1)))
  (zab (zap (i:=4) zbm.nd rfl (Or.inr rfl) (zdm bg (zaI (k:=10) (pv 0) hr.o zaD) zfF (zdU (zaz ay (zai (pv 0) rfl) (pv 2)))))
  (zab (zcS (zaj zef hr.o rfl (zaa (pv 3) (zaa (pv 4) zaf))))
  (zab (zaP (pv 0) (zaZ (N:=["piece","self","known","numbers"]) (js:=[0,3,4]) rfl cpo (zaK (zai (pv 0) rfl)) (λ_ _ _ _ _=>zbG) (λ_ _ _ _ _=>(zaj cq hr.o rfl (pai (zad (pv 0) (zad (aD (K:=K) rfl (pv 1) rfl) (zad (pv 3) (zad (pv 2) zaL)))))))))
  (zab (zap (i:=5) zbm.nd rfl (Or.inl rfl) (zaM (zaa (zai (pv 0) rfl) (zaa (pv 4) zaf))))
  (zab (zaP (pv 0) (zaz bj (zai (pv 0) rfl) (zaj zcs hr.o rfl (zaa (zaO (zaa (pv 5) zaf)) zaf))))
  (zab (znu (pv 0) zae zsB)
  (zag (zah (pv 5))))))))))),?_⟩
 refine⟨_,rfl,.int 0,0,6,_,rfl,.inl ⟨0,rfl,rfl⟩,_,rfl,iteF ?_⟩
 refine⟨_,rfl,rfl,_,rfl,iteD rfl λd H1 s1 nd hd=>?_⟩
 have hh1:=hh.same s1
 have e1:=s1 _ _ e
 refine⟨_,rfl,o,_,dx,_,_,rfl,e1,rfl,BH,o,v,rfl,hh1,ok.p,ok.t0,ok.t1,ca,s1 _ _ hT,λm0 H2 s2 n2 h2=>?_⟩
 have e2:=s2 _ _ e1
 refine⟨_,rfl,o,_,dx,_,_,rfl,e2,O.cl,T.Ap,rfl,_,rfl,_,_,rfl,rfl,_,rfl,m0,_,rfl,SqL.of h2,λm H3 s3 n3 h3=>?_⟩
 have h3:H3 m=some (.lst ((wsV v).map V.int)):=by
  rw[h3,show v.h+0=((v.h.toNat:Nat):Int) by have:=ok.h0;omega,ztw]
  unfold wsV
  rw[map_take]
 have s13:=s2.trans s3
 have hd3:=s13 _ _ hd
 have hh3:=hh1.same s13
 have ndN:d≠v.aN:=λz=>by
  have:=hh.p.nb
  rw[<-z,nd]at this
  cases this
 refine⟨_,rfl,_,rfl,d,m,rfl,hd3,λH4 ob k4 h4=>?_⟩
 have hh4:=hh3.butD k4 hd3 ndN
 have hm4:=k4 _ _ (λz=>by rw[z,hd3]at h3;cases h3) h3
 obtain⟨dx4,e4⟩:=hh4.at_
 have S:=zcd T
 have ml:(v.ps.map λq=>V.ref q.1).length=v.ps.length:=tq _
 refine⟨_,rfl,o,_,dx4,_,_,rfl,e4,O.cl,T.Aj,rfl,v.aP,rfl,⟨_,SqL.of hh4.p.ps.at_⟩,?_⟩
 refine zhz (xs:=v.ps.map λq=>V.ref q.1) (tak v.ps λ_=>true) (itG v.ps (λq=>bhP v.t (wsV v) q.2) (.missed,⟨0,"",0,0,0,0⟩)) (λH u x=>IsPc (CsA.mk Ae Aa Ab Ac) H u x.1 x.2) (λH H' u c t ⟨dx,h⟩=>⟨dx,t _ _ (λ_ z=>by cases z) h⟩) (SqL.of hh4.p.ps.at_) ?_ ?_ (zaC (by rw[ml];have:=ok.p.len;omega)) (λD H5 bs s5 nD hD eb hb=>?_)
 ·intro i x Hh Q' hx sh q'
  rw[getElem?_map]at hx
  cases ez:v.ps[i]? with
  | none=>rw[ez]at hx;cases hx
  | some z=>
    have zz:=q' Hh (Same.refl _)
    unfold tak at zz
    rw[ez]at zz
    exact zz
 ·intro i x Hh Q' hx _ sh q'
  obtain⟨z,ez,hx⟩:=gmp hx
  cases hx
  have hz:=tz ez
  unfold itG at q'
  rw[ez]at q'
  obtain⟨dxh,eh⟩:=(hh4.same sh).at_
  refine⟨_,rfl,_,rfl,o,_,dxh,_,_,rfl,eh,O.cl,T.Al,rfl,_,rfl,_,rfl,z,v.t,m,d,wsV v,rfl,(hh4.same sh).p.ps.pc z hz,sh _ _ hm4,.inr ⟨ob,sh _ _ h4⟩,λhw=>?_,λa' H' s' ha=>q' a' H' s' ha⟩
  obtain⟨y,hy,yw,yn⟩:=zpd hw
  rw[<-ok.p.one hy hz yn]
  exact yw
 rw[ml,zfS,zcN]at eb
 have e5:=s5 _ _ e4
 have p5:HsP (CsA.mk Ae Aa Ab Ac) Af H5 { v with ps:=bs,aP:=D }:=⟨hh4.p.st.same s5,⟨hD,hb⟩,s5 _ _ hh4.p.nb,let ⟨rw,a,b⟩:=hh4.p.rw;⟨rw,s5 _ _ a,b⟩⟩
 refine⟨_,rfl,o,_,dx4,_,rfl,e5,O.cl,T.Aj,(by show(6:Nat)<1000;decide),λH6 k6 h6=>?_⟩
 have p6:=p5.but e5 k6
 have e6:H6 o=some (.ins Ad dx4 ({ v with ps:=bs,aP:=D }:Hv).fs):=h6
 have ne:∀{z:Addr}{u:HO},H5 z=some u->(∀C dx fs,u≠.ins C dx fs)->z≠o:=λhz hu w=>by
  rw[w,e5]at hz
  cases hz
  exact hu _ _ _ rfl
 have hm6:=k6 _ _ (ne (s5 _ _ hm4) λ_ _ _ w=>by cases w) (s5 _ _ hm4)
 refine⟨_,rfl,o,_,dx4,_,_,rfl,e6,O.cl,T.Al,rfl,_,rfl,si2,λp H7 s7 n7 h7=>?_⟩
 have e7:=s7 _ _ e6
 have p7:=p6.same s7
 obtain⟨rw,r1,r2⟩:=p7.rw
 have big:(10000:Nat)<=sizeLine:=by decide
 refine⟨_,rfl,o,_,dx4,_,_,rfl,e7,O.cl,T.Ca,rfl,_,rfl,si1,λl1 H8 s8 n8 h8=>⟨l1,[(p,m,v.t,wsV v)],rfl,⟨h8,λr hr=>?_,λr hr=>?_⟩,by show(1:Nat)<=2000;decide,λD2 H9 rs2 s9 n9 R9 e9 _=>?_⟩⟩
 ·rw[mem_singleton.mp hr]
  exact s8 _ _ h7
 ·rw[mem_singleton.mp hr]
  exact(s7.trans s8) _ _ hm6
 have s79:=s8.trans s9
 have lv:(rs2.map λr=>V.ref r.1).length=1:=by
  have:=tS List.length e9
  rw[tq,tq]at this
  rw[tq,this]
  rfl
 refine⟨v.aR,D2,_,_,rfl,rfl,SqL.of (s79 _ _ r1),SqL.of R9.at_,by rw[r2,lv];show v.t.toNat+1<=_;omega,λC H10 s10 n10 h10=>?_⟩
 have s710:=s79.trans s10
 have e10:=s710 _ _ e7
 refine⟨_,rfl,o,_,dx4,_,rfl,e10,O.cl,T.Ca,(by show(6:Nat)<1000;decide),λH11 k11 h11=>?_⟩
 have e11:H11 o=some (.ins Ad dx4 ({ v with ps:=bs,aP:=D,aR:=C }:Hv).fs):=h11
 have t0:=ok.t0
 have p10:HsP (CsA.mk Ae Aa Ab Ac) Af H10 { v with ps:=bs,aP:=D,aR:=C,t:=v.t+1 }:=⟨(p7.same s710).st,(p7.same s710).ps,(p7.same s710).nb,_,h10,by rw[tQ,r2,lv];show v.t.toNat+1=(v.t+1).toNat;omega⟩
 have p11:=p10.but e10 k11
 have p12:=p11.but e11 (But.upd o H11 (.ins Ad dx4 ({ v with ps:=bs,aP:=D,aR:=C,t:=v.t+1 }:Hv).fs))
 refine⟨_,rfl,o,_,dx4,_,_,rfl,e11,O.cl,T.Al,rfl,_,_,rfl,rfl,dx4,_,e11,(by show(6:Nat)<1000;decide),?_⟩
 refine⟨_,rfl,q bs D C (.ref p) _ eb (λc u c1 hc=>?_) ⟨⟨dx4,zan⟩,p12⟩⟩
 rw[zau c1]
 exact k11 _ _ c1 (s710 _ _ (s7 _ _ (k6 _ _ c1 (s5 _ _ (k4 _ _ (λz=>by rw[z,nd]at hc;cases hc) (s13 _ _ (s1 _ _ hc)))))))
structure PcI(x:Wd × Pv):Prop where
 s0:1<=x.2.span
 s1:x.2.span<=4
 t0:0<=x.2.tries
 t1:x.2.tries<=3
 w:x.1.opn=true->1<=x.2.tries/\0<=x.2.spent/\x.2.spent<x.2.span
 c0:0<=x.2.came
 c1:x.2.came<=1000
def ziY{d:Wd}(h:d=.waiting):d.opn=true:=by rw[h];rfl
def PcI.left{x:Wd × Pv}(h:PcI x):0<=x.2.left x.1/\x.2.left x.1<=12/\(x.1.opn=true->0<x.2.left x.1):=by
 unfold Pv.left
 by_cases c:x.1.opn=true
 ·rw[if_pos c]
  obtain⟨a,b,d⟩:=h.w c
  have:=h.s0
  have:=h.s1
  have ht:x.2.tries=1\/x.2.tries=2\/x.2.tries=3:=by have:=h.t1;omega
  rcases ht with e | e | e<;>rw[e]<;>exact⟨by omega,by omega,λ_=>by omega⟩
 ·rw[if_neg c]
  exact⟨rL _,by decide,λz=>(c z).elim⟩
def zhb(t:Int)(ws:List Int)(x:Wd × Pv):(bhP t ws x).2.n=x.2.n/\(bhP t ws x).2.nm=x.2.nm/\(bhP t ws x).2.came=x.2.came/\(bhP t ws x).2.span=x.2.span:=by
 have f:x.2.fail.2.n=x.2.n/\x.2.fail.2.nm=x.2.nm/\x.2.fail.2.came=x.2.came/\x.2.fail.2.span=x.2.span:=by
  unfold Pv.fail
  split<;>exact⟨rfl,rfl,rfl,rfl⟩
 unfold bhP
 split
 ·exact⟨rfl,rfl,rfl,rfl⟩
 split
 ·unfold Pv.step
  split
  ·exact f
  ·exact⟨rfl,rfl,rfl,rfl⟩
 ·exact⟨rfl,rfl,rfl,rfl⟩
def zse{x:Wd × Pv}(h:PcI x)(hw:x.1=.waiting):PcI x.2.fail:=by
 obtain⟨a,b,c⟩:=h.w (ziY hw)
 have:=h.t1
 have:=h.s0
 unfold Pv.fail
 split
 ·exact⟨h.s0,h.s1,by show 0<=x.2.tries-1;omega,by show x.2.tries-1<=3;omega,λz=>(by cases z),h.c0,h.c1⟩
 ·exact⟨h.s0,h.s1,by show 0<=x.2.tries-1;omega,by show x.2.tries-1<=3;omega,λ_=>⟨by show 1<=x.2.tries-1;omega,rL _,by show 0<x.2.span;omega⟩,h.c0,h.c1⟩
def zsf{x:Wd × Pv}(h:PcI x)(hw:x.1=.waiting):PcI x.2.step:=by
 obtain⟨a,b,c⟩:=h.w (ziY hw)
 unfold Pv.step
 split
 ·exact zse h hw
 ·exact⟨h.s0,h.s1,h.t0,h.t1,λ_=>⟨a,by show 0<=x.2.spent+1;omega,by show x.2.spent+1<x.2.span;omega⟩,h.c0,h.c1⟩
def ztC{t:Int}{ws:List Int}{x:Wd × Pv}(h:PcI x)(hw:x.2.n∈ws->x.1=.waiting):PcI (bhP t ws x):=by
 unfold bhP
 by_cases c0:x.1=.held/\x.2.came=t
 ·rw[if_pos c0]
  exact⟨h.s0,h.s1,h.t0,h.t1,λz=>(by cases z),h.c0,h.c1⟩
 rw[if_neg c0]
 by_cases c:x.2.n∈ws
 ·rw[if_pos c]
  exact zsf h (hw c)
 ·rw[if_neg c]
  exact h
def ztD(p:Pv):p.fail.1=.waiting\/p.fail.1=.givenUp:=by
 unfold Pv.fail
 split
 ·exact .inr rfl
 ·exact .inl rfl
def ztE(p:Pv):p.step.1=.waiting\/p.step.1=.givenUp:=by
 unfold Pv.step
 split
 ·exact ztD p
 ·exact .inl rfl
def zpf{t:Int}{ws:List Int}{x:Wd × Pv}(hw:x.2.n∈ws->x.1=.waiting):((bhP t ws x).1=.waiting->x.1=.waiting)/\((bhP t ws x).1=.held->x.1=.held/\x.2.came≠t):=by
 unfold bhP
 by_cases c0:x.1=.held/\x.2.came=t
 ·rw[if_pos c0]
  exact⟨λz=>(by cases z),λz=>(by cases z)⟩
 rw[if_neg c0]
 by_cases c:x.2.n∈ws
 ·rw[if_pos c]
  refine⟨λ_=>hw c,λz=>?_⟩
  rcases ztE x.2 with a | a<;>rw[a]at z<;>cases z
 ·rw[if_neg c]
  exact⟨id,λz=>⟨z,λy=>c0 ⟨z,y⟩⟩⟩
theorem ztF{d:Wd}(h:d.opn=true):d=.waiting\/d=.held:=by
 cases d with
 | waiting=>exact .inl rfl
 | held=>exact .inr rfl
 | givenUp=>cases h
 | missed=>cases h
theorem zrc{ps' ps:List (Addr × Wd × Pv)}{g:Addr × Wd × Pv->Wd × Pv}(e:ps'.map (·.2)=ps.map g){i:Nat}{q:Addr × Wd × Pv}(h:ps'[i]?=some q):∃z,ps[i]?=some z/\q.2=g z:=by
 have:=tS (λl:List (Wd × Pv)=>l[i]?) e
 simp only[getElem?_map,h]at this
 cases hz:ps[i]? with
 | none=>rw[hz]at this;cases this
 | some z=>
   rw[hz]at this
   exact⟨z,rfl,tF this⟩
def zmp{ps' ps:List (Addr × Wd × Pv)}{g:Addr × Wd × Pv->Wd × Pv}(e:ps'.map (·.2)=ps.map g){q:Addr × Wd × Pv}(h:q∈ps'):∃z,z∈ps/\q.2=g z:=by
 obtain⟨i,hi,ei⟩:=tX h
 obtain⟨z,hz,ez⟩:=zrc e (i:=i) (q:=q) (by rw[tm hi,ei])
 exact⟨z,tz hz,ez⟩
theorem zrd{t:Int}{ws:List Int}:∀{ps' ps:List (Addr × Wd × Pv)},ps'.map (·.2)=ps.map (λq=>bhP t ws q.2)->(∀q,q∈ps->q.2.2.n∈ws->q.2.1=.waiting)->(ps'.filter λq=>q.2.1.opn).length<=(ps.filter λq=>q.2.1.opn).length
 | [],[],_,_=>tD _
 | [],_::_,e,_=>by cases e
 | _::_,[],e,_=>by cases e
 | q::ps',z::ps,e,hw=>by
   injection e with e1 e2
   have ih:=zrd e2 λq hq=>hw q (tO _ hq)
   rw[sQ,sQ]
   by_cases c:z.2.1.opn=true
   ·rw[if_pos c,length_cons]
    split
    ·rw[length_cons]
     omega
    ·omega
   ·rw[if_neg c,if_neg]
    ·exact ih
    ·intro y
     have e1:q.2=bhP t ws z.2:=e1
     rw[e1]at y
     have bw:=zpf (t:=t) (hw z tP)
     rcases ztF y with y | y
     ·exact c (ziY (bw.1 y))
     ·rw[(bw.2 y).1]at c
      exact c rfl
def zsg{rs:List SR}{ps' ps:List (Addr × Wd × Pv)}{t:Int}{ws:List Int}(p:PsOk rs ps)(pc:∀q,q∈ps->PcI q.2)(e:ps'.map (·.2)=ps.map (λq=>bhP t ws q.2))(hw:∀q,q∈ps->q.2.2.n∈ws->q.2.1=.waiting):PsOk rs ps'/\∀q,q∈ps'->PcI q.2:=by
 have pc':∀q,q∈ps'->PcI q.2:=λq hq=>by
  obtain⟨z,hz,ez⟩:=zmp e hq
  rw[ez]
  exact ztC (pc z hz) (hw z hz)
 refine⟨⟨p.rl,p.ro,λi q hq=>?_,λq hq=>?_,λq hq=>?_,?_,tM (zrd e hw) p.op⟩,pc'⟩
 ·obtain⟨z,hz,ez⟩:=zrc e hq
  rw[ez,(zhb t ws z.2).1]
  exact p.nm i z hz
 ·have h:=pc' q hq
  have l:=h.left
  exact⟨⟨h.s0,h.s1,h.t1,h.t0⟩,l.1,l.2.1,h.c0,h.c1⟩
 ·obtain⟨z,hz,ez⟩:=zmp e hq
  rw[ez,(zhb t ws z.2).2.1]
  exact p.fd z hz
 ·have:=tS List.length e
  rw[tq,tq]at this
  rw[this]
  exact p.len
inductive zmq(cs:CsA)(cS cH:Addr)(vs:List V)(H:Hp)(Q:VK)(_:XK):Prop
 | mk (o:Addr) (v:Hv) (_:vs=[.ref o]) (_:IsHs cs cS cH H o v) (_:Q (.int v.t) H)
def zkB:FnScope pl2 pl2 (zac zeI):=fsc
include T in
theorem zkC(D:Mfn K "now" "House.now" zeI pl2 f fd):FnOk P w K mg bf CX0 1 f fd pl2 (zmq (CsA.mk Ae Aa Ab Ac) Af Ad):=by
 refine D.F.ok zkB (by walk_at "z") (λc A o s H vs Q E hr h=>?_)
 obtain⟨o,v,rfl,hh,q⟩:=h
 obtain⟨dx,e⟩:=hh.at_
 have O:=T.Ai
 exact⟨_,(zag (zah (zai (pv 0) rfl))),_,rfl,o,_,dx,_,_,rfl,e,O.cl,T.Al,rfl,q⟩
inductive zpg(cs:CsA)(cS cH:Addr)(vs:List V)(H:Hp)(Q:VK)(_:XK):Prop
 | mk (o:Addr) (v:Hv) (i km:Nat) (q0:Addr × Wd × Pv) (_:vs=[.ref o,.int i]) (_:IsHs cs cS cH H o v) (_:v.ps[i]?=some q0) (_:NbP H v i km) (_:km<=1000) (_:∀p m H',Same H H'->H' p=some (.tup [.str q0.2.1.str,.str q0.2.2.nm,.int q0.2.2.came,.int q0.2.2.tries,.int q0.2.2.spent,.ref m])->Q (.ref p) H')
def zer:FnScope ["self","number","row"] pl20 (zac zdy):=fsc
include T in
theorem zit(D:Mfn K "state" "House.state" zdy pl20 f fd)(Bf:MOk CX0 P w K mg bf 2 Ad "piece_of" (ck (CsA.mk Ae Aa Ab Ac) Af Ad))(EN:∀d,MOk CX0 P w K mg bf 2 (CsA.cl (CsA.mk Ae Aa Ab Ac) d) "row" (zsa (CsA.mk Ae Aa Ab Ac))):FnOk P w K mg bf CX0 6 f fd pl20 (zpg (CsA.mk Ae Aa Ab Ac) Af Ad):=by
 refine D.F.ok zer (by walk_at "z") (λc A o s H vs Q E hr h=>?_)
 obtain⟨o,v,i,km,q0,rfl,hh,hi,nb,k1,q⟩:=h
 obtain⟨dx,e⟩:=hh.at_
 have O:=T.Ai
 obtain⟨dxp,ep⟩:=hh.p.ps.pc q0 (tz hi)
 refine⟨_,(zab (zap (i:=2) zer.nd rfl (Or.inl rfl) (zaI (k:=2) (zbd (k:=2) (pv 0) hr.o zaD (zaa (pv 1) zaf)) hr.o zaD))
  (zag (zah (zaM (pai (zad (zaq zal (pv 2) zae (λ_ _=>rfl)) (zad (zaq zal (pv 2) zae (λ_ _=>rfl)) (zad (zaq zal (pv 2) zae (λ_ _=>rfl)) (zad (zaq zal (pv 2) zae (λ_ _=>rfl)) (zad (zaq zal (pv 2) zae (λ_ _=>rfl)) (zad (zbK zhs rfl T.ziV zfG (zaa (zlN hr.units1 (zai (pv 0) rfl) (pv 1) (zaO zaf) ⟨rfl,rfl,rfl,rfl⟩) zaf)) zaL))))))))))),?_⟩
 refine⟨_,rfl,o,_,dx,_,_,rfl,e,rfl,Bf,_,rfl,o,v,i,q0,rfl,hh,hi,q0.1,_,dxp,_,_,rfl,ep,rfl,EN q0.2.1,q0.1,_,_,rfl,⟨dxp,ep⟩,λt H1 s1 h1=>?_⟩
 have hh1:=hh.same s1
 have e1:=s1 _ _ e
 refine⟨_,rfl,t,_,_,_,rfl,rfl,SqT.of h1,rfl,_,rfl,t,_,_,_,rfl,rfl,SqT.of h1,rfl,_,rfl,t,_,_,_,rfl,rfl,SqT.of h1,rfl,_,rfl,t,_,_,_,rfl,rfl,SqT.of h1,rfl,_,rfl,t,_,_,_,rfl,rfl,SqT.of h1,rfl,?_⟩
 refine⟨_,rfl,o,_,dx,_,_,rfl,e1,O.cl,T.AA,rfl,v.aN,rfl,.inl ⟨_,.inl hh1.p.nb⟩,_,rfl,si0,λnl H2 s2 n2 h2=>⟨_,DGet.k (k:=.inl (i:Int)) (s2 _ _ hh1.p.nb),?_⟩⟩
 cases ev:valV v.nb (.inl (i:Int)) with
 | none=>
   exact⟨nl,[],rfl,.inl (SqL.of h2),λm H3 s3 n3 h3=>⟨si6,λp H4 s4 n4 h4=>q p m H4 (s1.trans (s2.trans (s3.trans s4))) h4⟩⟩
 | some x=>
   obtain⟨l,us,rfl,b,_⟩:=nb x ev
   exact⟨l,_,rfl,.inl (SqL.of (s2 _ _ (s1 _ _ b))),λm H3 s3 n3 h3=>⟨si6,λp H4 s4 n4 h4=>q p m H4 (s1.trans (s2.trans (s3.trans s4))) h4⟩⟩
inductive zre(K:am)(vs:List V)(H:Hp)(Q:VK)(_:XK):Prop
 | mk (a:Addr) (ns:List Int) (k:Int) (_:vs=[.ref a,.int k]) (_:SqL K H a (ns.map V.int)) (_:0<=k) (_:∀v:Int,Q (.int v) H)
def mixF(x k:Int):Int:=((x % 2147483647+7919*k)*48271 % 2147483647*((x % 2147483647+7919*k)*48271 % 2147483647) % 2147483629*((x % 2147483647+7919*k)*48271 % 2147483647*((x % 2147483647+7919*k)*48271 % 2147483647) % 2147483629)+12345*((x % 2147483647+7919*k)*48271 % 2147483647*((x % 2147483647+7919*k)*48271 % 2147483647) % 2147483629)+k) % 2147483587
def zbj(x k m:Int):Int:=if 1000000000000000000<=x/\0<x / 2 ^ (40*k).toNat then x / 2 ^ (40*k).toNat % 1099511627776 % m else mixF x k % m
def zbg(x k:Int){m:Int}(h:0<m):0<=zbj x k m:=by
 unfold zbj
 split
 ·exact se _ (by omega)
 ·exact se _ (by omega)
def aA(x k:Int){m:Int}(h:0<m):zbj x k m<m:=by
 unfold zbj
 split
 ·exact t8 _ h
 ·exact t8 _ h
inductive zmr(vs:List V)(H:Hp)(Q:VK)(_:XK):Prop
 | mk (x k:Int) (_:vs=[.int x,.int k]) (_:Q (.int (mixF x k)) H)
inductive zgy(vs:List V)(H:Hp)(Q:VK)(_:XK):Prop
 | mk (x k m:Int) (_:vs=[.int x,.int k,.int m]) (_:0<=k) (_:0<m) (_:Q (.int (zbj x k m)) H)
inductive zrf(K:am)(vs:List V)(H:Hp)(Q:VK)(_:XK):Prop
 | mk (p:Addr) (c:Cl) (t:Int) (_:vs=[.ref p,.int t]) (_:IsCl K H p c) (_:c.Ok) (_:Q (.int (wM c t 27720)) H)
inductive zrg(K:am)(vs:List V)(H:Hp)(Q:VK)(_:XK):Prop
 | mk (l:Addr) (ps:List (Addr × Cl)) (t:Int) (_:vs=[.ref l,.int t]) (_:IsCs K H l ps) (_:Good (ps.map (·.2))) (_:ps.length<=40) (_:∀m H',Same H H'->H m=none->H' m=some (.lst (((ord (ps.map (·.2)) t).map (·.n)).map V.int))->Q (.ref m) H')
def zln:FnScope pl28 pl28 (zac zga):=fsc
include T in
theorem zlo(D:Dfn K mg "_law_cell" zga pl28 f fd):Cal P w K mg bf "_law_cell" 1 pl28 (zre K):=by
 refine D.cal (D.F.ok zln (by walk_at "z") (λc A o s H vs Q E hr h=>?_))
 obtain⟨a,ns,k,rfl,hS,k0,q⟩:=h
 refine⟨_,(zab (au (zas zrq (pv 1) (zay zaF rfl T.zdf zbL (zaa (pv 0) zaf)) (zaB _)) (zag (zah (zaq zbC (pv 0) (pv 1) (λ_ _=>rfl)))) zaw)
  (zag (zah (zaz ay (zaz zbJ zae (pv 1)) zae)))),?_⟩
 refine⟨_,rfl,_,rfl,a,_,rfl,.inl hS,_,_,rfl,rfl,_,rfl,?_⟩
 refine ite2 (λc=>?_) (λc=>?_)
 ·have c':k<(((ns.map V.int).length:Nat):Int):=t4 c
  rw[tq]at c'
  have hk:k.toNat<ns.length:=by omega
  have z:atI (ns.map V.int) ((k.toNat:Nat):Int)=some (.int ns[k.toNat]):=zcT (by rw[getElem?_map,tm hk]<;>rfl)
  rw[show((k.toNat:Nat):Int)=k by omega]at z
  exact⟨_,rfl,_,rfl,a,_,_,_,rfl,rfl,hS,z,q _⟩
 ·exact⟨_,rfl,_,_,rfl,rfl,.inl ⟨by decide,by decide⟩,_,_,rfl,rfl,q _⟩
def zgz:FnScope ["_law_cell_here","_law_k","_law_number"] pl29 (zac zhJ):=fsc
include T in
theorem fP(D:Dfn K mg "_law_mix" zhJ pl29 f fd):Cal P w K mg bf "_law_mix" 1 pl29 zmr:=by
 refine D.cal (D.F.ok zgz (by walk_at "z") (λc A o s H vs Q E hr h=>?_))
 obtain⟨x,k,rfl,q⟩:=h
 unfold mixF at q
 refine⟨_,(zab (zap (i:=2) zgz.nd rfl (Or.inl rfl) (zaz zcL (zaz zbJ (zaz ay (zaz zcL (pv 0) zae) (zaz zbJ zae (pv 1))) zae) zae))
  (zab (zap (i:=2) zgz.nd rfl (Or.inl rfl) (zaz zcL (zaz zbJ (pv 2) (pv 2)) zae))
  (zag (zah (zaz zcL (zaz ay (zaz ay (zaz zbJ (pv 2) (pv 2)) (zaz zbJ zae (pv 2))) (pv 1)) zae))))),?_⟩
 refine⟨_,rfl,_,_,rfl,rfl,(by show(0:Int)<_;decide),_,rfl,_,_,rfl,rfl,.inl ⟨by decide,by decide⟩,_,_,rfl,rfl,_,_,rfl,rfl,.inr ⟨by decide,by decide⟩,_,_,rfl,rfl,(by show(0:Int)<_;decide),?_⟩
 have m0:=se ((x % 2147483647+7919*k)*48271) (show(2147483647:Int)≠0 by decide)
 have m1:=t8 ((x % 2147483647+7919*k)*48271) (show(0:Int)<2147483647 by decide)
 dsimp only
 generalize (x % 2147483647+7919*k)*48271 % 2147483647=n1 at m0 m1 q ⊢
 refine⟨_,rfl,_,rfl,_,_,rfl,rfl,.inl ⟨by omega,by omega⟩,_,_,rfl,rfl,(by show(0:Int)<_;decide),?_⟩
 have m2:=se (n1*n1) (show(2147483629:Int)≠0 by decide)
 have m3:=t8 (n1*n1) (show(0:Int)<2147483629 by decide)
 dsimp only
 generalize n1*n1 % 2147483629=n2 at m2 m3 q ⊢
 refine⟨_,rfl,_,rfl,_,_,rfl,rfl,.inl ⟨by omega,by omega⟩,_,rfl,_,_,rfl,rfl,.inl ⟨by decide,by decide⟩,_,_,rfl,rfl,_,rfl,_,_,rfl,rfl,_,_,rfl,rfl,(by show(0:Int)<_;decide),?_⟩
 exact q
def zlp:FnScope pl30 pl30 (zac zgb):=fsc
include T in
theorem zlq(D:Dfn K mg "_law_draw" zgb pl30 f fd)(zbc:Cal P w K mg bf "_law_mix" 1 pl29 zmr):Cal P w K mg bf "_law_draw" 2 pl30 zgy:=by
 refine D.cal (D.F.ok zlp (by walk_at "z") (λc A o s H vs Q E hr h=>?_))
 obtain⟨x,k,m,rfl,k0,m0,q⟩:=h
 refine⟨_,(zhp (au (PW.pt (zgH (zas zsz (pv 0) (zaz zlG zae zae) (zaB _)) (zdQ (zas zes (zaz zqr (pv 0) (zaz zbJ zae (pv 1))) zae (zaB _))))) (zag (zah (zaz zcL (zaz zcL (zaz zqr (pv 0) (zaz zbJ zae (pv 1))) (zaz zlG zae zae)) (pv 2)))) zaw)
  (zag (zah (zaz zcL (zaj zbc hr.o rfl (zaa (pv 0) (zaa (pv 1) zaf))) (pv 2))))),?_⟩
 unfold zbj at q
 refine⟨λσ' H' => σ'=[some (.int x),some (.int k),some (.int m)]/\H'=H/\Q (.int (mixF x k % m)) H,?_,?_⟩
 ·refine⟨_,rfl,_,_,rfl,rfl,⟨by decide,by decide,by decide⟩,_,_,rfl,rfl,_,rfl,?_⟩
  by_cases c:(1000000000000000000:Int)<=x
  ·refine iteD (show(10:Int) ^ (18:Int).toNat<=x from c) ?_
   refine⟨_,rfl,_,rfl,_,_,rfl,rfl,.inl ⟨by decide,by decide⟩,_,_,rfl,rfl,by show 0<=40*k;omega,_,_,rfl,rfl,_,rfl,?_⟩
   by_cases c2:0<x / 2 ^ (40*k).toNat
   ·rw[if_pos ⟨c,c2⟩]at q
    refine iteD c2 ?_
    refine⟨_,rfl,_,rfl,_,_,rfl,rfl,.inl ⟨by decide,by decide⟩,_,_,rfl,rfl,by show 0<=40*k;omega,_,_,rfl,rfl,⟨by decide,by decide,by decide⟩,_,_,rfl,rfl,(by show(0:Int)<_;decide),_,rfl,_,_,rfl,rfl,m0,?_⟩
    exact q
   ·rw[if_neg (λz=>c2 z.2)]at q
    exact zfH c2 ⟨rfl,rfl,q⟩
  ·rw[if_neg (λz=>c z.1)]at q
   exact zfH (show ¬(10:Int) ^ (18:Int).toNat<=x from c) ⟨rfl,rfl,q⟩
 ·rintro σ' H' ⟨rfl,rfl,q⟩
  exact⟨_,rfl,_,rfl,x,_,rfl,_,rfl,_,_,rfl,rfl,m0,q⟩
def topF(r:Int):Int:=if r=0 then 3 else if r=1 then 7 else if r=2 then 40 else 1000001
def botF(r:Int):Int:=if r=0 then 1 else if r=1 then 3 else 12
def zrh(r:Int):0<topF r/\topF r<=1000001:=by
 unfold topF
 repeat' split
 all_goals decide
def zri(r:Int):0<botF r/\botF r<=12:=by
 unfold botF
 repeat' split
 all_goals decide
def wtF(x k:Int):Int × Int:=(zbj x k (topF (zbj x (k+1) 4)),1+zbj x (k+2) (botF (mixF x k % 3)))
inductive zfz(vs:List V)(H:Hp)(Q:VK)(_:XK):Prop
 | mk (x k:Int) (_:vs=[.int x,.int k]) (_:0<=k) (_:∀p H',Same H H'->IsW H' p (wtF x k).1 (wtF x k).2->Q (.ref p) H')
def ztG{r:Int}(h0:0<=r)(h1:r<4):atI [V.int 3,V.int 7,V.int 40,V.int ((10:Int) ^ (6:Int).toNat+1)] r=some (.int (topF r)):=by
 have:r=0\/r=1\/r=2\/r=3:=by omega
 rcases this with rfl | rfl | rfl | rfl<;>rfl
def ztH{r:Int}(h0:0<=r)(h1:r<3):atI [V.int 1,V.int 3,V.int 12] r=some (.int (botF r)):=by
 have:r=0\/r=1\/r=2:=by omega
 rcases this with rfl | rfl | rfl<;>rfl
def zdF:FnScope ["_law_cell_here","_law_k","_law_top","_law_bottom"] pl29 (zac bI):=fsc
include T in
theorem zjC(D:Dfn K mg "_law_weight" bI pl29 f fd)(zbc:Cal P w K mg bf "_law_mix" 1 pl29 zmr)(zar:Cal P w K mg bf "_law_draw" 2 pl30 zgy):Cal P w K mg bf "_law_weight" 3 pl29 zfz:=by
 refine D.cal (D.F.ok zdF (by walk_at "z") (λc A o s H vs Q E hr h=>?_))
 obtain⟨x,k,rfl,k0,q⟩:=h
 refine⟨_,(zab (zap (i:=2) zdF.nd rfl (Or.inl rfl) (zaq zbC (zaO (pai (zad zae (zad zae (zad zae (zad (zaz ay (zaz zlG zae zae) zae) zaL)))))) (zaj zar hr.o rfl (zaa (pv 0) (zaa (zaz ay (pv 1) zae) (zaa zae zaf)))) (λ_ _=>rfl)))
  (zab (zap (i:=3) zdF.nd rfl (Or.inl rfl) (zaq zbC (zaO (zaa zae (zaa zae (zaa zae zaf)))) (zaz zcL (zaj zbc hr.o rfl (zaa (pv 0) (zaa (pv 1) zaf))) zae) (λ_ _=>rfl)))
  (zag (zah (zaM (zaa (zaj zar hr.o rfl (zaa (pv 0) (zaa (pv 1) (zaa (pv 2) zaf)))) (zaa (zaz ay zae (zaj zar hr.o rfl (zaa (pv 0) (zaa (zaz ay (pv 1) zae) (zaa (pv 3) zaf))))) zaf))))))),?_⟩
 obtain⟨t0,t1⟩:=zrh (zbj x (k+1) 4)
 obtain⟨b0,b1⟩:=zri (mixF x k % 3)
 refine⟨_,_,rfl,rfl,⟨by decide,by decide,by decide⟩,_,_,rfl,rfl,si4,λl1 H1 s1 n1 h1=>⟨_,rfl,_,rfl,_,_,rfl,rfl,x,_,_,rfl,by show 0<=k+1;omega,by decide,?_⟩⟩
 refine⟨l1,_,_,_,rfl,rfl,SqL.of h1,ztG (zbg x (k+1) (by decide)) (aA x (k+1) (by decide)),?_⟩
 refine⟨si3,λl2 H2 s2 n2 h2=>⟨_,rfl,_,rfl,x,k,rfl,_,_,rfl,rfl,(by show(0:Int)<_;decide),?_⟩⟩
 refine⟨l2,_,_,_,rfl,rfl,SqL.of h2,ztH (se _ (by decide)) (t8 _ (by decide)),?_⟩
 refine⟨_,rfl,_,rfl,_,rfl,x,k,_,rfl,k0,t0,_,rfl,_,rfl,_,_,rfl,rfl,_,rfl,x,_,_,rfl,by show 0<=k+2;omega,b0,_,_,rfl,rfl,si2,λp H3 s3 n3 h3=>?_⟩
 have d0:=zbg x k t0
 have d1:=aA x k t0
 have f0:=zbg x (k+2) b0
 have f1:=aA x (k+2) b0
 exact q p H3 (s1.trans (s2.trans s3)) ⟨h3,d0,by show zbj x k _<=1000000;omega,by show 1<=1+zbj x (k+2) _;omega,by show 1+zbj x (k+2) _<=12;omega⟩
def zcb:FnScope ["_law_claim","_law_turn_here","_law_number","_law_weight_here","_law_speed","_law_came","_law_begin"] pl31 (zac zgc):=fsc
include T in
theorem zlr(D:Dfn K mg "_law_heft" zgc pl31 f fd):Cal P w K mg bf "_law_heft" 1 pl31 (zrf K):=by
 refine D.cal (D.F.ok zcb (by walk_at "z") (λc A o s H vs Q E hr h=>?_))
 obtain⟨p,c,t,rfl,hc,ok,q⟩:=h
 refine⟨_,(zab (ziD (pv 0) (zeo rfl (zaJ (zaH (i:=2) zcb.nd rfl (Or.inl rfl)) (zaJ (zaH (i:=3) zcb.nd rfl (Or.inl rfl)) (zaJ (zaH (i:=4) zcb.nd rfl (Or.inl rfl)) (zaJ (zaH (i:=5) zcb.nd rfl (Or.inl rfl)) zcu))))))
  (zab (zap (i:=6) zcb.nd rfl (Or.inl rfl) (zaz zbJ (zaq zal (pv 3) zae (λ_ _=>rfl)) (zaz zcn zae (zaq zal (pv 3) zae (λ_ _=>rfl)))))
  (zag (zah (zaz ay (pv 6) (zaz zbJ (zaz zbJ (zaq zal (pv 4) zae (λ_ _=>rfl)) (zaz zcn zae (zaq zal (pv 4) zae (λ_ _=>rfl)))) (zaz zgI (pv 1) (pv 5)))))))),?_⟩
 obtain⟨pw,ps,e1,e2,e3⟩:=id hc.ex
 have hw:SqT K H pw [.int c.wt,.int c.wb]:=SqT.of e2
 have hs:SqT K H ps [.int c.st,.int c.sb]:=SqT.of e3
 have w2:=ok.w2
 have w3:=ok.w3
 have b2:=ok.s2
 have b3:=ok.s3
 have d1:27720 / c.wb<=27720:=rD _ (by omega)
 have d2:0<=27720 / c.wb:=qi (by omega) (by omega)
 have d3:27720 / c.sb<=27720:=rD _ (by omega)
 have d4:0<=27720 / c.sb:=qi (by omega) (by omega)
 have d5:c.st*(27720 / c.sb)<=1000000*27720:=Int.mul_le_mul ok.s1 (by omega) d4 (by decide)
 have d6:0<=c.st*(27720 / c.sb):=qA ok.s0 d4
 refine⟨_,rfl,p,_,rfl,SqT.of e1,rfl,_,_,rfl,_,_,rfl,_,_,rfl,_,_,rfl,rfl,?_⟩
 refine⟨_,rfl,pw,_,_,_,rfl,rfl,hw,rfl,_,rfl,pw,_,_,_,rfl,rfl,hw,rfl,_,_,rfl,rfl,⟨w2,by omega⟩,_,_,rfl,rfl,.inr ⟨by omega,by omega⟩,?_⟩
 refine⟨_,rfl,_,rfl,ps,_,_,_,rfl,rfl,hs,rfl,_,rfl,ps,_,_,_,rfl,rfl,hs,rfl,_,_,rfl,rfl,⟨b2,by omega⟩,_,_,rfl,rfl,.inr ⟨by omega,by omega⟩,_,rfl,_,rfl,_,_,rfl,rfl,_,_,rfl,rfl,.inl ⟨by omega,by omega⟩,_,_,rfl,rfl,?_⟩
 have e:c.wt*(27720 / c.wb)+c.st*(27720 / c.sb)*(t-c.came)=wM c t 27720:=by
  unfold wM
  rw[Int.mul_comm (t-c.came)]
 show Q (V.int (c.wt*(27720 / c.wb)+c.st*(27720 / c.sb)*(t-c.came))) H
 rw[e]
 exact q
def zgN:FnScope ["_law_claims","_law_turn_here","_law_keys"] pl32 (zac zeE):=fsc
include T in
theorem zkD(D:Dfn K mg "_law_order" zeE pl32 f fd)(zgA:Cal P w K mg bf "_law_heft" 1 pl31 (zrf K)):Cal P w K mg bf "_law_order" 2 pl32 (zrg K):=by
 refine D.cal (D.F.ok zgN (by walk_at "z") (λc A o s H vs Q E hr h=>?_))
 obtain⟨l,ps,t,rfl,hC,G,pl,q⟩:=h
 refine⟨_,(zab (zeu (i:=2) (N:=pl31) (js:=[1]) zgN.nd rfl rfl rfl cpo (zaK (pv 0)) (λ_ _ _ _ _=>zbG) (λ_ _ _ _ _=>(zaM (zaa (zaz zgI zae (zaj zgA hr.o rfl (zaa (pv 0) (zaa (pv 1) zaf)))) (zaa (zaq (r:=rIxT K) zal (pv 0) zae (λ_ _=>rfl)) (zaa (zaq (r:=rIxT K) zal (pv 0) zae (λ_ _=>rfl)) zaf))))))
  (zag (zah (zaZ (N:=["_law_key"]) (js:=[]) rfl cpo (zaK (zay zmH rfl T.zjh zhv (zaa (pv 2) zaf))) (λ_ _ _ _ _=>zbG) (λ_ _ _ _ _=>(zaq (r:=rIxT K) zal (pv 0) zae (λ_ _=>rfl))))))),?_⟩
 have ml:(ps.map λq=>V.ref q.1).length=ps.length:=tq _
 have hM:∀c∈ps.map (·.2),c.wb∣27720/\c.sb∣27720:=λc hc=>by
  have o:=G.ok c hc
  exact⟨zhy o.w2 o.w3,zhy o.s2 o.s3⟩
 refine⟨_,rfl,l,rfl,⟨_,SqL.of hC.at_⟩,?_⟩
 refine zfc (xs:=ps.map λq=>V.ref q.1) (tak ps λ_=>true) (itl ps λq=>(kM q.2 t 27720).map V.int) (SqL.of hC.at_) ?_ ?_ (zaC (by rw[ml];omega)) (λD1 H1 bs s1 nD1 hD1 eb hb=>?_)
 ·intro j x Hh Q' hxj sh q'
  have z:=q' Hh (Same.refl _)
  unfold tak at z
  rw[getElem?_map]at hxj
  cases ek:ps[j]? with
  | none=>rw[ek]at hxj;cases hxj
  | some k=>
    rw[ek]at z
    exact z
 ·intro i x Hh Q' hx _ sh q'
  obtain⟨y,e,hx⟩:=gmp hx
  cases hx
  have hy:=tz e
  have hcy:=(hC.cl y hy).same sh
  obtain⟨pw,pz,z1,_,_⟩:=id hcy.ex
  refine⟨_,rfl,_,rfl,y.1,y.2,t,rfl,hcy,G.ok y.2 (mem_map.mpr ⟨y,hy,rfl⟩),?_⟩
  refine⟨_,_,rfl,rfl,_,rfl,y.1,_,_,_,rfl,rfl,SqT.of z1,rfl,_,rfl,y.1,_,_,_,rfl,rfl,SqT.of z1,rfl,si3,λr H4 s4 n4 h4=>q' r H4 s4 ?_⟩
  rw[h4]
  unfold itl
  rw[e]
  show some (HO.tup [V.int (0-wM y.2 t 27720),_,_])=some (HO.tup [V.int (-wM y.2 t 27720),_,_])
  rw[Int.zero_sub]
 rw[ml,zev,zcN]at eb
 have lb:bs.length=ps.length:=by
  have:=tS List.length eb
  rw[tq,tq]at this
  exact this
 have mb:(bs.map λb=>V.ref b.1).length=(ps.map (·.2)).length:=by rw[tq,tq,lb]
 have M0:(0:Int)<27720:=by decide
 have at_b:∀(i:Nat) b,bs[i]?=some b->H1 b.1=some (.tup ((zdN (ps.map (·.2)) t 27720 i).map V.int)):=λi b hi=>by
  rw[hb b (tz hi)]
  have:=tS (·[i]?) eb
  simp only[getElem?_map,hi,Option.map_some]at this
  unfold zdN
  cases ep:ps[i]? with
  | none=>rw[ep]at this;cases this
  | some y=>
    rw[ep]at this
    rw[getElem?_map,ep,tF this]
    rfl
 refine⟨_,rfl,D1,_,zdN (ps.map (·.2)) t 27720,3,rfl,SqL.of hD1,by rw[mb,tq];omega,zqG _ t 27720,by decide,by rw[mb];exact zqH G M0 hM,λi v hv=>?_,λD2 H2 p s2 n2 h2 hp hs=>?_⟩
 ·obtain⟨b,e,hv⟩:=gmp hv
  cases hv
  exact⟨b.1,rfl,at_b i b e⟩
 rw[mb]at hp
 have d:Addr × Cl:=(0,⟨0,0,1,0,1,0⟩)
 have hp2:p.Perm (List.range ps.length):=by simpa using hp
 have lt:∀i∈p,i<ps.length:=λi hi=>mem_range.mp (hp2.mem_iff.mp hi)
 have srt:=zlZ G M0 hM hp d hs
 have prm:((p.map λi=>ps.getD i d).map (·.2)).Perm (ps.map (·.2)):=(eL d ps hp2).map _
 refine⟨D2,rfl,⟨_,SqL.of h2⟩,?_⟩
 have lp:(p.map λi=>(bs.map λb=>V.ref b.1).getD i .non).length=p.length:=tq _
 have pl2:p.length=ps.length:=by simpa using hp2.length_eq
 refine aC (xs:=p.map λi=>(bs.map λb=>V.ref b.1).getD i .non) (λ_=>true) (itm p λi=>V.int (ps.getD i d).2.n) (SqL.of h2) (λi x Hh Q' hx sh q'=>q' Hh (Same.refl _)) ?_ (zaC (by rw[lp];omega)) (λD H3 s3 nD hD=>?_)
 ·intro i x Hh Q' hx _ sh q'
  rw[getElem?_map]at hx
  cases e:p[i]? with
  | none=>rw[e]at hx;cases hx
  | some j=>
    rw[e]at hx
    have jl:=lt j (tz e)
    have jb:bs[j]?=some (bs[j]'(by omega)):=tm (by omega)
    have hx:V.ref (bs[j]'(by omega)).1=x:=by
     have hx:(bs.map λb=>V.ref b.1).getD j .non=x:=tF hx
     rw[tK,getElem?_map,jb]at hx
     exact hx
    subst hx
    have tj:=sh _ _ (s2 _ _ (at_b j _ jb))
    have kj:zdN (ps.map (·.2)) t 27720 j=kM (ps.getD j d).2 t 27720:=by
     unfold zdN
     rw[getElem?_map,tK,tm jl]
     rfl
    rw[kj]at tj
    refine⟨_,rfl,_,_,_,_,rfl,rfl,SqT.of tj,rfl,?_⟩
    have z:=q' Hh (Same.refl _)
    unfold itm at z
    rw[e]at z
    exact z
 rw[zbY,lp,zfK]at hD
 refine q D H3 (s1.trans (s2.trans s3)) (Same.free (s1.trans s2) nD) ?_
 rw[hD,<-zlV G prm srt,tW,tW,tW]
 rfl
inductive zms(K:am)(vs:List V)(H:Hp)(Q:VK)(_:XK):Prop
 | mk (l:Addr) (xs:List (Addr × Cl × Int)) (h t:Int) (_:vs=[.ref l,.int h,.int t]) (_:ChIn K H l xs) (_:0<=h) (_:∀p m D H' bs,Same H H'->H' p=some (.tup [.ref m,.ref D])->H m=none->H D=none->m≠D->H' m=some (.lst ((zcV t h.toNat xs).map V.int))->IsBh H' D (behL H (zcV t h.toNat xs) xs) bs->Q (.ref p) H')
def zdG:FnScope ["_law_rows","_law_hands","_law_turn_here","_law_there","_law_numbers","_law_behind"] pl33 (zac zgd):=fsc
include T in
theorem zls(D:Dfn K mg "_law_turn" zgd pl33 f fd)(cr:Cal P w K mg bf "_law_order" 2 pl32 (zrg K)):Cal P w K mg bf "_law_turn" 3 pl33 (zms K):=by
 refine D.cal (D.F.ok zdG (by walk_at "z") (λc A o s H vs Q E hr h=>?_))
 obtain⟨l,xs,h,t,rfl,hx,h0,q⟩:=h
 refine⟨_,(zab (eP (i:=3) (nk:=2) (g:=(gTup K 2 (znk (zhf 0) (znk (zhf 1) gNil)))) (N:=["_law_claim","_law_left","_law_turn_here"]) (js:=[2]) zdG.nd rfl rfl rfl (CompScopeN.of rfl rfl rfl rfl rfl (by decide +kernel) rfl rfl rfl) (λ_ _ _ _ _ hn=>(zeo rfl (zaJ (hn 0 _ _ rfl (by decide)) (zaJ (hn 1 _ _ rfl (by decide)) zcu)))) (zaK (pv 0)) (λ_ _ _ _ _=>(zdb (PW.pt (zgH (zas zjO (zaq (r:=rIxT K) zal (pv 0) zae (λ_ _=>rfl)) (pv 2) (zaB _)) (zdQ (zas zes (pv 1) zae (zaB _))))))) (λ_ _ _ _ _=>(pv 0)))
  (zab (zap (i:=4) zdG.nd rfl (Or.inr rfl) (zdm bg (zaj cr hr.o rfl (zaa (pv 3) (zaa (pv 2) zaf))) zfF (zdU (pv 1))))
  (zab (eP (i:=5) (nk:=2) (g:=(gTup K 2 (znk (zhf 0) (znk (zhf 1) gNil)))) (N:=["_law_claim","_law_left","_law_numbers"]) (js:=[4]) zdG.nd rfl rfl rfl (CompScopeN.of rfl rfl rfl rfl rfl (by decide +kernel) rfl rfl rfl) (λ_ _ _ _ _ hn=>(zeo rfl (zaJ (hn 0 _ _ rfl (by decide)) (zaJ (hn 1 _ _ rfl (by decide)) zcu)))) (zaK (pv 0)) (λ_ _ _ _ _=>zbG) (λ_ _ _ _ _=>(zaM (zaa (pv 0) (zaa (zaz zgI (pv 1) (zbK zhh rfl T.zqc zlO (zaa (zcv (zqJ (K:=K) rfl) (zaq (r:=rIxT K) zal (pv 0) zae (λ_ _=>rfl)) (pv 2) (by with_unfolding_all rfl)) zaf))) zaf)))))
  (zag (zah (zaM (zaa (pv 4) (zaa (zaZ (N:=["_law_row"]) (js:=[]) rfl cpo (zaK (pv 5)) (λ_ _ _ _ _=>(zdb (zas zes (zaq (r:=rIxT K) zal (pv 0) zae (λ_ _=>rfl)) zae (zaB _)))) (λ_ _ _ _ _=>(pv 0))) zaf)))))))),?_⟩
 refine⟨_,rfl,l,rfl,⟨_,SqL.of hx.chs.at_⟩,?_⟩
 have ml:(xs.map λq=>V.ref q.1).length=xs.length:=tq _
 have fl:∀ns:List Int,(ns.map V.int).all zcc=true:=λns=>all_eq_true.mpr λy hy=>by obtain⟨i,_,rfl⟩:=mem_map.mp hy;rfl
 refine zmJ (xs:=xs.map λq=>V.ref q.1) (sts 2 xs λk=>[.ref (kcOf H k.1),.int k.2.2]) (tak xs (zew t)) (itm xs λk=>V.ref (kcOf H k.1)) (SqL.of hx.chs.at_) (zoc λ_=>rfl) ?_ ?_ ?_ (zaC (by rw[ml];exact tM hx.len (by decide))) (λD1 H2 s2 nD1 hD1=>?_)
 ·intro j x Hh os R' hxj sh ol r'
  obtain⟨o1,o2,rfl⟩:=len2 ol
  obtain⟨k,ek,hxj⟩:=gmp hxj
  cases hxj
  unfold sts at r'
  rw[ek]at r'
  exact⟨k.1,_,rfl,SqT.of (sh _ _ (hx.chs.ch k (tz ek)).kc.1),rfl,_,_,rfl,_,_,rfl,rfl,r'⟩
 ·intro i x Hh Q' hi sh q'
  obtain⟨k,e,hi⟩:=gmp hi
  cases hi
  have z:=q' Hh (Same.refl _)
  unfold tak zew at z
  unfold sts
  rw[e]at z ⊢
  have z:Q' (decide (0<k.2.2)&&decide (k.2.1.came<=t)) Hh:=z
  obtain⟨k1,k2⟩:=(hx.chs.ch k (tz e)).kc
  obtain⟨_,_,c1,_,_⟩:=id k2.ex
  rw[Bool.and_comm]at z
  refine⟨_,rfl,_,_,_,_,rfl,rfl,SqT.of (sh _ _ c1),rfl,_,rfl,_,_,rfl,rfl,_,rfl,?_⟩
  by_cases c1':k.2.1.came<=t
  ·refine iteD c1' ?_
   rw[decide_eq_true c1',rp]at z
   exact⟨_,rfl,_,_,rfl,rfl,_,rfl,z⟩
  ·refine zfH c1' ?_
   rw[tL c1',rR]at z
   exact z
 ·intro i x Hh Q' hi _ sh q'
  obtain⟨k,e,hi⟩:=gmp hi
  cases hi
  have z:=q' Hh (Same.refl _)
  unfold itm at z
  unfold sts
  rw[e]at z ⊢
  exact⟨_,rfl,z⟩
 rw[ml,zbZ,<-zhA]at hD1
 have hC:IsCs K H2 D1 (zdd H t xs):=⟨hD1,λc hc=>(eR hx.chs t hc).same s2⟩
 have G:Good ((zdd H t xs).map (·.2)):=by rw[zfe];exact hx.good t
 refine⟨_,rfl,_,rfl,D1,zdd H t xs,t,rfl,hC,G,tM (ziQ _ _ _) hx.len,λm3 H3 s3 n3 h3=>?_⟩
 rw[zfe]at h3
 refine⟨_,rfl,_,rfl,m3,_,rfl,SqL.of h3,λm H4 s4 nm h4=>?_⟩
 have hm:H4 m=some (.lst ((zcV t h.toNat xs).map V.int)):=by
  rw[h4]
  unfold zcV cutV
  rw[HT.sIx_none,show h=((h.toNat:Nat):Int) by omega,HT.sIx_nat,tq,drop_zero,Nat.sub_zero,map_take,pf]
  congr 2
  rw[Nat.min_def]
  split
  ·rfl
  ·rw[sv (by rw[tq];omega),sv (by rw[tq];omega)]
 have s04:=s2.trans (s3.trans s4)
 have nm0:H m=none:=Same.free (s2.trans s3) nm
 have eB:behL H (zcV t h.toNat xs) xs=behL H4 (zcV t h.toNat xs) xs:=(eQ hx.chs s04 _).symm
 rw[eB]at q
 generalize zcV t h.toNat xs=ws at hm q
 clear eB h4 hC G hD1
 have hx:=hx.same s04
 refine⟨_,rfl,l,rfl,⟨_,SqL.of hx.chs.at_⟩,?_⟩
 refine zmK (xs:=xs.map λq=>V.ref q.1) (sts 2 xs λk=>[.ref (kcOf H4 k.1),.int k.2.2]) (tak xs λ_=>true) (itl xs λk=>[V.ref (kcOf H4 k.1),V.int (zbu ws k.2)]) (SqL.of hx.chs.at_) (zoc λ_=>rfl) ?_ ?_ ?_ (zaC (by rw[ml];exact tM hx.len (by decide))) (λD H5 bs s5 nD hD eb hb=>?_)
 ·intro j x Hh os R' hxj sh ol r'
  obtain⟨o1,o2,rfl⟩:=len2 ol
  obtain⟨k,ek,hxj⟩:=gmp hxj
  cases hxj
  unfold sts at r'
  rw[ek]at r'
  exact⟨k.1,_,rfl,SqT.of (sh _ _ (hx.chs.ch k (tz ek)).kc.1),rfl,_,_,rfl,_,_,rfl,rfl,r'⟩
 ·intro i x Hh Q' hi sh q'
  have z:=q' Hh (Same.refl _)
  unfold tak at z
  rw[getElem?_map]at hi
  cases e:xs[i]? with
  | none=>rw[e]at hi;cases hi
  | some k=>
    rw[e]at z
    exact z
 ·intro i x Hh Q' hi _ sh q'
  obtain⟨k,e,hi⟩:=gmp hi
  cases hi
  obtain⟨k1,k2⟩:=(hx.chs.ch k (tz e)).kc
  obtain⟨_,_,c1,_,_⟩:=id k2.ex
  unfold sts
  rw[e]
  refine⟨_,rfl,_,rfl,_,rfl,_,_,_,_,rfl,rfl,SqT.of (sh _ _ c1),rfl,_,rfl,m,_,rfl,.inl (SqL.of (sh _ _ hm)),rfl,fl _,.inr ⟨_,rfl,_,_,rfl,rfl,si2,λb H3 s3 n3 h3=>q' b H3 s3 ?_⟩⟩
  rw[h3]
  unfold itl
  rw[e]
  have ei:(if false=true then !inV (.int k.2.1.n) (ws.map V.int)else inV (.int k.2.1.n) (ws.map V.int))=decide (k.2.1.n∈ws):=by
   rw[if_neg tE]
   exact bi
  have en:k.2.2-(if(if false=true then !inV (.int k.2.1.n) (ws.map V.int)else inV (.int k.2.1.n) (ws.map V.int))=true then 1 else 0)=zbu ws k.2:=by
   rw[ei]
   unfold zbu
   by_cases c:k.2.1.n∈ws
   ·rw[decide_eq_true c,if_pos rfl,if_pos c]
   ·rw[tL c,if_neg tE,if_neg c]
    omega
  exact tS (λz=>some (HO.tup [V.ref (kcOf H4 k.1),V.int z])) en
 rw[ml,zev,zcN]at eb
 have lb:bs.length=xs.length:=by
  have:=tS List.length eb
  rw[tq,tq]at this
  exact this
 have mb:(bs.map λb=>V.ref b.1).length=bs.length:=tq _
 refine⟨_,rfl,_,rfl,D,rfl,⟨_,SqL.of hD⟩,?_⟩
 have parts:∀b,b∈bs->∃(a:Addr)(i:Int),b.2=[.ref a,.int i]:=λb hb'=>by
  have:b.2∈bs.map (·.2):=mem_map.mpr ⟨b,hb',rfl⟩
  rw[eb]at this
  obtain⟨k,_,e⟩:=mem_map.mp this
  exact⟨_,_,e.symm⟩
 refine aC (xs:=bs.map λb=>V.ref b.1) (tak bs λb=>plV b.2) (itm bs λb=>V.ref b.1) (SqL.of hD) ?_ ?_ (zaC (by rw[mb,lb];exact tM hx.len (by decide))) (λD6 H6 s6 nD6 hD6=>?_)
 ·intro i x Hh Q' hi sh q'
  obtain⟨b,e,hi⟩:=gmp hi
  cases hi
  have hbm:=tz e
  have z:=q' Hh (Same.refl _)
  unfold tak at z
  rw[e]at z
  obtain⟨a,n,e2⟩:=parts b hbm
  have z:Q' (plV b.2) Hh:=z
  rw[e2]at z
  have g:=sh _ _ (hb b hbm)
  rw[e2]at g
  exact⟨_,rfl,b.1,_,_,_,rfl,rfl,SqT.of g,rfl,_,_,rfl,rfl,_,rfl,z⟩
 ·intro i x Hh Q' hi _ sh q'
  obtain⟨b,e,hi⟩:=gmp hi
  cases hi
  have z:=q' Hh (Same.refl _)
  unfold itm at z
  rw[e]at z
  exact⟨_,rfl,z⟩
 rw[mb,zbZ]at hD6
 refine⟨si2,λp H7 s7 n7 h7=>?_⟩
 have B:IsBh H6 D6 (behL H4 ws xs) _:=⟨hD6,λb hb'=>s6 _ _ (hb b (mem_filter.mp hb').1),ztc eb⟩
 have nD6':H4 D6=none:=Same.free s5 nD6
 have mD:m≠D6:=λz=>by rw[<-z,hm]at nD6';cases nD6'
 exact q p m D6 H7 _ (s04.trans (s5.trans (s6.trans s7))) h7 nm0 (Same.free s04 nD6') mD (s7 _ _ (s6 _ _ (s5 _ _ hm))) (B.same s7)
def zcH:FnScope ["_law_rows","_law_found","_law_turn_here","_law_numbers","_law_number"] ["_law_rows"] (zac zge):=fsc
include T in
theorem zlt(D:Dfn K mg "_law_ends" zge ["_law_rows"] f fd):Cal P w K mg bf "_law_ends" 1 ["_law_rows"] (ziX K):=by
 refine D.cal (D.F.ok zcH (by walk_at "z") (λc A o s H vs Q E hr h=>?_))
 obtain⟨D,rs,rfl,R,l40,l14,q⟩:=h
 refine⟨_,(zab (zap (i:=1) zcH.nd rfl (Or.inl rfl) zfd)
  (zab (zcJ tY rfl (zaK (pv 0)) (zeo rfl (zaJ (zaH (i:=2) zcH.nd rfl (Or.inl rfl)) (zaJ (zaH (i:=3) zcH.nd rfl (Or.inl rfl)) zcu))) (zag (zcJ tY rfl (zaK (pv 3)) (zaH (i:=4) zcH.nd rfl (Or.inl rfl)) (zag (zdT hr.units1 (pv 1) (pv 4) (pv 2) rfl)))))
  (zag (zah (pv 1))))),?_⟩
 refine λd H1 s1 n1 h1=>?_
 have mr:(rs.map λr=>V.ref r.1).length=rs.length:=tq _
 refine⟨_,rfl,D,rfl,⟨_,SqL.of (s1 _ _ R.at_)⟩,?_⟩
 refine zcK (K:=K) (a:=D) (xs:=rs.map λr=>V.ref r.1) (λi σ H'=>∃v2 v3 v4:Option V,σ=[some (.ref D),some (.ref d),v2,v3,v4]/\Same H H'/\H' d=some (.dK (dI (zbr (aw (rs.take i)) []))))
  ⟨_,_,_,rfl,s1,h1⟩ (λi σ H' _ ⟨_,_,_,_,s,_⟩=>SqL.of (s _ _ R.at_)) ?_ ?_
 ·rintro i x σ H2 hi ⟨v2,v3,v4,rfl,s2,h2⟩
  obtain⟨r,e,hi⟩:=gmp hi
  cases hi
  have hr:=tz e
  have er:aw (rs.take (i+1))=aw (rs.take i)++[(r.2.2.1,r.2.2.2)]:=by
   rw[zjo e]
   exact tV
  have mw:(r.2.2.2.map V.int).length=r.2.2.2.length:=tq _
  refine⟨r.1,_,rfl,SqT.of (s2 _ _ (R.row r hr)),rfl,_,_,rfl,_,_,rfl,rfl,?_⟩
  refine⟨_,rfl,r.2.1,rfl,⟨_,SqL.of (s2 _ _ (R.num r hr))⟩,?_⟩
  refine zcK (K:=K) (a:=r.2.1) (xs:=r.2.2.2.map V.int) (λj σ H'=>∃v4:Option V,σ=[some (.ref D),some (.ref d),some (.int r.2.2.1),some (.ref r.2.1),v4]/\Same H H'/\H' d=some (.dK (dI (zdO r.2.2.1 (r.2.2.2.take j) (zbr (aw (rs.take i)) [])))))
   ⟨_,rfl,s2,h2⟩ (λj σ H' _ ⟨_,_,s,_⟩=>SqL.of (s _ _ (R.num r hr))) ?_ ?_
  ·rintro j y σ H3 hj ⟨v4,rfl,s3,h3⟩
   obtain⟨n,ej,hj⟩:=gmp hj
   cases hj
   refine⟨_,rfl,_,rfl,_,rfl,d,_,rfl,DPut.k (k:=.inl n) h3 (zha l40 l14 (l40 r hr)),?_⟩
   refine⟨_,rfl,s3.but n1 (But.upd _ _ _),?_⟩
   rw[zan,zoj,zjo ej,zfM]
  ·rintro σ H3 ⟨v4,rfl,s3,h3⟩
   rw[mw,r8]at h3
   refine⟨_,_,_,rfl,s3,?_⟩
   rw[h3,er,zfN]
 ·rintro σ H2 ⟨v2,v3,v4,rfl,s2,h2⟩
  rw[mr,r8]at h2
  exact⟨_,rfl,q d H2 s2 n1 h2⟩
inductive Dqs(K:am)(H:Hp)(n:Nat):List V->List V->Prop where
 | nil:Dqs K H n [] []
 | cons {x y:V} {xs ys:List V}:Deq K H n x y->Dqs K H n xs ys->Dqs K H n (x::xs) (y::ys)
theorem zcQ{H:Hp}{n:Nat}:∀{xs ys:List V},Dqs K H n xs ys->xs.length=ys.length/\∀(j:Nat) u v,xs[j]?=some u->ys[j]?=some v->Deq K H n u v
 | _,_,.nil=>⟨rfl,λj u v h _=>by simp at h⟩
 | _,_,.cons d r=>⟨by rw[length_cons,length_cons,(zcQ r).1],λj u v h h'=>by
   cases j with
   | zero=>
     cases h
     cases h'
     exact d
   | succ j=>exact(zcQ r).2 j u v h h'⟩
theorem Dqs.ints{H:Hp}{n:Nat}:∀ns:List Int,Dqs K H n (ns.map V.int) (ns.map V.int)
 | []=>.nil
 | i::ns=>.cons (Deq.int n i) (Dqs.ints ns)
def Dqs.tup{H:Hp}{n:Nat}{p p':Addr}{xs ys:List V}(h:H p=some (.tup xs))(h':H p'=some (.tup ys))(d:Dqs K H n xs ys):Deq K H (n+1) (.ref p) (.ref p'):=Deq.tup (SqT.of h) (SqT.of h') (zcQ d).1 (zcQ d).2
def Dqs.lst{H:Hp}{n:Nat}{p p':Addr}{xs ys:List V}(h:H p=some (.lst xs))(h':H p'=some (.lst ys))(d:Dqs K H n xs ys):Deq K H (n+1) (.ref p) (.ref p'):=Deq.lst (SqL.of h) (SqL.of h') (zcQ d).1 (zcQ d).2
def zsh{H:Hp}{p p' m m':Addr}{t:Int}{ns:List Int}(h:H p=some (.tup [.int t,.ref m]))(h':H p'=some (.tup [.int t,.ref m']))(g:H m=some (.lst (ns.map V.int)))(g':H m'=some (.lst (ns.map V.int))):zrL K 9 (.ref p) (.ref p') H:=
 have d:=zcQ (.cons (Deq.int 9 t) (.cons (Dqs.lst (K:=K) (n:=8) g g' (Dqs.ints ns)) .nil))
 ⟨p,p',_,_,rfl,rfl,.inl ⟨SqT.of h,SqT.of h'⟩,d.1,d.2⟩
theorem zrj{h:Nat}{b:Int}{c:Ch}{i:Nat}:∀{n:Nat},i<n->(runN h n b c).1[i]?=some (b+i,wkC (b+i) h (runN h i b c).2)
 | n+1,hi=>by
   rw[zbA]
   by_cases e:i<n
   ·rw[si (by rw[zfL];exact e)]
    exact zrj e
   ·have:i=n:=by omega
    subst this
    rw[t7 (by rw[zfL];omega),zfL,Nat.sub_self]
    rfl
inductive zjD(K:am)(vs:List V)(H:Hp)(Q:VK)(_:XK):Prop
 | mk (l r:Addr) (xs:List (Addr × Cl × Int)) (h b:Int) (rs:List (Addr × Addr × Int × List Int)) (N:Nat) (_:vs=[.ref l,.int h,.int b,.ref r]) (_:ChIn K H l xs) (_:0<h) (_:IsRun H r rs) (_:aw rs=(runN h.toNat N b (bhC [] (xs.map (·.2)))).1) (_:(runN h.toNat N b (bhC [] (xs.map (·.2)))).2=[]) (_:rs.length<=1481) (_:∀H',Same H H'->Q (.bl true) H')
def zbt:FnScope ["_law_chores","_law_hands","_law_begin","_law_rows","_law_left","_law_k","_law_row","_law_numbers"] pl34 (zac bJ):=fsc
include T in
theorem zjE(D:Dfn K mg "_law_walked" bJ pl34 f fd)(zgB:Cal P w K mg bf "_law_turn" 3 pl33 (zms K)):Cal P w K mg bf "_law_walked" 4 pl34 (zjD K):=by
 refine D.cal (D.F.ok zbt (by walk_at "z") (λc A o s H vs Q E hr h=>?_))
 obtain⟨l,r,xs,h,b,rs,N,rfl,hI,h0,R,er,e0,l14,q⟩:=h
 refine⟨_,(zab (zeu (i:=4) (N:=["_law_chore"]) (js:=[]) zbt.nd rfl rfl rfl cpo (zaK (pv 0)) (λ_ _ _ _ _=>(zdb (zas zes (zaq (r:=rIxT K) zal (pv 0) zae (λ_ _=>rfl)) zae (zaB _)))) (λ_ _ _ _ _=>(pv 0)))
  (zab (zcJ tY rfl (znY rfl T.zhL (zaa (pv 3) zaf)) (zeo rfl (zaJ (zaH (i:=5) zbt.nd rfl (Or.inl rfl)) (zaJ (zaH (i:=6) zbt.nd rfl (Or.inl rfl)) zcu))) (zab (ziD (zaj zgB hr.o rfl (zaa (pv 4) (zaa (pv 1) (zaa (zaz ay (pv 2) (pv 5)) zaf)))) (zeo rfl (zaJ (zaH (i:=7) zbt.nd rfl (Or.inl rfl)) (zaJ (zaH (i:=4) zbt.nd rfl (Or.inl rfl)) zcu))))
  (zag (au (zas (zqB 9 hr.units9) (pv 6) (zaM (zaa (zaz ay (pv 2) (pv 5)) (zaa (pv 7) zaf))) (zaB _)) (zag (zah zdj)) zaw))))
  (zag (zah (zcv (zob hr.units0) (pv 4) (zaO zaf) (zaB _)))))),?_⟩
 have ml:(xs.map λq=>V.ref q.1).length=xs.length:=tq _
 refine⟨_,rfl,l,rfl,⟨_,SqL.of hI.chs.at_⟩,?_⟩
 refine aC (xs:=xs.map λq=>V.ref q.1) (tak xs λk=>decide (0<k.2.2)) (itm xs λk=>V.ref k.1) (SqL.of hI.chs.at_) ?_ ?_ (zaC (by rw[ml];exact tM hI.len (by decide))) (λD1 H1 s1 nD1 hD1=>?_)
 ·intro i x Hh Q' hi sh q'
  obtain⟨k,e,hi⟩:=gmp hi
  cases hi
  have z:=q' Hh (Same.refl _)
  unfold tak at z
  rw[e]at z
  obtain⟨k1,_⟩:=(hI.chs.ch k (tz e)).kc
  exact⟨_,rfl,k.1,_,_,_,rfl,rfl,SqT.of (sh _ _ k1),rfl,_,_,rfl,rfl,_,rfl,z⟩
 ·intro i x Hh Q' hi _ sh q'
  obtain⟨k,e,hi⟩:=gmp hi
  cases hi
  have z:=q' Hh (Same.refl _)
  unfold itm at z
  rw[e]at z
  exact⟨_,rfl,z⟩
 rw[ml,zbZ]at hD1
 have hI1:ChIn K H1 D1 (xs.filter λk=>decide (0<k.2.2)):=⟨⟨hD1,λq hq=>(hI.chs.ch q (mem_filter.mp hq).1).same s1⟩,tM (t6 _ _) hI.len,λq hq=>hI.ok q (mem_filter.mp hq).1,hI.nd.sublist (filter_sublist.map _)⟩
 have e2:(xs.filter λk=>decide (0<k.2.2)).map (·.2)=bhC [] (xs.map (·.2)):=by
  rw[bH,sP]
  rfl
 generalize hc0:bhC [] (xs.map (·.2))=c0 at e2
 rw[hc0]at er e0
 have R1:=R.same s1
 have mr:(rs.map λr=>V.ref r.1).length=rs.length:=tq _
 have lN:rs.length=N:=by
  have:=tS List.length er
  rw[tq,zfL]at this
  exact this
 refine⟨_,rfl,r,rfl,⟨_,SqL.of R1.at_⟩,?_⟩
 refine zlT (K:=K) (a:=r) (xs:=rs.map λr=>V.ref r.1) (λi σ H'=>∃(l':Addr)(xs':List (Addr × Cl × Int))(v5 v6 v7:Option V),σ=[some (.ref l),some (.int h),some (.int b),some (.ref r),some (.ref l'),v5,v6,v7]/\Same H H'/\ChIn K H' l' xs'/\xs'.map (·.2)=(runN h.toNat i b c0).2) ⟨D1,_,_,_,_,rfl,s1,hI1,e2⟩ (λi σ H' _ ⟨_,_,_,_,_,_,s,_⟩=>SqL.of (s _ _ R.at_)) ?_ ?_
 ·rintro i x σ H9 p5 H2 hi ⟨l',xs',v5,v6,v7,rfl,s9,hI9,ex⟩ s5 n5 h5
  have s2:=s9.trans s5
  have hI2:=hI9.same s5
  obtain⟨rw0,e,hi⟩:=gmp hi
  cases hi
  have hr':=tz e
  have ew:zcV (b+(i:Int)) h.toNat xs'=wkC (b+(i:Int)) h.toNat (runN h.toNat i b c0).2:=by rw[zoe,ex]
  have hrow:(rw0.2.2.1,rw0.2.2.2)=(b+(i:Int),wkC (b+(i:Int)) h.toNat (runN h.toNat i b c0).2):=by
   have a1:=tS (λl:List (Int × List Int)=>l[i]?) er
   have iN:i<N:=by rw[<-lN];exact(List.getElem?_eq_some_iff.mp e).1
   simp only[getElem?_map,e,Option.map_some]at a1
   rw[zrj iN]at a1
   exact tF a1
  refine⟨p5,_,rfl,SqT.of h5,rfl,_,_,rfl,_,_,rfl,rfl,?_⟩
  refine⟨_,rfl,_,rfl,_,rfl,_,rfl,_,_,rfl,rfl,l',xs',h,_,rfl,hI2,by omega,λp6 m6 D6 H6 bs6 s6 hp6 n6 nD6 mD6 h6 B6=>?_⟩
  refine⟨p6,_,rfl,SqT.of hp6,rfl,_,_,rfl,_,_,rfl,rfl,?_⟩
  obtain⟨hI6,e6⟩:=hI2.next s6 B6
  refine⟨_,rfl,_,rfl,_,rfl,_,_,rfl,rfl,_,rfl,si2,λp7 H7 s7 n7 h7=>⟨zsh (m':=m6) (t:=rw0.2.2.1) (ns:=rw0.2.2.2) ((s2.trans (s6.trans s7)) _ _ (R.row rw0 hr')) ?_ ((s2.trans (s6.trans s7)) _ _ (R.num rw0 hr')) ?_,_,rfl,iteF ⟨D6,_,_,_,_,rfl,s2.trans (s6.trans s7),hI6.same s7,?_⟩⟩⟩
  ·rw[h7,(Prod.mk.inj hrow).1]
  ·rw[s7 _ _ h6,ew,(Prod.mk.inj hrow).2]
  ·rw[e6,ex,zbA,ew]
 ·rintro σ H2 ⟨l',xs',v5,v6,v7,rfl,s2,hI2,ex⟩
  rw[mr,lN,e0]at ex
  have hx:xs'=[]:=List.map_eq_nil_iff.mp ex
  rw[hx]at hI2
  exact⟨_,rfl,si0,λl5 H5 s5 n5 h5=>⟨l',l5,_,rfl,rfl,SqL.of (s5 _ _ hI2.chs.at_),SqL.of h5,q H5 (s2.trans s5)⟩⟩
def ziu(L T:ak):List Int:=(T.map (·.1)).filter (zff L T)
theorem cu{L T:ak}(inL:∀p,p∈T->∃u,valI L p.1=some u){x:Int}:x∈ziu L T↔x∈zel L T:=by
 unfold ziu zel
 rw[mem_filter,mem_filter]
 refine⟨λh=>⟨?_,h.2⟩,λh=>⟨?_,h.2⟩⟩
 ·obtain⟨p,hp,e⟩:=mem_map.mp h.1
  obtain⟨u,hu⟩:=inL p hp
  rw[<-e]
  exact eX hu
 ·have h:=h.2
  unfold zff at h
  cases e:valI T x with
  | none=>rw[e]at h;cases h
  | some v=>exact eX e
theorem zph{ms ns:List Int}{M:Int}(p:ms.Perm ns)(w:ms.Pairwise (· <= ·))(h:M∈ns)(m:∀y,y∈ns->M<=y):∃r,ms=M::r:=by
 cases ms with
 | nil=>exact absurd (p.symm.mem_iff.mp h) not_mem_nil
 | cons a r=>
   have h1:=m a (p.mem_iff.mp tP)
   rcases mem_cons.mp (p.symm.mem_iff.mp h)with e | e
   ·exact⟨r,by rw[e]⟩
   ·have:=(pairwise_cons.mp w).1 M e
    exact⟨r,by rw[show a=M by omega]⟩
inductive zpi(K:am)(vs:List V)(H:Hp)(Q:VK)(_:XK):Prop
 | mk (l r d:Addr) (xs:List (Addr × Cl × Int)) (h b:Int) (rs:List (Addr × Addr × Int × List Int)) (N:Nat) (tl:ak) (_:vs=[.ref l,.int h,.int b,.ref r,.ref d]) (_:ChIn K H l xs) (_:0<h) (_:IsRun H r rs) (_:aw rs=(runN h.toNat N b (bhC [] (xs.map (·.2)))).1) (_:(runN h.toNat N b (bhC [] (xs.map (·.2)))).2=[]) (_:rs.length<=1481) (_:(∀r,r∈rs->r.2.2.2.length<=40)) (_:H d=some (.dK (dI tl))) (_:tl.length<=40) (_:(∀p,p∈tl->∃u,valI (zbr (aw rs) []) p.1=some u)) (_:zel (zbr (aw rs) []) tl=[]) (_:∀H',But d H H'->Q (.bl true) H')
def fb:FnScope ["_law_chores","_law_hands","_law_begin","_law_rows","_law_told","_law_ends_here"] pl35 (zac zgf):=fsc
include T in
theorem zlu(D:Dfn K mg "_law_kept" zgf pl35 f fd)(zct:Cal P w K mg bf "_law_ends" 1 ["_law_rows"] (ziX K))(zbI:Cal P w K mg bf "_law_walked" 4 pl34 (zjD K)):Cal P w K mg bf "_law_kept" 5 pl35 (zpi K):=by
 refine D.cal (D.F.ok fb (by walk_at "z") (λc A o s H vs Q E hr h=>?_))
 obtain⟨l,r,d,xs,h,b,rs,N,tl,rfl,hI,h0,R,er,e0,l14,l40,hd,tl9,inL,lt,q⟩:=h
 refine⟨_,(zab (au (zbl (av (zaj zbI hr.o rfl (pai (zad (pv 0) (zad (pv 1) (zad (pv 2) (zad (pv 3) zaL)))))))) (zag (zah zdj)) zaw)
  (zab (zap (i:=5) fb.nd rfl (Or.inr rfl) (zaj zct hr.o rfl (zaa (pv 3) zaf)))
  (zag (zah (zcv (zob hr.units0) (zaZ (N:=["_law_k","_law_told","_law_ends_here"]) (js:=[4,5]) rfl cpo (zja (pv 4)) (λ_ _ _ _ _=>(zdb (zas zes (zaN hr.units1 (pv 2) (pv 0) (λ_ _=>rfl)) (zaN hr.units1 (pv 1) (pv 0) (λ_ _=>rfl)) (zaB _)))) (λ_ _ _ _ _=>(pv 0))) (zaO zaf) (zaB _)))))),?_⟩
 refine⟨_,rfl,_,rfl,_,rfl,_,rfl,l,r,xs,h,b,rs,N,rfl,hI,h0,R,er,e0,l14,λH1 s1=>⟨_,rfl,iteF ?_⟩⟩
 refine⟨_,rfl,r,rs,rfl,R.same s1,l40,l14,λde H2 s2 nde hE=>?_⟩
 generalize zbr (aw rs) []=L at hE inL lt
 have hd2:=(s1.trans s2) _ _ hd
 refine⟨_,rfl,d,_,rfl,.inl hd2,λob H3 k3 h3=>?_⟩
 have hE3:=k3 _ _ (λz=>by have:=s1 _ _ hd;rw[<-z,nde]at this;cases this) hE
 refine zhC (tak tl λp=>zff L tl p.1) (itm tl λp=>V.int p.1) h3 ?_ ?_ (by rw[ziR];exact rc tl9 (by decide)) (λD4 H4 s4 nD4 hD4=>?_)
 ·intro i kv Hh Q' hi sh q'
  unfold dI at hi
  obtain⟨p,e,hi⟩:=gmp hi
  cases hi
  have z:=q' Hh (Same.refl _)
  unfold tak at z
  rw[e]at z
  have z:Q' (zff L tl p.1) Hh:=z
  unfold zff at z
  obtain⟨v,ev⟩:=bq (tz e)
  obtain⟨u,hu⟩:=inL p (tz e)
  rw[ev,hu]at z
  have g1:=zdK (.inl (sh _ _ hE3)) p.1
  have g2:=zdK (.inr ⟨ob,sh _ _ h3⟩) p.1
  rw[hu]at g1
  rw[ev]at g2
  exact⟨_,rfl,_,rfl,de,_,rfl,g1,_,rfl,_,rfl,d,_,rfl,g2,_,_,rfl,rfl,_,rfl,z⟩
 ·intro i kv Hh Q' hi _ sh q'
  unfold dI at hi
  obtain⟨p,e,hi⟩:=gmp hi
  cases hi
  have z:=q' Hh (Same.refl _)
  unfold itm at z
  rw[e]at z
  exact⟨_,rfl,z⟩
 rw[ziR,zbZ]at hD4
 have hD4:H4 D4=some (.lst ((ziu L tl).map V.int)):=by
  rw[hD4]
  unfold ziu
  rw[sP,tW]
  rfl
 have em:ziu L tl=[]:=List.eq_nil_iff_forall_not_mem.mpr λx hx=>by
  have:=(cu inL).mp hx
  rw[lt]at this
  cases this
 rw[em]at hD4
 exact⟨si0,λl5 H5 s5 n5 h5=>⟨D4,l5,_,rfl,rfl,SqL.of (s5 _ _ hD4),SqL.of h5,q H5 ((s1.trans s2).toBut.trans (k3.trans (s4.trans s5).toBut))⟩⟩
inductive zmt(K:am)(cL:Addr)(vs:List V)(H:Hp)(Q:VK)(_:XK):Prop
 | mk (g l d:Addr) (xs:List (Addr × Cl × Int)) (h b:Int) (tl:ak) (_:vs=[.ref g,.ref l,.int h,.int b,.ref d]) (_:ChIn K H l xs) (_:0<h) (_:LateV cL h.toNat b (xs.map (·.2)) tl H g) (_:H d=some (.dK (dI tl))) (_:tl.length<=40) (_:(∀N,(runN h.toNat N b (bhC [] (xs.map (·.2)))).2=[]->∀p,p∈tl->∃u,valI (zbr (runN h.toNat N b (bhC [] (xs.map (·.2)))).1 []) p.1=some u)) (_:∀H',But d H H'->Q (.bl true) H')
def cw:FnScope ["_law_verdict","_law_chores","_law_hands","_law_begin","_law_told","_law_ends_here","_law_late"] pl36 (zac zdr):=fsc
include T in
theorem ziv(D:Dfn K mg "_law_is_late" zdr pl36 f fd)(zct:Cal P w K mg bf "_law_ends" 1 ["_law_rows"] (ziX K))(zbI:Cal P w K mg bf "_law_walked" 4 pl34 (zjD K)):Cal P w K mg bf "_law_is_late" 5 pl36 (zmt K Ag):=by
 refine D.cal (D.F.ok cw (by walk_at "z") (λc A o s H vs Q E hr h=>?_))
 obtain⟨g,l,d,xs,h,b,tl,rfl,hI,h0,lv,hd,tl9,inL,q⟩:=h
 refine⟨_,(zab (au (zbl (av (zaj zbI hr.o rfl (pai (zad (pv 1) (zad (pv 2) (zad (pv 3) (zad (zai (pv 0) rfl) zaL)))))))) (zag (zah zdj)) zaw)
  (zab (zap (i:=5) cw.nd rfl (Or.inr rfl) (zaj zct hr.o rfl (zaa (zai (pv 0) rfl) zaf)))
  (zab (zap (i:=6) cw.nd rfl (Or.inl rfl) (zay zmL rfl T.zjh zhv (zaa (zaZ (N:=["_law_k","_law_told","_law_ends_here"]) (js:=[4,5]) rfl cpo (zja (pv 4)) (λ_ _ _ _ _=>(zdb (zas zes (zaN hr.units1 (pv 2) (pv 0) (λ_ _=>rfl)) (zaN hr.units1 (pv 1) (pv 0) (λ_ _=>rfl)) (zaB _)))) (λ_ _ _ _ _=>(pv 0))) zaf)))
  (zab (au (PW.pt (zjM (zas (zob hr.units0) (pv 6) (zaO zaf) (zaB _)) (zhe (zas znq (zaq zbC (pv 6) zae (λ_ _=>rfl)) (zai (pv 0) rfl) (zaB _))))) (zag (zah zdj)) zaw)
  (zag (zah (ziC (zcv zdk (zaN hr.units1 (pv 4) (zaq zbC (pv 6) zae (λ_ _=>rfl)) (λ_ _=>rfl)) (zai (pv 0) rfl) (zaB _)) (ziB (zcv zdk (zaN hr.units1 (pv 5) (zaq zbC (pv 6) zae (λ_ _=>rfl)) (λ_ _=>rfl)) (zai (pv 0) rfl) (zaB _)))))))))),?_⟩
 obtain⟨N,M,dd,u,e0,hM,hmin,ev,eu,lt⟩:=lv.ex
 obtain⟨gdx,r,rs,hg,R,er,l40,l14⟩:=lt.ex
 have O:=T.DA
 refine⟨_,rfl,_,rfl,_,rfl,_,rfl,g,_,gdx,_,_,rfl,hg,O.cl,T.BN,rfl,l,r,xs,h,b,rs,N,rfl,hI,h0,R,er,e0,l14,λH1 s1=>⟨_,rfl,iteF ?_⟩⟩
 refine⟨_,rfl,g,_,gdx,_,_,rfl,s1 _ _ hg,O.cl,T.BN,rfl,r,rs,rfl,R.same s1,l40,l14,λde H2 s2 nde hE=>?_⟩
 have inL:=inL N e0
 rw[<-er]at inL hM hmin eu
 generalize zbr (aw rs) []=L at hE inL hM hmin eu
 have hd2:=(s1.trans s2) _ _ hd
 refine⟨_,rfl,d,_,rfl,.inl hd2,λob H3 k3 h3=>?_⟩
 have hE3:=k3 _ _ (λz=>by have:=s1 _ _ hd;rw[<-z,nde]at this;cases this) hE
 refine zhC (tak tl λp=>zff L tl p.1) (itm tl λp=>V.int p.1) h3 ?_ ?_ (by rw[ziR];exact rc tl9 (by decide)) (λD4 H4 s4 nD4 hD4=>?_)
 ·intro i kv Hh Q' hi sh q'
  unfold dI at hi
  obtain⟨p,e,hi⟩:=gmp hi
  cases hi
  have z:=q' Hh (Same.refl _)
  unfold tak at z
  rw[e]at z
  have z:Q' (zff L tl p.1) Hh:=z
  unfold zff at z
  obtain⟨v,ev⟩:=bq (tz e)
  obtain⟨u,hu⟩:=inL p (tz e)
  rw[ev,hu]at z
  have g1:=zdK (.inl (sh _ _ hE3)) p.1
  have g2:=zdK (.inr ⟨ob,sh _ _ h3⟩) p.1
  rw[hu]at g1
  rw[ev]at g2
  exact⟨_,rfl,_,rfl,de,_,rfl,g1,_,rfl,_,rfl,d,_,rfl,g2,_,_,rfl,rfl,_,rfl,z⟩
 ·intro i kv Hh Q' hi _ sh q'
  unfold dI at hi
  obtain⟨p,e,hi⟩:=gmp hi
  cases hi
  have z:=q' Hh (Same.refl _)
  unfold itm at z
  rw[e]at z
  exact⟨_,rfl,z⟩
 rw[ziR,zbZ]at hD4
 have hD4:H4 D4=some (.lst ((ziu L tl).map V.int)):=by
  rw[hD4]
  unfold ziu
  rw[sP,tW]
  rfl
 have ll:(ziu L tl).length<64:=by
  have:(ziu L tl).length<=(tl.map (·.1)).length:=t6 _ _
  rw[tq]at this
  omega
 refine⟨D4,ziu L tl,rfl,SqL.of hD4,ll,λD5 H5 ms s5 n5 h5 pm pw=>?_⟩
 obtain⟨ms',rfl⟩:=zph pm pw ((cu inL).mpr hM) (λy hy=>hmin y ((cu inL).mp hy))
 have s35:=s4.trans s5
 have gN:g≠d:=λz=>by rw[z,hd]at hg;cases hg
 have hg5:=s35 _ _ (k3 _ _ gN ((s1.trans s2) _ _ hg))
 refine⟨_,rfl,si0,λl6 H6 s6 n6 h6=>⟨D5,l6,_,rfl,rfl,SqL.of (s6 _ _ h5),SqL.of h6,_,rfl,iteF ?_⟩⟩
 have h56:H6 D5=some (.lst (V.int M::ms'.map V.int)):=s6 _ _ h5
 have at0:atI (V.int M::ms'.map V.int) 0=some (V.int M):=zcT (j:=0) rfl
 have hg6:=s6 _ _ hg5
 refine⟨_,rfl,D5,_,_,_,rfl,rfl,SqL.of h56,at0,_,rfl,g,_,gdx,_,_,rfl,hg6,O.cl,T.BV,rfl,rfl,?_⟩
 rw[decide_eq_true rfl]
 refine⟨_,rfl,iteF ?_⟩
 have g1:=zdK (.inl ((s35.trans s6) _ _ hE3)) M
 have g2:=zdK (.inr ⟨ob,(s35.trans s6) _ _ h3⟩) M
 rw[eu]at g1
 rw[ev]at g2
 refine⟨_,rfl,_,rfl,D5,_,_,_,rfl,rfl,SqL.of h56,at0,d,_,rfl,g2,_,rfl,g,_,gdx,_,_,rfl,hg6,O.cl,T.CP,rfl,rfl,_,rfl,?_⟩
 refine iteD rfl ⟨_,rfl,_,rfl,D5,_,_,_,rfl,rfl,SqL.of h56,at0,de,_,rfl,g1,_,rfl,g,_,gdx,_,_,rfl,hg6,O.cl,T.Cz,rfl,rfl,?_⟩
 rw[decide_eq_true rfl]
 exact q H6 ((s1.trans s2).toBut.trans (k3.trans (s35.trans s6).toBut))
inductive zqi(K:am)(vs:List V)(H:Hp)(Q:VK)(_:XK):Prop
 | mk (q:Addr) (t b:Int) (_:vs=[.ref q]) (_:H q=some (.tup [.int t,.int b])) (_:0<=t) (_:1<=b) (_:b<=12) (_:∀p H',Same H H'->H' p=some (.tup [.int (t / M1.gd t b),.int (b / M1.gd t b)])->Q (.ref p) H')
def zgC:FnScope ["_law_one","_law_top","_law_other"] ["_law_one"] (zac zhK):=fsc
include T in
theorem fQ(D:Dfn K mg "_law_low" zhK ["_law_one"] f fd):Cal P w K mg bf "_law_low" 1 ["_law_one"] (zqi K):=by
 refine D.cal (D.F.ok zgC (by walk_at "z") (λc A o s H vs Q E hr h=>?_))
 obtain⟨p,t,b,rfl,hp,t0,b0,b1,q⟩:=h
 refine⟨_,(zab (zqp (i:=1) (j:=2) rfl zgC.nd rfl rfl (by decide) rfl rfl (zaa (zaq zal (pv 0) zae (λ_ _=>rfl)) (zaa (zaq zal (pv 0) zae (λ_ _=>rfl)) zaf)) rfl)
  (zab (ziZ tY (zas znq (pv 2) zae (zaB _)) (zag (zqp (i:=1) (j:=2) rfl zgC.nd rfl rfl (by decide) rfl rfl (zaa (pv 2) (zaa (zaz zcL (pv 1) (pv 2)) zaf)) rfl)))
  (zag (zah (zaM (zaa (zaz zcn (zaq zal (pv 0) zae (λ_ _=>rfl)) (pv 1)) (zaa (zaz zcn (zaq zal (pv 0) zae (λ_ _=>rfl)) (pv 1)) zaf))))))),?_⟩
 have hT:=SqT.of (K:=K) hp
 refine⟨_,rfl,p,_,_,_,rfl,rfl,hT,rfl,_,rfl,p,_,_,_,rfl,rfl,hT,rfl,?_⟩
 refine⟨_,_,rfl,?_⟩
 refine bz (λσ H'=>∃(x y:Int),σ=[some (.ref p),some (.int x),some (.int y)]/\0<=x/\0<=y/\M1.gd x y=M1.gd t b/\H'=H)
  (λσ _=>match σ with | [_,_,some (.int y)]=>y.toNat | _=>0) ⟨t,b,rfl,t0,by omega,rfl,rfl⟩ ?_ ?_
 ·rintro σ H' ⟨x,y,rfl,hx,hy,hg,rfl⟩
  refine⟨_,rfl,rfl,_,rfl,?_⟩
  by_cases c:y=0
  ·subst c
   rw[M1.gd_zero hx]at hg
   rw[decide_eq_true rfl]
   refine iteF ?_
   have g0:0<x:=by rw[hg];exact M1.gd_pos (by omega)
   have g1:x<=12:=by have:=M1.gd_le (x:=t) (show 0<b by omega);omega
   refine⟨_,rfl,p,_,_,_,rfl,rfl,hT,rfl,_,rfl,_,_,rfl,rfl,⟨g0,by omega⟩,_,rfl,p,_,_,_,rfl,rfl,hT,rfl,_,rfl,_,_,rfl,rfl,⟨g0,by omega⟩,si2,λr H1 s1 n1 h1=>q r H1 s1 (by rw[h1,hg])⟩
  ·rw[tL (λz=>c (V.int.inj z))]
   refine iteT ?_
   have m1:=se x c
   have m2:=t8 x (show 0<y by omega)
   refine⟨_,rfl,_,rfl,_,rfl,_,_,rfl,rfl,(show 0<y by omega),?_⟩
   refine⟨_,_,rfl,⟨y,x % y,rfl,hy,m1,M1.gd_step.trans hg,rfl⟩,?_⟩
   show(x % y).toNat<y.toNat
   omega
 ·rintro σ H' Q1 Q2 hq ⟨v,e,e1,k,ek,q1⟩
  exact⟨v,e,e1,k,ek,hq _ _ q1⟩
def abc:(Str.ofString "abcdefghijklmnopqrstuvwxyz").cps.toList=(List.range 26).map (97 + ·):=by decide +kernel
def zrk{i:Int}(h0:0<=i)(h1:i<26):atI (Str.ofString "abcdefghijklmnopqrstuvwxyz").cps.toList i=some (97+i.toNat):=by
 rw[abc]
 obtain⟨j,rfl⟩:∃j:Nat,i=(j:Int):=⟨i.toNat,by omega⟩
 refine zcT ?_
 rw[getElem?_map,List.getElem?_range (by omega)]
 rfl
def nmL(bs:List Nat)(a:Nat)(m:Int)(k:Nat):List Nat:=bs.take a++[97+((m+7*(k:Int)) % 26).toNat]++bs.drop a++[122,122].take (k % 3)
def zpj{bs:List Nat}{a:Nat}(h:a<=bs.length)(m:Int)(k:Nat):(nmL bs a m k).length=bs.length+1+k % 3:=by
 have:k % 3<3:=Nat.mod_lt _ (by decide)
 unfold nmL
 rw[tQ,tQ,tQ,su,pj,su]
 show min a bs.length+1+(bs.length-a)+min (k % 3) 2=_
 omega
def zrl{bs:List Nat}{a:Nat}(h:a<=bs.length)(m:Int)(k:Nat):(nmL bs a m k)[a]?=some (97+((m+7*(k:Int)) % 26).toNat):=by
 unfold nmL
 rw[pJ,pJ,t7 (by rw[su];omega),su,show a-min a bs.length=0 by omega]
 rfl
def ztI{bs:List Nat}{a:Nat}(h:a<=bs.length){m:Int}{k j:Nat}(hk:k<8)(hj:j<8)(e:nmL bs a m k=nmL bs a m j):k=j:=by
 have a1:=zrl h m k
 rw[e,zrl h m j]at a1
 have:=tF a1
 have x0:=se (m+7*(k:Int)) (show(26:Int)≠0 by decide)
 have y0:=se (m+7*(j:Int)) (show(26:Int)≠0 by decide)
 omega
def ztJ{bs:List Nat}{a:Nat}(h:a<=bs.length)(l4:bs.length<=4)(hb:∀c,c∈bs->97<=c/\c<=122)(m:Int)(k:Nat):zmV (nmL bs a m k)=true:=by
 have:k % 3<3:=Nat.mod_lt _ (by decide)
 unfold zmV
 rw[zpj h,Bool.and_eq_true]
 refine⟨decide_eq_true ⟨by omega,by omega⟩,all_eq_true.mpr λc hc=>?_⟩
 have:97<=c/\c<=122:=by
  unfold nmL at hc
  rcases mem_append.mp hc with hc | hc
  ·rcases mem_append.mp hc with hc | hc
   ·rcases mem_append.mp hc with hc | hc
    ·exact hb c (qU hc)
    ·have:=se (m+7*(k:Int)) (show(26:Int)≠0 by decide)
     have:=t8 (m+7*(k:Int)) (show(0:Int)<26 by decide)
     rw[mem_singleton.mp hc]
     omega
   ·exact hb c (List.mem_of_mem_drop hc)
  ·have:=qU hc
   have:c=122:=by
    rcases mem_cons.mp this with e | e
    ·exact e
    ·exact mem_singleton.mp e
   omega
 unfold betw
 rw[decide_eq_true this.1,decide_eq_true this.2]
 rfl
def at_n{xs:List Int}{r:Int}(h0:0<=r)(h1:r<xs.length){lo hi:Int}(hx:∀x,x∈xs->lo<=x/\x<=hi):∃v,atI (xs.map V.int) r=some (.int v)/\lo<=v/\v<=hi:=by
 obtain⟨j,rfl⟩:∃j:Nat,r=(j:Int):=⟨r.toNat,by omega⟩
 have hj:j<xs.length:=by omega
 refine⟨xs[j],zcT ?_,hx _ (sJ hj)⟩
 rw[getElem?_map,tm hj]
 rfl
inductive zkE(vs:List V)(H:Hp)(Q:VK)(_:XK):Prop
 | mk (x:Int) (_:vs=[.int x]) (_:∀l xs H',Same H H'->H l=none->IsSRs H' l xs->RsOk (xs.map (·.2))->Q (.ref l) H')
def zba:FnScope ["_law_cell_here","_law_letters","_law_base","_law_at","_law_rows","_law_k","_law_own","_law_name","_law_span"] ["_law_cell_here"] (zac zeF):=fsc
include T in
theorem zkF(D:Dfn K mg "_law_sorts" zeF ["_law_cell_here"] f fd)(zbc:Cal P w K mg bf "_law_mix" 1 pl29 zmr)(zar:Cal P w K mg bf "_law_draw" 2 pl30 zgy)(aE:Cal P w K mg bf "_law_weight" 3 pl29 zfz):Cal P w K mg bf "_law_sorts" 4 ["_law_cell_here"] zkE:=by
 refine D.cal (D.F.ok zba (by walk_at "z") (λc A o s H vs Q E hr h=>?_))
 obtain⟨x,rfl,q⟩:=h
 refine⟨_,(zab (zap (i:=1) zba.nd rfl (Or.inr rfl) zaT)
  (zab (zap (i:=2) zba.nd rfl (Or.inl rfl) (zpC PySem.F.plainAttrs_str PySem.F.slot_str_join PySem.F.type_str_join zrV zaT (zaa (zaZ (N:=["_law_j","_law_cell_here","_law_letters"]) (js:=[0,1]) rfl cpo (zhg rfl T.zk7 (zaa (zaj zar hr.o rfl (zaa (pv 0) (zaa zae (zaa zae zaf)))) zaf)) (λ_ _ _ _ _=>zbG) (λ_ _ _ _ _=>(zaq zqx (pv 2) (zaz zcL (zaj zbc hr.o rfl (zaa (pv 1) (zaa (zaz ay zae (pv 0)) zaf))) zae) (λ_ _=>rfl)))) zaf)))
  (zab (zap (i:=3) zba.nd rfl (Or.inl rfl) (zaj zar hr.o rfl (zaa (pv 0) (zaa zae (zaa (zaz ay (zay zgK rfl T.zdf zbL (zaa (pv 2) zaf)) zae) zaf)))))
  (zab (zap (i:=4) zba.nd rfl (Or.inl rfl) (zaO zaf))
  (zab (zcJ tY rfl (zhg rfl T.zk7 (zaa (zaz ay zae (zaj zar hr.o rfl (zaa (pv 0) (zaa zae (zaa (zaq zbC (zaO (zaa zae (zaa zae (zaa zae zaf)))) (zaz zcL (zaj zbc hr.o rfl (zaa (pv 0) (zaa zae zaf))) zae) (λ_ _=>rfl)) zaf))))) zaf)) (zaH (i:=5) zba.nd rfl (Or.inl rfl)) (zab (zap (i:=6) zba.nd rfl (Or.inl rfl) (zaj zbc hr.o rfl (zaa (zaz ay (zaj zbc hr.o rfl (zaa (pv 0) (zaa (zaz ay zae (pv 5)) zaf))) (zaj zar hr.o rfl (zaa (pv 0) (zaa (zaz ay zae (pv 5)) (zaa (zaz zlG zae zae) zaf))))) (zaa (pv 5) zaf))))
  (zab (zap (i:=7) zba.nd rfl (Or.inl rfl) (zaz zfD (zaz zfD (zaz zfD (zdm znP (pv 2) zfF (zdU (pv 3))) (zaq zqx (pv 1) (zaz zcL (zaz ay (zaj zbc hr.o rfl (zaa (pv 0) (zaa zae zaf))) (zaz zbJ zae (pv 5))) zae) (λ_ _=>rfl))) (zdm znP (pv 2) (zdU (pv 3)) zfF)) (zdm znP zaT zfF (zdU (zaz zcL (pv 5) zae)))))
  (zab (zap (i:=8) zba.nd rfl (Or.inl rfl) (zaq zbC (zaO (pai (zad zae (zad zae (zad zae (zad zae (zad zae zaL))))))) (zaj zar hr.o rfl (zaa (pv 6) (zaa zae (zaa zae zaf)))) (λ_ _=>rfl)))
  (zag (zcS (zpC qj qb qc zfJ (pv 4) (zaa (zaM (pai (zad (pv 7) (zad (zaj aE hr.o rfl (zaa (pv 6) (zaa zae zaf))) (zad (zaj aE hr.o rfl (zaa (pv 6) (zaa zae zaf))) (zad (pv 8) (zad (zaq zbC (zaO (pai (zad zae (zad zae (zad zae (zad zae zaL)))))) (zaj zar hr.o rfl (zaa (pv 6) (zaa zae (zaa zae zaf)))) (λ_ _=>rfl)) zaL))))))) zaf))))))))
  (zag (zah (pv 4)))))))),?_⟩
 have z26:(26:Int)≠0:=by decide
 have ab:(Str.ofString "abcdefghijklmnopqrstuvwxyz").length<=sizeLine:=by decide +kernel
 have big:(100:Nat)<=sizeLine:=by decide
 have p62:(100:Int)<2 ^ 62:=by decide
 have dl:=aA x 1 (m:=5) (by decide)
 have d0:=zbg x 1 (m:=5) (by decide)
 refine⟨rfl,_,rfl,x,1,5,rfl,by decide,by decide,_,rfl,by omega,by omega,?_⟩
 refine fC (λ_=>true) (λi=>V.str ⟨#[97+(mixF x (50+(0+(i:Int))) % 26).toNat]⟩) (λi Hh Q' hi sh q'=>q') (λi Hh Q' hi sh q'=>?_) (by omega) (λD0 H1 s1 nD hD=>?_)
 ·exact⟨_,rfl,_,rfl,_,rfl,_,_,rfl,rfl,x,_,rfl,_,_,rfl,rfl,(by show(0:Int)<26;decide),_,_,_,rfl,rfl,ab,zrk (se _ z26) (t8 _ (by decide)),q'⟩
 generalize hcs:((List.range (zbj x 1 5).toNat).map λ(i:Nat)=>97+(mixF x (50+(0+(i:Int))) % 26).toNat)=cs
 have hD:H1 D0=some (.lst (cs.map λc=>V.str ⟨#[c]⟩)):=by
  rw[hD,zbY,<-hcs,tW]
  rfl
 have cl:cs.length<=4:=by
  rw[<-hcs,tq,sU]
  omega
 have cb:∀c,c∈cs->97<=c/\c<=122:=λc hc=>by
  rw[<-hcs]at hc
  obtain⟨i,_,e⟩:=mem_map.mp hc
  have a1:=se (mixF x (50+(0+(i:Int)))) z26
  have a2:=t8 (mixF x (50+(0+(i:Int)))) (show(0:Int)<26 by decide)
  omega
 have bl:(⟨cs.toArray⟩:Str).length=cs.length:=by rw[<-zcU]
 have bc:(⟨cs.toArray⟩:Str).cps.toList=cs:=by simp
 refine⟨D0,cs,rfl,rfl,SqL.of hD,by omega,?_⟩
 refine⟨_,rfl,_,rfl,⟨cs.toArray⟩,rfl,by omega,_,_,rfl,rfl,x,2,_,rfl,by decide,by show(0:Int)<((⟨cs.toArray⟩:Str).length:Int)+1;omega,?_⟩
 rw[bl]
 have al:=aA x 2 (m:=(cs.length:Int)+1) (by omega)
 have a0:=zbg x 2 (m:=(cs.length:Int)+1) (by omega)
 obtain⟨a,ea⟩:∃a:Nat,zbj x 2 ((cs.length:Int)+1)=(a:Int):=⟨_,(rC a0).symm⟩
 rw[ea]at al ⊢
 have al:a<=cs.length:=by omega
 refine⟨si0,λlr H2 s2 n2 h2=>?_⟩
 have nlr:H lr=none:=Same.free s1 n2
 obtain⟨m,em,m0,m1⟩:=at_n (xs:=[3,4,8]) (r:=mixF x 9 % 3) (lo:=3) (hi:=8) (se _ (by decide)) (t8 _ (by decide)) (by decide)
 have fl:=aA x 0 (m:=m) (by omega)
 have f0:=zbg x 0 (m:=m) (by omega)
 refine⟨_,rfl,si3,λl3 H3 s3 n3 h3=>⟨_,rfl,x,9,rfl,_,_,rfl,rfl,(by show(0:Int)<3;decide),l3,_,_,_,rfl,rfl,SqL.of h3,em,x,0,m,rfl,by decide,by omega,_,_,rfl,rfl,_,rfl,by omega,by omega,?_⟩⟩
 have lr3:H3 lr=some (.lst []):=s3 _ _ h2
 refine zjN (λi σ H'=>∃v5 v6 v7 v8:Option V,σ=[some (.int x),some (.str (Str.ofString "abcdefghijklmnopqrstuvwxyz")),some (.str ⟨cs.toArray⟩),some (.int a),some (.ref lr),v5,v6,v7,v8]/\
   ∃xs:List (Addr × SR),Same H H'/\IsSRs H' lr xs/\xs.length=i/\(∀r,r∈xs.map (·.2)->r.Ok)/\∀j q,xs[j]?=some q->q.2.nm.cps.toList=nmL cs a (mixF x 8) j)
  ⟨_,_,_,_,rfl,[],s1.trans (s2.trans s3),⟨lr3,λq hq=>(not_mem_nil hq).elim⟩,rfl,λr hr=>(not_mem_nil hr).elim,λj q h=>by simp at h⟩ ?_ ?_
 ·rintro i σ HA hi ⟨v5,v6,v7,v8,rfl,xs,sA,hx,xl,okx,nmx⟩
  have i8:i<8:=by omega
  refine⟨_,rfl,_,rfl,_,_,rfl,rfl,x,_,rfl,_,rfl,_,rfl,_,_,rfl,rfl,_,_,rfl,rfl,⟨by decide,by decide,by decide⟩,x,_,_,rfl,by show 0<=3+(0+(i:Int));omega,by decide,_,_,rfl,rfl,_,rfl,_,_,rfl,?_⟩
  generalize mixF (mixF x (20+(0+(i:Int)))+zbj x (3+(0+(i:Int))) _) (0+(i:Int))=own
  have ei:(0:Int)+(i:Int)=(i:Int):=by omega
  rw[ei]
  have t1:=eY (x:=⟨cs.toArray⟩) (a:=a) (by omega)
  have t2:=zqb (x:=⟨cs.toArray⟩) (a:=a) (by omega)
  rw[bc]at t1 t2
  have e3:(i:Int) % 3=((i % 3:Nat):Int):=by omega
  have l3:i % 3<3:=Nat.mod_lt _ (by decide)
  have zl:(Str.ofString "zz").length=2:=by decide +kernel
  have zc:(Str.ofString "zz").cps.toList=[122,122]:=by decide +kernel
  have t3:=eY (x:=Str.ofString "zz") (a:=i % 3) (by omega)
  rw[zc]at t3
  have k1:(Txt.slice (⟨cs.toArray⟩:Str) none (some (a:Int))).length<=4:=by rw[<-zcU,t1,su];omega
  have k2:(Txt.slice (⟨cs.toArray⟩:Str) (some (a:Int)) none).length<=4:=by rw[<-zcU,t2,pj];omega
  have k3:(Txt.slice (Str.ofString "zz") none (some ((i % 3:Nat):Int))).length<=2:=by rw[<-zcU,t3,su];omega
  have la:∀y z:Str,(y++z).cps.toList=y.cps.toList++z.cps.toList:=λy z=>by show(y.cps++z.cps).toList=_;simp
  have ln:∀y z:Str,(y++z).length=y.length+z.length:=λy z=>by rw[<-zcU,la,tQ,zcU,zcU]
  have l1:∀c:Nat,(⟨#[c]⟩:Str).length=1:=λc=>rfl
  refine⟨_,rfl,_,rfl,_,rfl,⟨cs.toArray⟩,rfl,by omega,_,rfl,_,rfl,x,8,rfl,_,rfl,_,_,rfl,rfl,.inl ⟨by decide,by decide⟩,_,_,rfl,rfl,_,_,rfl,rfl,(by show(0:Int)<26;decide),_,_,_,rfl,rfl,ab,zrk (se _ z26) (t8 _ (by decide)),_,_,rfl,rfl,by rw[l1];omega,?_⟩
  refine⟨_,rfl,_,rfl,_,rfl,⟨cs.toArray⟩,rfl,by omega,_,_,rfl,rfl,by rw[ln,l1];omega,_,rfl,_,_,rfl,rfl,(by show(0:Int)<3;decide),_,rfl,_,rfl,by omega,_,_,rfl,rfl,by rw[ln,ln,l1,e3];omega,?_⟩
  rw[e3]
  generalize hnm:Txt.slice (⟨cs.toArray⟩:Str) none (some (a:Int))++(⟨#[97+((mixF x 8+7*(i:Int)) % 26).toNat]⟩:Str)++Txt.slice (⟨cs.toArray⟩:Str) (some (a:Int)) none++Txt.slice (Str.ofString "zz") none (some ((i % 3:Nat):Int))=nm
  have nmc:nm.cps.toList=nmL cs a (mixF x 8) i:=by
   rw[<-hnm,la,la,la,t1,t2,t3]
   rfl
  obtain⟨spv,e5,p0,p1⟩:=at_n (xs:=[1,1,2,3,4]) (r:=zbj own 6 5) (lo:=1) (hi:=4) (zbg own 6 (by decide)) (aA own 6 (by decide)) (by decide)
  obtain⟨trv,e6,q0,q1⟩:=at_n (xs:=[1,1,2,3]) (r:=zbj own 7 4) (lo:=1) (hi:=3) (zbg own 7 (by decide)) (aA own 7 (by decide)) (by decide)
  refine⟨si5,λl5 HB sB n5 h5=>⟨_,rfl,own,6,5,rfl,by decide,by decide,l5,_,_,_,rfl,rfl,SqL.of h5,e5,?_⟩⟩
  have hxB:=hx.same sB
  refine⟨_,rfl,.inl ⟨rfl,_,SqL.of hxB.at_⟩,_,rfl,_,rfl,own,0,rfl,by decide,λpw HC sC ⟨w1,w2,w3,w4,w5⟩=>⟨_,rfl,own,3,rfl,by decide,λpz HD sD ⟨z1,z2,z3,z4,z5⟩=>⟨_,rfl,si4,λl6 HE sE n6 h6=>⟨_,rfl,own,7,4,rfl,by decide,by decide,l6,_,_,_,rfl,rfl,SqL.of h6,e6,si5,λtp HF sF nF hF=>?_⟩⟩⟩⟩
  have sBE:=sC.trans (sD.trans sE)
  have hxE:=hxB.same sBE
  have hxF:=hxE.same sF
  refine⟨lr,_,_,rfl,rfl,hxF.at_,zaC (by rw[tq];omega),λHL kL hL=>?_⟩
  have wF:=(sD.trans (sE.trans sF)) _ _ w1
  have zF:=(sE.trans sF) _ _ z1
  have nl:∀{y:Addr}{ys:List V},HF y=some (.tup ys)->y≠lr:=λh w=>by rw[w,hxF.at_]at h;cases h
  refine⟨_,_,_,_,rfl,xs++[(tp,⟨nm,(wtF own 0).1,(wtF own 0).2,(wtF own 3).1,(wtF own 3).2,spv,trv⟩)],(sA.trans (sB.trans (sBE.trans sF))).but nlr kL,⟨?_,?_⟩,?_,?_,?_⟩
  ·rw[hL,tV]
   rfl
  ·intro y hy
   rcases mem_append.mp hy with hy | hy
   ·exact(hxF.sr y hy).but kL hxF.at_ (λ_ w=>by cases w)
   ·rw[mem_singleton.mp hy]
    exact⟨pw,pz,kL _ _ (nl hF) hF,kL _ _ (nl wF) wF,kL _ _ (nl zF) zF⟩
  ·rw[tQ,xl]
   rfl
  ·intro y hy
   rw[tV,mem_append]at hy
   rcases hy with hy | hy
   ·exact okx y hy
   ·rw[mem_singleton.mp hy]
    exact⟨by show zmV nm.cps.toList=true;rw[nmc];exact ztJ al cl cb _ _,by show nm.length<=100;rw[<-zcU,nmc,zpj al];omega,w2,w3,w4,w5,z2,z3,z4,z5,p0,p1,q0,q1⟩
  ·intro j y hj
   by_cases c:j<xs.length
   ·rw[si c]at hj
    exact nmx j y hj
   ·rw[t7 (by omega)]at hj
    have:j-xs.length=0:=by
     cases hz:j-xs.length with
     | zero=>rfl
     | succ n=>rw[hz]at hj;simp at hj
    rw[this]at hj
    cases hj
    rw[show j=i by omega]
    exact nmc
 ·rintro σ HA ⟨v5,v6,v7,v8,rfl,xs,sA,hx,xl,okx,nmx⟩
  refine⟨_,rfl,q lr xs HA sA nlr hx ⟨by rw[tq];omega,by rw[tq];omega,okx,λi1 i2 r1 r2 e1 e2 e=>?_⟩⟩
  have f:∀{j:Nat}{r:SR},(xs.map (·.2))[j]?=some r->r.nm.cps.toList=nmL cs a (mixF x 8) j/\j<xs.length:=λ{j r} h=>by
   have hj:=(List.getElem?_eq_some_iff.mp h).1
   rw[tq]at hj
   rw[getElem?_map,tm hj]at h
   cases h
   exact⟨nmx j _ (tm hj),hj⟩
  have g1:=f e1
  have g2:=f e2
  exact ztI al (m:=mixF x 8) (by omega) (by omega) (by rw[<-g1.1,<-g2.1,e])
structure HG(cs:CsA)(cS cH tT:Addr)(H:Hp)(o:Addr)(v:Hv)(tl:Int->Int)(km:Nat):Prop where
 hh:IsHs cs cS cH H o v
 hT:H tT=some (.tbl zbh lamQ)
 ro:RsOk v.rs
 lw:∀r,r∈v.rs->r.low=r
 h0:1<=v.h
 h6:v.h<=6
 p:PsOk v.rs v.ps
 pc:∀q,q∈v.ps->PcI q.2
 ca:∀q,q∈v.ps->q.2.1=.waiting->q.2.2.came<=v.t
 t0:0<=v.t
 ht:TlP H v tl
 nb:∀n,NbP H v n km
 nl:v.nb.length<=km
def HG.same{cs:CsA}{cS cH tT:Addr}{H H':Hp}{o:Addr}{v:Hv}{tl:Int->Int}{km:Nat}(s:Same H H')(h:HG cs cS cH tT H o v tl km):HG cs cS cH tT H' o v tl km:=
 ⟨h.hh.same s,s _ _ h.hT,h.ro,h.lw,h.h0,h.h6,h.p,h.pc,h.ca,h.t0,h.ht.same s,λn x e=>let ⟨l,us,a,b,c⟩:=h.nb n x e;⟨l,us,a,s _ _ b,c⟩,h.nl⟩
def HG.ok{cs:CsA}{cS cH tT:Addr}{H:Hp}{o:Addr}{v:Hv}{tl:Int->Int}{km:Nat}(h:HG cs cS cH tT H o v tl km)(t1:v.t<=1000):HvOk v:=⟨h.p,by have:=h.h0;omega,h.t0,t1⟩
structure WayOk(v:Hv)(rs':List SR)(h':Int)(ps':List (Addr × Wd × Pv)):Prop where
 ro:RsOk rs'
 lw:∀r,r∈rs'->r.low=r
 h0:1<=h'
 h6:h'<=6
 p:PsOk rs' ps'
 pc:∀q,q∈ps'->PcI q.2
 ca:∀q,q∈ps'->q.2.1=.waiting->q.2.2.came<=v.t
 hs:∀q,q∈v.ps->q.2.1=.waiting->∃z,z∈ps'/\z.2.1=.waiting/\z.2.2.n=q.2.2.n
def HG.ask{cs:CsA}{cS cH tT:Addr}{H H':Hp}{o s l':Addr}{v:Hv}{tl:Int->Int}{km:Nat}{rs':List SR}{h':Int}{ps':List (Addr × Wd × Pv)}(h:HG cs cS cH tT H o v tl km)(w:WayOk v rs' h' ps')(wt:∀q,q∈ps'->q.2.1=.waiting->∃z,z∈v.ps/\z.2.1=.waiting/\z.2.2.n=q.2.2.n)(k:But o H H')(hh':IsHs cs cS cH H' o (v.to s rs' h' l' ps')):HG cs cS cH tT H' o (v.to s rs' h' l' ps') tl (km+1):=by
 obtain⟨dx,e0⟩:=h.hh.at_
 have keep:∀{c:Addr}{u:HO},H c=some u->(∀C dx fs,u≠.ins C dx fs)->H' c=some u:=λ{c u} hc n1=>k _ _ (λz=>by
  rw[z,e0]at hc
  exact n1 _ _ _ (tF hc).symm) hc
 refine⟨hh',keep h.hT (λ_ _ _ z=>by cases z),w.ro,w.lw,w.h0,w.h6,w.p,w.pc,w.ca,h.t0,λq hq qw=>?_,λn x en=>?_,Nat.le_succ_of_le h.nl⟩
 ·obtain⟨z,hz,zw,zn⟩:=wt q hq qw
  obtain⟨l,us,a,b⟩:=h.ht z hz zw
  rw[<-zn]
  exact⟨l,us,a,keep b (λ_ _ _ z=>by cases z)⟩
 ·obtain⟨l,us,a,b,c⟩:=h.nb n x en
  exact⟨l,us,a,keep b (λ_ _ _ z=>by cases z),by omega⟩
def tlU(tl:Int->Int)(n u:Int):Int->Int:=λm=>if m=n then u else tl m
def HG.come{cs:CsA}{cS cH tT:Addr}{H H':Hp}{o a l l':Addr}{v:Hv}{tl:Int->Int}{km:Nat}{p:Pv}{us:List Int}{u:Int}(h:HG cs cS cH tT H o v tl km)(pn:p.n=v.ps.length)(w:WayOk v v.rs v.h (v.ps++[(a,.waiting,p)]))(k:But2 o v.aN H H')(hl:H' l=some (.lst ((us++[u]).map V.int)))(ul:us.length<=km)(hh':IsHs cs cS cH H' o { v.to v.aS v.rs v.h l' (v.ps++[(a,.waiting,p)])with nb:=putK v.nb (.inl (v.ps.length:Int)) (.ref l) }):HG cs cS cH tT H' o { v.to v.aS v.rs v.h l' (v.ps++[(a,.waiting,p)])with nb:=putK v.nb (.inl (v.ps.length:Int)) (.ref l) } (tlU tl v.ps.length u) (km+1):=by
 obtain⟨dx,e0⟩:=h.hh.at_
 have keep:∀{c:Addr}{u:HO},H c=some u->(∀C dx fs,u≠.ins C dx fs)->(∀kvs,u≠.dK kvs)->H' c=some u:=λ{c u} hc n1 n2=>k _ _ (λz=>by
  rw[z,e0]at hc
  exact n1 _ _ _ (tF hc).symm) (λz=>by
  rw[z,h.hh.p.nb]at hc
  exact n2 _ (tF hc).symm) hc
 have vp:∀n:Int,valV (putK v.nb (.inl (v.ps.length:Int)) (.ref l)) (.inl n)=if n=(v.ps.length:Int)then some (.ref l)else valV v.nb (.inl n):=λn=>by
  rw[zbz]
  by_cases c:n=(v.ps.length:Int)
  ·rw[if_pos c,if_pos (by rw[c])]
  ·rw[if_neg c,if_neg (λz=>c (qr z))]
 refine⟨hh',keep h.hT (λ_ _ _ z=>by cases z) (λ_ z=>by cases z),w.ro,w.lw,w.h0,w.h6,w.p,w.pc,w.ca,h.t0,λq hq qw=>?_,λn x en=>?_,tM (zrW _ _ _) (by have:=h.nl;omega)⟩
 ·rcases mem_append.mp hq with hq | hq
  ·obtain⟨m,ws,a1,b1⟩:=h.ht q hq qw
   have ne:q.2.2.n≠(v.ps.length:Int):=by
    obtain⟨i,hi,ei⟩:=tX hq
    have:=h.p.nm i q (by rw[tm hi,ei])
    omega
   refine⟨m,ws,?_,?_⟩
   ·show valV (putK v.nb _ _) _=_
    rw[vp,if_neg ne]
    exact a1
   ·unfold tlU
    rw[if_neg ne]
    exact keep b1 (λ_ _ _ z=>by cases z) (λ_ z=>by cases z)
  ·rw[mem_singleton.mp hq]
   refine⟨l,us,?_,?_⟩
   ·show valV (putK v.nb _ _) (.inl p.n)=_
    rw[vp,if_pos pn]
   ·show H' l=some (.lst ((us++[tlU tl v.ps.length u p.n]).map V.int))
    unfold tlU
    rw[if_pos pn]
    exact hl
 ·have en:valV (putK v.nb (.inl (v.ps.length:Int)) (.ref l)) (.inl n)=some x:=en
  rw[vp]at en
  by_cases c:n=(v.ps.length:Int)
  ·rw[if_pos c]at en
   cases en
   exact⟨l,us++[u],rfl,hl,by rw[tQ];show us.length+1<=km+1;omega⟩
  ·rw[if_neg c]at en
   obtain⟨m,ws,a1,b1,c1⟩:=h.nb n x en
   exact⟨m,ws,a1,keep b1 (λ_ _ _ z=>by cases z) (λ_ z=>by cases z),by omega⟩
def HG.pass{cs:CsA}{cS cH tT:Addr}{H H':Hp}{o:Addr}{v:Hv}{tl:Int->Int}{km:Nat}(h:HG cs cS cH tT H o v tl km){ps':List (Addr × Wd × Pv)}{l' lr:Addr}(em:ps'.map (·.2)=v.ps.map (λq=>bhP v.t (wsV v) q.2))(k:But o H H')(hh':IsHs cs cS cH H' o { v with ps:=ps',aP:=l',aR:=lr,t:=v.t+1 }):HG cs cS cH tT H' o { v with ps:=ps',aP:=l',aR:=lr,t:=v.t+1 } tl (km+1):=by
 have hw:∀q,q∈v.ps->q.2.2.n∈wsV v->q.2.1=.waiting:=λq hq hn=>by
  obtain⟨y,hy,yw,yn⟩:=zpd hn
  rw[<-h.p.one hy hq yn]
  exact yw
 obtain⟨p',pc'⟩:=zsg h.p h.pc em hw
 obtain⟨dx,e0⟩:=h.hh.at_
 have keep:∀{c:Addr}{u:HO},H c=some u->(∀C dx fs,u≠.ins C dx fs)->H' c=some u:=λ{c u} hc n1=>k _ _ (λz=>by
  rw[z,e0]at hc
  exact n1 _ _ _ (tF hc).symm) hc
 refine⟨hh',keep h.hT (λ_ _ _ z=>by cases z),h.ro,h.lw,h.h0,h.h6,p',pc',λq hq qw=>?_,by have:=h.t0;show 0<=v.t+1;omega,λq hq qw=>?_,λn x en=>?_,Nat.le_succ_of_le h.nl⟩
 ·obtain⟨z,hz,ez⟩:=zmp em hq
  rw[ez]at qw
  have:=h.ca z hz ((zpf (hw z hz)).1 qw)
  rw[ez,(zhb v.t (wsV v) z.2).2.2.1]
  show z.2.2.came<=v.t+1
  omega
 ·obtain⟨z,hz,ez⟩:=zmp em hq
  have qw':=qw
  rw[ez]at qw'
  obtain⟨l,us,a,b⟩:=h.ht z hz ((zpf (hw z hz)).1 qw')
  rw[ez,(zhb v.t (wsV v) z.2).1]
  exact⟨l,us,a,keep b (λ_ _ _ z=>by cases z)⟩
 ·obtain⟨l,us,a,b,c⟩:=h.nb n x en
  exact⟨l,us,a,keep b (λ_ _ _ z=>by cases z),by omega⟩
def RsOk.low{rs:List SR}(h:RsOk rs):RsOk (rs.map SR.low):=by
 refine⟨by rw[tq];exact h.l0,by rw[tq];exact h.l1,λs hs=>?_,λa b s t ha hb e=>?_⟩
 ·obtain⟨z,hz,e⟩:=mem_map.mp hs
  rw[<-e]
  exact(h.ok z hz).low
 ·obtain⟨s0,h1,rfl⟩:=gmp ha
  obtain⟨t0,h3,rfl⟩:=gmp hb
  exact h.nd a b s0 t0 h1 h3 e
theorem zdH{rs:List SR}(h:RsOk rs){r:SR}(hr:r∈rs):az rs r.nm=r/\zks rs r.nm r:=by
 have un:∀s,s∈rs->s.nm=r.nm->s=r:=λs hs e=>by
  obtain⟨i,hi,ei⟩:=tX hs
  obtain⟨j,hj,ej⟩:=tX hr
  have a:=tm hi
  have b:=tm hj
  have:=h.nd i j _ _ a b (by rw[ei,ej,e])
  subst this
  rw[<-ei,ej]
 refine⟨?_,hr,rfl,un⟩
 unfold az
 cases e:rs.find? λs=>decide (s.nm=r.nm) with
 | none=>exact absurd (decide_eq_true rfl) (List.find?_eq_none.mp e r hr)
 | some s=>exact un s (rT e) (t4 (List.find?_some (p:=λs:SR=>decide (s.nm=r.nm)) e))
def zsi{r:SR}(o:r.Ok)(n:Nat){c:Int}(c0:0<=c)(c1:c<=1000)(d:Wd)(od:d.opn=true):PcI (d,pvOf r n c)/\(pvOf r n c).left d=r.sp*r.tr:=by
 refine⟨⟨o.s0,o.s1,by show 0<=r.tr;have:=o.t0;omega,o.t1,λ_=>⟨o.t0,rL _,by show 0<r.sp;have:=o.s0;omega⟩,c0,c1⟩,?_⟩
 unfold Pv.left
 rw[if_pos od]
 show r.tr*r.sp-0=_
 rw[Int.mul_comm,Int.sub_zero]
def PsOk.add{rs:List SR}{ps:List (Addr × Wd × Pv)}(h:PsOk rs ps){b:Addr × Wd × Pv}(n:b.2.2.n=ps.length)(l:ps.length<200)(op:(ps.filter λq=>q.2.1.opn).length<40)(ok:b.2.2.Ok/\0<=b.2.2.left b.2.1/\b.2.2.left b.2.1<=12/\0<=b.2.2.came/\b.2.2.came<=1000)(fd:zks rs b.2.2.nm (az rs b.2.2.nm)):PsOk rs (ps++[b]):=by
 refine⟨h.rl,h.ro,λi q hq=>?_,λq hq=>?_,λq hq=>?_,?_,?_⟩
 ·by_cases c:i<ps.length
  ·rw[si c]at hq
   exact h.nm i q hq
  ·rw[t7 (by omega)]at hq
   cases e:i-ps.length with
   | zero=>
     rw[e]at hq
     cases hq
     omega
   | succ j=>rw[e]at hq;cases hq
 ·rcases mem_append.mp hq with hq | hq
  ·exact h.ok q hq
  ·rw[mem_singleton.mp hq]
   exact ok
 ·rcases mem_append.mp hq with hq | hq
  ·exact h.fd q hq
  ·rw[mem_singleton.mp hq]
   exact fd
 ·rw[tQ]
  show ps.length+1<=200
  omega
 ·rw[rA,tQ]
  have:([b].filter λq=>q.2.1.opn).length<=1:=t6 _ _
  omega
def zsj{rs:List SR}{ps:List (Addr × Wd × Pv)}{b:Addr × Wd × Pv}(ob:b.2.1.opn=true):chV rs (ps++[b])=chV rs ps++[(clOf b.2.2 (az rs b.2.2.nm).low,b.2.2.left b.2.1)]:=by
 unfold chV
 rw[rA,tV,sQ,if_pos ob]
 rfl
def ztK{x:Wd × Pv}(h:PcI x):x.2.Ok/\0<=x.2.left x.1/\x.2.left x.1<=12/\0<=x.2.came/\x.2.came<=1000:=⟨⟨h.s0,h.s1,h.t1,h.t0⟩,h.left.1,h.left.2.1,h.c0,h.c1⟩
def zlv{cs:CsA}{cS cH tT:Addr}{H:Hp}{o:Addr}{v:Hv}{tl:Int->Int}{km:Nat}(h:HG cs cS cH tT H o v tl km){r:SR}(hr:r∈v.rs){c:Int}(c0:0<=c)(c1:c<=1000){d:Wd}(od:d.opn=true)(cd:d=.waiting->c<=v.t)(l:v.ps.length<200)(op:(v.ps.filter λq=>q.2.1.opn).length<40)(a:Addr):WayOk v v.rs v.h (v.ps++[(a,d,pvOf r v.ps.length c)])/\chV v.rs (v.ps++[(a,d,pvOf r v.ps.length c)])=chV v.rs v.ps++[(⟨v.ps.length,r.a,r.b,r.c,r.d,c⟩,r.sp*r.tr)]:=by
 obtain⟨e1,fd⟩:=zdH h.ro hr
 obtain⟨pi,pl⟩:=zsi (h.ro.ok r hr) v.ps.length c0 c1 d od
 have e1:az v.rs (pvOf r v.ps.length c).nm=r:=e1
 refine⟨⟨h.ro,h.lw,h.h0,h.h6,h.p.add rfl l op (ztK pi) (by rw[e1];exact fd),λq hq=>?_,λq hq qw=>?_,λq hq qw=>⟨q,qN _ hq,qw,rfl⟩⟩,?_⟩
 ·rcases mem_append.mp hq with hq | hq
  ·exact h.pc q hq
  ·rw[mem_singleton.mp hq]
   exact pi
 ·rcases mem_append.mp hq with hq | hq
  ·exact h.ca q hq qw
  ·rw[mem_singleton.mp hq]at qw ⊢
   exact cd qw
 ·rw[zsj od,pl,e1,h.lw r hr]
  rfl
def chgF(i:Int)(r:SR)(c:Cl × Int):Cl × Int:=if c.1.n=i then(⟨i,r.a,r.b,r.c,r.d,c.1.came⟩,c.2)else c
def fR{cs:CsA}{cS cH tT:Addr}{H:Hp}{o:Addr}{v:Hv}{tl:Int->Int}{km:Nat}(h:HG cs cS cH tT H o v tl km){r:SR}(hr:r∈v.rs){i:Nat}{q0:Addr × Wd × Pv}(ei:v.ps[i]?=some q0)(ew:q0.2.1=.waiting)(a:Addr):WayOk v v.rs v.h (wiP (a,.waiting,{ q0.2.2 with nm:=r.nm }) v.ps)/\chV v.rs (wiP (a,.waiting,{ q0.2.2 with nm:=r.nm }) v.ps)=(chV v.rs v.ps).map (chgF i r)/\∀q,q∈wiP (a,.waiting,{ q0.2.2 with nm:=r.nm }) v.ps->q.2.1=.waiting->∃z,z∈v.ps/\z.2.1=.waiting/\z.2.2.n=q.2.2.n:=by
 obtain⟨e1,fd⟩:=zdH h.ro hr
 have m0:=tz ei
 have n0:=h.p.nm i q0 ei
 have pc0:=h.pc q0 m0
 generalize eb:((a,.waiting,{ q0.2.2 with nm:=r.nm }):Addr × Wd × Pv)=b
 have bn:b.2.2.n=i:=by rw[<-eb];exact n0
 have bw:b.2.1=.waiting:=by rw[<-eb]
 have be:b.2.2 = { q0.2.2 with nm:=r.nm }:=by rw[<-eb]
 have pb:PcI b.2:=by
  rw[<-eb]
  refine⟨pc0.s0,pc0.s1,pc0.t0,pc0.t1,λ_=>pc0.w (ziY ew),pc0.c0,pc0.c1⟩
 have bl:b.2.2.left b.2.1=q0.2.2.left q0.2.1:=by
  unfold Pv.left
  rw[bw,ew,be]
 have one:∀q,q∈v.ps->q.2.2.n=b.2.2.n->q=q0:=λq hq e=>h.p.one hq m0 (by rw[e,bn,n0])
 have mem:∀z,z∈wiP b v.ps->z∈v.ps\/z=b:=λz hz=>by
  obtain⟨q,hq',e⟩:=mem_map.mp hz
  rw[<-e]
  split
  ·exact .inr rfl
  ·exact .inl hq'
 have fil:(wiP b v.ps).filter (λq=>q.2.1.opn)=wiP b (v.ps.filter λq=>q.2.1.opn):=by
  unfold wiP
  rw[sP]
  congr 1
  refine List.filter_congr λq hq'=>?_
  show(if q.2.2.n=b.2.2.n then b else q).2.1.opn=q.2.1.opn
  by_cases c:q.2.2.n=b.2.2.n
  ·rw[if_pos c,one q hq' c,bw,ew]
  ·rw[if_neg c]
 have pok:PsOk v.rs (wiP b v.ps):=by
  refine⟨h.p.rl,h.p.ro,λj z hz=>?_,λz hz=>?_,λz hz=>?_,?_,?_⟩
  ·unfold wiP at hz
   rw[getElem?_map]at hz
   cases e:v.ps[j]? with
   | none=>rw[e]at hz;cases hz
   | some q=>
     rw[e]at hz
     have hz:(if q.2.2.n=b.2.2.n then b else q)=z:=tF hz
     have:=h.p.nm j q e
     rw[<-hz]
     by_cases c:q.2.2.n=b.2.2.n
     ·rw[if_pos c,<-c]
      exact this
     ·rw[if_neg c]
      exact this
  ·rcases mem z hz with m | rfl
   ·exact h.p.ok z m
   ·exact ztK pb
  ·rcases mem z hz with m | rfl
   ·exact h.p.fd z m
   ·rw[be]
    show zks v.rs r.nm (az v.rs r.nm)
    rw[e1]
    exact fd
  ·unfold wiP
   rw[tq]
   exact h.p.len
  ·rw[fil]
   unfold wiP
   rw[tq]
   exact h.p.op
 refine⟨⟨h.ro,h.lw,h.h0,h.h6,pok,λq hq=>?_,λq hq qw=>?_,λq hq qw=>?_⟩,?_,λq hq qw=>?_⟩
 ·rcases mem q hq with m | rfl
  ·exact h.pc q m
  ·exact pb
 ·rcases mem q hq with m | rfl
  ·exact h.ca q m qw
  ·rw[be]
   exact h.ca q0 m0 ew
 ·by_cases c:q.2.2.n=b.2.2.n
  ·exact⟨b,mem_map.mpr ⟨q,hq,if_pos c⟩,bw,c.symm⟩
  ·exact⟨q,mem_map.mpr ⟨q,hq,if_neg c⟩,qw,rfl⟩
 ·unfold chV
  rw[fil]
  unfold wiP
  rw[tW,tW]
  refine rV λq hq=>?_
  have hq:=(mem_filter.mp hq).1
  show(λz:Addr × Wd × Pv=>(clOf z.2.2 (az v.rs z.2.2.nm).low,z.2.2.left z.2.1)) (if q.2.2.n=b.2.2.n then b else q)=chgF i r (clOf q.2.2 (az v.rs q.2.2.nm).low,q.2.2.left q.2.1)
  by_cases c:q.2.2.n=b.2.2.n
  ·rw[if_pos c,one q hq c]
   unfold chgF
   rw[if_pos (show(clOf q0.2.2 _).n=i from n0)]
   show(clOf b.2.2 (az v.rs b.2.2.nm).low,b.2.2.left b.2.1)=_
   rw[bl,be]
   show(clOf { q0.2.2 with nm:=r.nm } (az v.rs r.nm).low,_)=_
   rw[e1,h.lw r hr]
   show((⟨q0.2.2.n,r.a,r.b,r.c,r.d,q0.2.2.came⟩:Cl),_)=((⟨(i:Int),r.a,r.b,r.c,r.d,q0.2.2.came⟩:Cl),_)
   rw[n0]
  ·rw[if_neg c]
   unfold chgF
   rw[if_neg (λz=>c (by rw[bn];exact z))]
 ·rcases mem q hq with m | rfl
  ·exact⟨q,m,qw,rfl⟩
  ·exact⟨q0,m0,ew,by rw[bn,n0]⟩
def spdR(rs:List SR)(i:Nat)(cd:Int × Int):List SR:=(rs.set i { rs.getD i SR.non with c:=cd.1,d:=cd.2 }).map SR.low
def rsN(rs:List SR)(x:Int):List SR:=if zbj x 0 5=3 then spdR rs (zbj x 1 rs.length).toNat (wtF x 5)else rs
def ztL(x k:Int):0<=(wtF x k).1/\(wtF x k).1<=1000000/\1<=(wtF x k).2/\(wtF x k).2<=12:=by
 obtain⟨t0,t1⟩:=zrh (zbj x (k+1) 4)
 obtain⟨b0,b1⟩:=zri (mixF x k % 3)
 have d0:=zbg x k t0
 have d1:=aA x k t0
 have f0:=zbg x (k+2) b0
 have f1:=aA x (k+2) b0
 exact⟨d0,by show zbj x k _<=1000000;omega,by show 1<=1+zbj x (k+2) _;omega,by show 1+zbj x (k+2) _<=12;omega⟩
def lowP(p:Int × Int):Int × Int:=(p.1 / M1.gd p.1 p.2,p.2 / M1.gd p.1 p.2)
def spdF(ps:List (Addr × Wd × Pv))(nm:Str)(cd:Int × Int)(q:Addr × Wd × Pv)(c:Cl × Int):Cl × Int:=if q.2.2.nm=nm then(⟨c.1.n,c.1.wt,c.1.wb,(lowP cd).1,(lowP cd).2,c.1.came⟩,c.2)else c
def zpk{cs:CsA}{cS cH tT:Addr}{H:Hp}{o:Addr}{v:Hv}{tl:Int->Int}{km:Nat}(h:HG cs cS cH tT H o v tl km){i:Nat}{r:SR}(hi:v.rs[i]?=some r){c d:Int}(c0:0<=c)(c1:c<=1000000)(d0:1<=d)(d1:d<=12):WayOk v (spdR v.rs i (c,d)) v.h v.ps/\spdR v.rs i (c,d)=(v.rs.set i { r with c:=c,d:=d }).map SR.low/\chV (spdR v.rs i (c,d)) v.ps=(v.ps.filter λq=>q.2.1.opn).map λq=>spdF v.ps r.nm (c,d) q (clOf q.2.2 (az v.rs q.2.2.nm).low,q.2.2.left q.2.1):=by
 have hr:=tz hi
 have okr:=h.ro.ok r hr
 have er:spdR v.rs i (c,d)=(v.rs.set i { r with c:=c,d:=d }).map SR.low:=by
  unfold spdR
  rw[tK,hi]
  rfl
 have okR:({ r with c:=c,d:=d }:SR).Ok := { okr with c0:=c0,c1:=c1,d0:=d0,d1:=d1 }
 have ro1:=zqR h.ro hi (r' := { r with c:=c,d:=d }) rfl okR
 have ro2:=ro1.low
 have row:∀nm,zks v.rs nm (az v.rs nm)->az ((v.rs.set i { r with c:=c,d:=d }).map SR.low) nm=(if nm=r.nm then({ r with c:=c,d:=d }:SR).low else az v.rs nm)/\zks ((v.rs.set i { r with c:=c,d:=d }).map SR.low) nm (az ((v.rs.set i { r with c:=c,d:=d }).map SR.low) nm):=λnm ⟨f1,f2,f3⟩=>by
  have li:=(List.getElem?_eq_some_iff.mp hi).1
  by_cases e:nm=r.nm
  ·have m:({ r with c:=c,d:=d }:SR).low∈(v.rs.set i { r with c:=c,d:=d }).map SR.low:=mem_map.mpr ⟨_,List.mem_set li _,rfl⟩
   have:=zdH ro2 m
   have e2:({ r with c:=c,d:=d }:SR).low.nm=nm:=e.symm
   rw[e2]at this
   rw[if_pos e,this.1]
   exact⟨rfl,this.2⟩
  ·have m:az v.rs nm∈(v.rs.set i { r with c:=c,d:=d }).map SR.low:=by
    refine mem_map.mpr ⟨az v.rs nm,?_,h.lw _ f1⟩
    obtain⟨j,hj,ej⟩:=tX f1
    have ne:i≠j:=λz=>by
     subst z
     rw[tm hj,ej]at hi
     have:=tF hi
     exact e (by rw[<-f2,this])
    refine tz (i:=j) ?_
    rw[qE,if_neg ne,tm hj,ej]
   have:=zdH ro2 m
   rw[f2]at this
   rw[if_neg e,this.1]
   exact⟨rfl,this.2⟩
 rw[er]
 refine⟨⟨ro2,λs hs=>?_,h.h0,h.h6,⟨ro2.l1,ro2.ok,h.p.nm,h.p.ok,λq hq=>(row _ (h.p.fd q hq)).2,h.p.len,h.p.op⟩,h.pc,h.ca,λq hq qw=>⟨q,hq,qw,rfl⟩⟩,rfl,?_⟩
 ·obtain⟨z,hz,e⟩:=mem_map.mp hs
  rw[<-e]
  exact(ro1.ok z hz).low2
 ·unfold chV
  refine rV λq hq=>?_
  have hq:=(mem_filter.mp hq).1
  have fq:=h.p.fd q hq
  rw[(row _ fq).1]
  unfold spdF
  by_cases e:q.2.2.nm=r.nm
  ·rw[if_pos e,if_pos e,okR.low2,e,(zdH h.ro hr).1,h.lw r hr]
   have hl:=h.lw r hr
   have ha:r.a / M1.gd r.a r.b=r.a:=tS SR.a hl
   have hb:r.b / M1.gd r.a r.b=r.b:=tS SR.b hl
   show((⟨q.2.2.n,r.a / M1.gd r.a r.b,r.b / M1.gd r.a r.b,c / M1.gd c d,d / M1.gd c d,q.2.2.came⟩:Cl),_)=((⟨q.2.2.n,r.a,r.b,c / M1.gd c d,d / M1.gd c d,q.2.2.came⟩:Cl),_)
   rw[ha,hb]
  ·rw[if_neg e,if_neg e]
def zpl{cs:CsA}{cS cH tT:Addr}{H:Hp}{o:Addr}{v:Hv}{tl:Int->Int}{km:Nat}(h:HG cs cS cH tT H o v tl km){h':Int}(h0:1<=h')(h1:h'<=v.h):WayOk v v.rs h' v.ps:=⟨h.ro,h.lw,h0,pK h1 h.h6,h.p,h.pc,h.ca,λq hq qw=>⟨q,hq,qw,rfl⟩⟩
def zsk{h:Nat}{b:Int}{c:Ch}{N:Nat}(n:(runN h N b (bhC [] c)).2=[]){k:Cl × Int}(hk:k∈c)(pos:0<k.2):∃u,valI (zbr (runN h N b (bhC [] c)).1 []) k.1.n=some u:=by
 have hm:k∈bhC [] c:=by
  rw[bH]
  exact mem_filter.mpr ⟨hk,decide_eq_true pos⟩
 obtain⟨i,_,i2,i3⟩:=zhE (h:=h) (b:=b) (d:=bhC [] c) (j:=k.1.n) N 0 (mem_map.mpr ⟨k,hm,rfl⟩) (λk hk=>zhB hk) (by rw[qa];exact n)
 obtain⟨u,h1,_⟩:=zei (L:=[]) (zoo N).1 (.inr ⟨_,zjb (show i<N by omega),rfl,i3⟩)
 exact⟨u,h1⟩
def zpm{v:Hv}{rs':List SR}{h':Int}{ps':List (Addr × Wd × Pv)}(w:WayOk v rs' h' ps'){tl:Int->Int}{h:Nat}{b:Int}{N:Nat}(n:(runN h N b (bhC [] (chV rs' ps'))).2=[]):∀p,p∈tlL tl v.ps->∃u,valI (zbr (runN h N b (bhC [] (chV rs' ps'))).1 []) p.1=some u:=λp hp=>by
 obtain⟨q,hq,e⟩:=mem_map.mp hp
 obtain⟨m,qw⟩:=zbV.mp hq
 obtain⟨z,hz,zw,zn⟩:=w.hs q m qw
 have:=zsk (h:=h) (b:=b) n (k:=(clOf z.2.2 (az rs' z.2.2.nm).low,z.2.2.left z.2.1)) (mem_map.mpr ⟨z,mem_filter.mpr ⟨hz,ziY zw⟩,rfl⟩) ((w.pc z hz).left.2.2 (ziY zw))
 rw[<-e,<-zn]
 exact this
def Dqs.cl{H:Hp}{n:Nat}{p p':Addr}{c:Cl}(h:IsCl K H p c)(h':IsCl K H p' c):Deq K H (n+2) (.ref p) (.ref p'):=by
 obtain⟨pw,ps,a1,a2,a3⟩:=h.ex
 obtain⟨qw,qs,b1,b2,b3⟩:=h'.ex
 exact Dqs.tup a1 b1 (.cons (Deq.int _ _) (.cons (Dqs.tup a2 b2 (.cons (Deq.int _ _) (.cons (Deq.int _ _) .nil))) (.cons (Dqs.tup a3 b3 (.cons (Deq.int _ _) (.cons (Deq.int _ _) .nil))) (.cons (Deq.int _ _) .nil))))
theorem Dqs.chs{H:Hp}{n:Nat}:∀{xs ys:List (Addr × Cl × Int)},xs.map (·.2)=ys.map (·.2)->(∀k,k∈xs->IsCh K H k.1 k.2)->(∀k,k∈ys->IsCh K H k.1 k.2)->Dqs K H (n+3) (xs.map λk=>V.ref k.1) (ys.map λk=>V.ref k.1)
 | [],[],_,_,_=>.nil
 | [],_::_,e,_,_=>by cases e
 | _::_,[],e,_,_=>by cases e
 | x::xs,y::ys,e,hx,hy=>by
   injection e with e1 e2
   refine .cons ?_ (Dqs.chs e2 (λk hk=>hx k (tO _ hk)) λk hk=>hy k (tO _ hk))
   obtain⟨p,a1,a2⟩:=(hx x tP).ex
   obtain⟨q,b1,b2⟩:=(hy y tP).ex
   have e1:x.2=y.2:=e1
   rw[e1]at a1 a2
   exact Dqs.tup a1 b1 (.cons (Dqs.cl a2 b2) (.cons (Deq.int _ _) .nil))
theorem Dqs.flats{H:Hp}{n:Nat}:∀{xs:List V},xs.all zcc=true->Dqs K H n xs xs
 | [],_=>.nil
 | x::xs,h=>by
   rw[pN,Bool.and_eq_true]at h
   exact .cons (Deq.flat n h.1) (Dqs.flats h.2)
theorem Dqs.tups{H:Hp}{n:Nat}:∀{xs ys:List (Addr × List V)},xs.map (·.2)=ys.map (·.2)->(∀k,k∈xs->H k.1=some (.tup k.2)/\k.2.all zcc=true)->(∀k,k∈ys->H k.1=some (.tup k.2))->Dqs K H (n+1) (xs.map λk=>V.ref k.1) (ys.map λk=>V.ref k.1)
 | [],[],_,_,_=>.nil
 | [],_::_,e,_,_=>by cases e
 | _::_,[],e,_,_=>by cases e
 | x::xs,y::ys,e,hx,hy=>by
   injection e with e1 e2
   refine .cons ?_ (Dqs.tups e2 (λk hk=>hx k (tO _ hk)) λk hk=>hy k (tO _ hk))
   obtain⟨a1,a2⟩:=hx x tP
   have b1:=hy y tP
   have e1:x.2=y.2:=e1
   rw[<-e1]at b1
   exact Dqs.tup a1 b1 (Dqs.flats a2)
def zqj{H:Hp}{D D':Addr}{xs ys:List (Addr × Cl × Int)}(e:xs.map (·.2)=ys.map (·.2))(h:ChIn K H D xs)(h':ChIn K H D' ys):zrL K 9 (.ref D) (.ref D') H:=
 have d:=zcQ (Dqs.chs (K:=K) (n:=6) e h.chs.ch h'.chs.ch)
 ⟨D,D',_,_,rfl,rfl,.inr ⟨SqL.of h.chs.at_,SqL.of h'.chs.at_⟩,d.1,d.2⟩
inductive zmu(K:am)(vs:List V)(H:Hp)(Q:VK)(_:XK):Prop
 | mk (u pw pz:Addr) (k a b c d:Int) (x:Cl × Int) (_:vs=[.ref u,.int k,.ref pw,.ref pz]) (_:IsCh K H u x) (_:H pw=some (.tup [.int a,.int b])) (_:H pz=some (.tup [.int c,.int d])) (_:∀u' H',Same H H'->IsCh K H' u' (if x.1.n=k then(⟨k,a,b,c,d,x.1.came⟩,x.2)else x)->Q (.ref u') H')
def zdI:FnScope ["_law_chore","_law_k","_law_weight_here","_law_speed","_law_claim","_law_left"] pl37 (zac bK):=fsc
include T in
theorem zjF(D:Dfn K mg "_law_turned" bK pl37 f fd):Cal P w K mg bf "_law_turned" 1 pl37 (zmu K):=by
 refine D.cal (D.F.ok zdI (by walk_at "z") (λc A o s H vs Q E hr h=>?_))
 obtain⟨u,pw,pz,k,a,b,c,d,x,rfl,hu,hw,hz,q⟩:=h
 refine⟨_,(zab (ziD (pv 0) (zeo rfl (zaJ (zaH (i:=4) zdI.nd rfl (Or.inl rfl)) (zaJ (zaH (i:=5) zdI.nd rfl (Or.inl rfl)) zcu))))
  (zab (au (zas znq (zaq zal (pv 4) zae (λ_ _=>rfl)) (pv 1) (zaB _)) (zag (zah (pv 0))) zaw)
  (zag (zah (zaM (zaa (zaM (pai (zad (pv 1) (zad (pv 2) (zad (pv 3) (zad (zaq zal (pv 4) zae (λ_ _=>rfl)) zaL)))))) (zaa (pv 5) zaf))))))),?_⟩
 obtain⟨p,u1,hp⟩:=id hu.ex
 obtain⟨qw,qz,p1,p2,p3⟩:=id hp.ex
 refine⟨_,rfl,u,_,rfl,SqT.of u1,rfl,_,_,rfl,_,_,rfl,rfl,?_⟩
 refine⟨_,rfl,p,_,_,_,rfl,rfl,SqT.of p1,rfl,_,rfl,rfl,_,rfl,?_⟩
 by_cases e:x.1.n=k
 ·rw[if_pos e]at q
  rw[decide_eq_true (show V.int x.1.n=V.int k by rw[e])]
  refine iteF ?_
  exact⟨_,rfl,_,rfl,_,rfl,_,rfl,p,_,_,_,rfl,rfl,SqT.of p1,rfl,si4,λc2 H2 s2 n2 h2=>⟨_,rfl,si2,λu3 H3 s3 n3 h3=>q u3 H3 (s2.trans s3) ⟨c2,h3,pw,pz,s3 _ _ h2,(s2.trans s3) _ _ hw,(s2.trans s3) _ _ hz⟩⟩⟩
 ·rw[if_neg e]at q
  rw[tL (λz=>e (V.int.inj z))]
  exact iteT ⟨_,rfl,q u H (Same.refl _) hu⟩
inductive zpn(cs:CsA)(cS cH:Addr)(vs:List V)(H:Hp)(Q:VK)(_:XK):Prop
 | mk (o:Addr) (v:Hv) (_:vs=[.ref o]) (_:IsHs cs cS cH H o v) (_:PsOk v.rs v.ps) (_:∀b H',Same H H'->(b=false->∀q,q∈v.ps->q.2.1=.held->q.2.2.came≠v.t)->Q (.bl b) H')
def fS:FnScope ["_law_house"] ["_law_house"] (zac zcy):=fsc
include T in
theorem fT(D:Dfn K mg "_law_place_now" zcy ["_law_house"] f fd)(DG:MOk CX0 P w K mg bf 2 Ad "held" (zoW K (CsA.mk Ae Aa Ab Ac) Af Ad))(DN:MOk CX0 P w K mg bf 1 Ad "now" (zmq (CsA.mk Ae Aa Ab Ac) Af Ad)):Cal P w K mg bf "_law_place_now" 3 ["_law_house"] (zpn (CsA.mk Ae Aa Ab Ac) Af Ad):=by
 refine D.cal (D.F.ok fS (by walk_at "z") (λc A o s H vs Q E hr h=>?_))
 obtain⟨o,v,rfl,hh,ok,q⟩:=h
 obtain⟨dx,e⟩:=hh.at_
 refine⟨_,(zag (zah (zcv (zqI hr.units0) (zaZ (N:=["_law_place","_law_house"]) (js:=[0]) rfl cpo (zaK (zaI (k:=2) (pv 0) hr.o zaD)) (λ_ _ _ _ _=>(zdb (zas zdk (zaq (r:=rIxT K) zal (pv 0) zae (λ_ _=>rfl)) (zjd (P:=P) (w:=w) (K:=K) (mg:=mg) (bf:=bf) (k:=1) rfl rfl rfl rfl rfl (pv 1) hr.o zaD) (zaB _)))) (λ_ _ _ _ _=>(pv 0))) (zaO zaf) (zaB _)))),?_⟩
 refine⟨_,rfl,o,_,dx,_,_,rfl,e,rfl,DG,o,v,rfl,hh,ok,λD H1 bs s1 nD hD eb hb=>⟨D,rfl,⟨_,SqL.of hD⟩,?_⟩⟩
 have ml:(bs.map λb=>V.ref b.1).length=bs.length:=tq _
 have lb:bs.length=(ofW .held v.ps).length:=by
  have:=tS List.length eb
  rw[tq,tq]at this
  exact this
 have lw:=ok.len_w .held rfl
 have at_b:∀{i:Nat}{b:Addr × List V},bs[i]?=some b->∃z,(ofW .held v.ps)[i]?=some z/\b.2=[V.int z.2.2.n,V.str z.2.2.nm,V.int z.2.2.came]:=λ{i b} hi=>by
  have:=tS (λl:List (List V)=>l[i]?) eb
  simp only[getElem?_map,hi]at this
  cases ez:(ofW .held v.ps)[i]? with
  | none=>rw[ez]at this;cases this
  | some z=>
    rw[ez]at this
    exact⟨z,rfl,tF this⟩
 refine aC (xs:=bs.map λb=>V.ref b.1) (tak (ofW .held v.ps) λz=>decide (z.2.2.came=v.t)) (itm bs λb=>V.ref b.1) (SqL.of hD) ?_ ?_ (zaC (by rw[ml];omega)) (λD2 H2 s2 nD2 hD2=>?_)
 ·intro i x Hh Q' hx sh q'
  obtain⟨b,ez,hx⟩:=gmp hx
  cases hx
  obtain⟨z,hz,e2⟩:=at_b ez
  have zz:=q' Hh (Same.refl _)
  unfold tak at zz
  rw[hz]at zz
  have hb2:=sh _ _ (hb b (tz ez))
  rw[e2]at hb2
  obtain⟨dx2,e3⟩:=((hh.same s1).same sh).at_
  refine⟨_,rfl,b.1,_,_,_,rfl,rfl,SqT.of hb2,rfl,_,rfl,o,_,dx2,_,_,rfl,e3,rfl,DN,o,v,rfl,(hh.same s1).same sh,rfl,_,rfl,?_⟩
  rw[show decide (V.int z.2.2.came=V.int v.t)=decide (z.2.2.came=v.t)from decide_eq_decide.mpr ⟨V.int.inj,λz=>by rw[z]⟩]
  exact zz
 ·intro i x Hh Q' hx _ sh q'
  obtain⟨b,ez,hx⟩:=gmp hx
  cases hx
  have zz:=q' Hh (Same.refl _)
  unfold itm at zz
  rw[ez]at zz
  exact⟨_,rfl,zz⟩
 refine⟨si0,λl5 H5 s5 n5 h5=>⟨D2,l5,_,rfl,rfl,SqL.of (s5 _ _ hD2),SqL.of h5,q _ H5 (s1.trans (s2.trans s5)) λhb0 z hz zh ec=>?_⟩⟩
 have m:=zbV.mpr ⟨hz,zh⟩
 obtain⟨i,hi,ei⟩:=tX m
 have hi2:i∈(List.range (bs.map λb=>V.ref b.1).length).filter (tak (ofW .held v.ps) λz=>decide (z.2.2.came=v.t)):=by
  refine mem_filter.mpr ⟨mem_range.mpr (by rw[ml,lb];exact hi),?_⟩
  unfold tak
  rw[tm hi,ei]
  exact decide_eq_true ec
 have:itm bs (λb=>V.ref b.1) i∈((List.range (bs.map λb=>V.ref b.1).length).filter (tak (ofW .held v.ps) λz=>decide (z.2.2.came=v.t))).map (itm bs λb=>V.ref b.1):=mem_map.mpr ⟨i,hi2,rfl⟩
 rw[Bool.not_eq_false',List.isEmpty_iff]at hb0
 rw[hb0]at this
 cases this
def zcm{H:Hp}{a:Addr}{kvs:List (Key × V)}(h:H a=some (.dK kvs)){s:Str}{v:V}(e:valV kvs (.inr s)=some v):DGet H a (.str s) (some v):=by
 rw[<-e]
 exact DGet.k (k:=.inr s) h
def cx{kvs:List (Key × V)}{k:Key}{v w:V}(h:valV kvs k=some w):(putK kvs k v).map (·.1)=kvs.map (·.1):=by
 unfold putK
 rw[zdl,h,if_pos (show(some w).isSome=true from rfl),tW]
 refine rV λp _=>?_
 show(if p.1=k then(p.1,v)else p).1=p.1
 split<;>rfl
structure SD(H:Hp)(sd ds:Addr)(h:Int)(n:Nat):Prop where
 ex:∃kvs:List (Key × V),H sd=some (.dK kvs)/\valV kvs (.inr "sorts")=some (.ref ds)/\valV kvs (.inr "hands")=some (.int h)/\valV kvs (.inr "many")=some (.int n)/\kvs.length=3
structure SS(H:Hp)(ds:Addr)(rs:List SR):Prop where
 ex:∃kvs:List (Key × V),H ds=some (.dK kvs)/\kvs.map (·.1)=rs.map (λr=>Sum.inr r.nm)/\∀r,r∈rs->∃p pw pz,valV kvs (.inr r.nm)=some (.ref p)/\H p=some (.tup [.ref pw,.ref pz,.int (r.sp*r.tr)])/\H pw=some (.tup [.int r.a,.int r.b])/\H pz=some (.tup [.int r.c,.int r.d])
def SD.same{H H':Hp}{sd ds:Addr}{h:Int}{n:Nat}(s:Same H H')(d:SD H sd ds h n):SD H' sd ds h n:=let ⟨kvs,a,b⟩:=d.ex;⟨kvs,s _ _ a,b⟩
def SS.same{H H':Hp}{ds:Addr}{rs:List SR}(s:Same H H')(d:SS H ds rs):SS H' ds rs:=let ⟨kvs,a,b,c⟩:=d.ex;⟨kvs,s _ _ a,b,λr hr=>let ⟨p,pw,pz,x,y,z,u⟩:=c r hr;⟨p,pw,pz,x,s _ _ y,s _ _ z,s _ _ u⟩⟩
def zpo{H H':Hp}{o n dx cH:Addr}{fs:List (Str × V)}{kvs:List (Key × V)}(k:But2 o n H H')(ho:H o=some (.ins cH dx fs))(hn:H n=some (.dK kvs)){c:Addr}{u:HO}(hc:H c=some u)(n1:∀C dx fs,u≠.ins C dx fs)(n2:c≠n):H' c=some u:=k _ _ (λz=>by
 rw[z,ho]at hc
 exact n1 _ _ _ (tF hc).symm) n2 hc
def AnsQ(K:am)(cs:CsA)(cS cH cG cL tT:Addr)(H:Hp)(o:Addr)(v:Hv)(tl:Int->Int)(km:Nat)(x:Int)(Q:VK):Prop:=
 (∀D g lc xs v' tl' n H',But2 o v.aN H H'->HG cs cS cH tT H' o v' tl' (km+1)->v'.aN=v.aN->v'.t=v.t->v'.rs=rsN v.rs x->WayOk v v'.rs v'.h v'.ps->((n=V.non/\v'.ps.length=v.ps.length)\/(n=.int v.ps.length/\v'.ps.length=v.ps.length+1))->H' D=some (.lst [.ref g,.ref lc,.int v'.h])->IsGr cG H' g n->ChIn K H' lc xs->xs.map (·.2)=chV v'.rs v'.ps->aJ v'.h.toNat v.t (chV v'.rs v'.ps) (tlL tl v.ps)->Q (.ref D) H')/\
 (∀D g lc xs h' rs' ps' H',Same H H'->H' D=some (.lst [.ref g,.ref lc,.int h'])->WayOk v rs' h' ps'->ChIn K H' lc xs->xs.map (·.2)=chV rs' ps'->LateV cL h'.toNat v.t (chV rs' ps') (tlL tl v.ps) H' g->Q (.ref D) H')
def zjG{H H':Hp}{l:Addr}{xs:List (Addr × Cl × Int)}(h:IsChs K H l xs)(kp:∀{c:Addr}{u:HO},H c=some u->(∀C dx fs,u≠.ins C dx fs)->(∀kvs,u≠.dK kvs)->H' c=some u):IsChs K H' l xs:=by
 have kt:∀{c:Addr}{ys:List V},H c=some (.tup ys)->H' c=some (.tup ys):=λhc=>kp hc (λ_ _ _ z=>by cases z) (λ_ z=>by cases z)
 refine⟨kp h.at_ (λ_ _ _ z=>by cases z) (λ_ z=>by cases z),λk hk=>?_⟩
 obtain⟨pc,a,b⟩:=(h.ch k hk).ex
 obtain⟨pw,ps,x,y,z⟩:=b.ex
 exact⟨pc,kt a,pw,ps,kt x,kt y,kt z⟩
section
variable{cs:CsA}{cS cH cG cL tT o sd:Addr}{H H6 H7 H8:Hp}{v:Hv}{tl:Int->Int}{km:Nat}{x:Int}{Q:VK}
def zfA(a:AnsQ K cs cS cH cG cL tT H o v tl km x Q){lc g D:Addr}{xs:List (Addr × Cl × Int)}{rs':List SR}{h':Int}{ps':List (Addr × Wd × Pv)}(s6:Same H H6)(hc:IsChs K H6 lc xs)(ex:xs.map (·.2)=chV rs' ps')(w:WayOk v rs' h' ps')(s7:Same H6 H7)(l:LateV cL h'.toNat v.t (chV rs' ps') (tlL tl v.ps) H7 g)(s8:Same H7 H8)(hD:H8 D=some (.lst [.ref g,.ref lc,.int h'])):Q (.ref D) H8:=by
 have s68:=s7.trans s8
 exact a.2 D g lc xs h' rs' ps' H8 (s6.trans s68) hD w (zmj w.p (s68 _ _ hc.at_) ex λb hb=>(hc.ch b hb).same s68) ex (l.same s8)
def zjH(a:AnsQ K cs cS cH cG cL tT H o v tl km x Q)(hg:HG cs cS cH tT H o v tl km){lc g D s l':Addr}{n:V}{xs:List (Addr × Cl × Int)}{rs':List SR}{h':Int}{ps':List (Addr × Wd × Pv)}(s6:Same H H6)(hc:IsChs K H6 lc xs)(ex:xs.map (·.2)=chV rs' ps')(w:WayOk v rs' h' ps')(wt:∀q,q∈ps'->q.2.1=.waiting->∃z,z∈v.ps/\z.2.1=.waiting/\z.2.2.n=q.2.2.n)(er:rs'=rsN v.rs x)(en:(n=V.non/\ps'.length=v.ps.length)\/(n=.int v.ps.length/\ps'.length=v.ps.length+1))(kp:aJ h'.toNat v.t (chV rs' ps') (tlL tl v.ps))(k7:But o H6 H7)(hh:IsHs cs cS cH H7 o (v.to s rs' h' l' ps'))(hgr:IsGr cG H7 g n)(s8:Same H7 H8)(hD:H8 D=some (.lst [.ref g,.ref lc,.int h'])):Q (.ref D) H8:=by
 obtain⟨dx,e0⟩:=(hg.same s6).hh.at_
 have hc7:IsChs K H7 lc xs:=zjG hc λhc n1 _=>k7 _ _ (λz=>by
  rw[z,e0]at hc
  exact n1 _ _ _ (tF hc).symm) hc
 exact a.1 D g lc xs (v.to s rs' h' l' ps') tl n H8 (λc u c1 _ hc=>s8 _ _ (k7 _ _ c1 (s6 _ _ hc))) (((hg.same s6).ask w wt k7 hh).same s8) rfl rfl er w en hD (hgr.same s8) (zmj w.p (s8 _ _ hc7.at_) ex λb hb=>(hc7.ch b hb).same s8) ex kp
def zgO(hg:HG cs cS cH tT H o v tl km){ds:Addr}{h:Int}{m:Nat}(sD:SD H sd ds h m)(ne:sd≠v.aN)(s6:Same H H6)(k:But2 o v.aN H6 H7):DGet H7 sd (.str "hands") (some (.int h)):=by
 obtain⟨kv3,d1,d2,d3,d4,d5⟩:=sD.ex
 have hg6:=hg.same s6
 obtain⟨dx,e0⟩:=hg6.hh.at_
 exact zcm (zpo k e0 hg6.hh.p.nb (s6 _ _ d1) (λ_ _ _ z=>by cases z) ne) d3
end
inductive zpp(K:am)(cs:CsA)(cS cH cG cL tT:Addr)(vs:List V)(H:Hp)(Q:VK)(_:XK):Prop
 | mk (o sd ds:Addr) (v:Hv) (tl:Int->Int) (km:Nat) (x:Int) (_:vs=[.ref o,.ref sd,.int x]) (_:HG cs cS cH tT H o v tl km) (_:SD H sd ds v.h v.ps.length) (_:SS H ds v.rs) (_:sd≠v.aN) (_:(∀q,q∈v.ps->q.2.1=.held->q.2.2.came≠v.t)) (_:v.t<=900) (_:km<=900) (_:v.ps.length<=150) (_:AnsQ K cs cS cH cG cL tT H o v tl km x Q)
def zav:FnScope ["_law_house","_law_state","_law_cell_here","_law_names","_law_sort","_law_weight_here","_law_speed","_law_left","_law_chores","_law_way","_law_waits","_law_came","_law_k","_law_j","_law_chore","_law_hands"] pl38 (zac zcY):=fsc
include T in
theorem fU(D:Dfn K mg "_law_question" zcY pl38 f fd)(zar:Cal P w K mg bf "_law_draw" 2 pl30 zgy)(aE:Cal P w K mg bf "_law_weight" 3 pl29 zfz)(zby:Cal P w K mg bf "_law_low" 1 ["_law_one"] (zqi K))(zcR:Cal P w K mg bf "_law_turned" 1 pl37 (zmu K))(DZ:MOk CX0 P w K mg bf 14 Ad "change" (zmo K (CsA.mk Ae Aa Ab Ac) Af Ad Ah Ag tT))(BD:MOk CX0 P w K mg bf 14 Ad "change_speed" (zkA K (CsA.mk Ae Aa Ab Ac) Af Ad Ah Ag tT))(Ak:MOk CX0 P w K mg bf 11 Ad "chores_now" (zmY K (CsA.mk Ae Aa Ab Ac) Af Ad))(DU:MOk CX0 P w K mg bf 16 Ad "come" (zpa K (CsA.mk Ae Aa Ab Ac) Af Ad Ah Ag tT))(Em:MOk CX0 P w K mg bf 14 Ad "fewer" (zpb K (CsA.mk Ae Aa Ab Ac) Af Ad Ah Ag tT))(Ey:MOk CX0 P w K mg bf 15 Ad "hold" (zqZ K (CsA.mk Ae Aa Ab Ac) Af Ad Ah Ag tT))(DN:MOk CX0 P w K mg bf 1 Ad "now" (zmq (CsA.mk Ae Aa Ab Ac) Af Ad))(En:MOk CX0 P w K mg bf 6 Ad "state" (zpg (CsA.mk Ae Aa Ab Ac) Af Ad))(BH:MOk CX0 P w K mg bf 10 Ad "waiting" (zlm K (CsA.mk Ae Aa Ab Ac) Af Ad tT)):Cal P w K mg bf "_law_question" 17 pl38 (zpp K (CsA.mk Ae Aa Ab Ac) Af Ad Ah Ag tT):=by
 refine D.cal (D.F.ok zav (by walk_at "z") (λc A o s H vs Q E hr h=>?_))
 obtain⟨o,sd,ds,v,tl,km,x,rfl,hg,sD,sS,sN,nop,t9,k9,p9,ans⟩:=h
 refine⟨_,(zab (zap (i:=3) zav.nd rfl (Or.inl rfl) (zbK (ziS hr.hd) rfl T.ziV zfG (zaa (zaN hr.units1 (pv 1) zaT (λ_ _=>rfl)) zaf)))
  (zab (zap (i:=4) zav.nd rfl (Or.inl rfl) (zaq zbC (pv 3) (zaj zar hr.o rfl (zaa (pv 2) (zaa zae (zaa (zay zaF rfl T.zdf zbL (zaa (pv 3) zaf)) zaf)))) (λ_ _=>rfl)))
  (zab (ziD (zaN hr.units1 (zaN hr.units1 (pv 1) zaT (λ_ _=>rfl)) (pv 4) (λ_ _=>rfl)) (zeo rfl (zaJ (zaH (i:=5) zav.nd rfl (Or.inr rfl)) (zaJ (zaH (i:=6) zav.nd rfl (Or.inr rfl)) (zaJ (zaH (i:=7) zav.nd rfl (Or.inl rfl)) zcu)))))
  (zab (zap (i:=8) zav.nd rfl (Or.inl rfl) (zaI (k:=11) (pv 0) hr.o zaD))
  (zab (zap (i:=9) zav.nd rfl (Or.inl rfl) (zaj zar hr.o rfl (zaa (pv 2) (zaa zae (zaa zae zaf)))))
  (zab (zap (i:=10) zav.nd rfl (Or.inl rfl) (zaI (k:=10) (pv 0) hr.o zaD))
  (zhp (au (PW.pt (zgH (zas zrq (pv 9) zae (zaB _)) (zdQ (zas zrq (zay zaF rfl T.zdf zbL (zaa (pv 8) zaf)) zae (zaB _))))) (zab (zap (i:=11) zav.nd rfl (Or.inl rfl) (zaz ay (zaI (k:=1) (pv 0) hr.o zaD) (zaz zbJ (pv 9) (zaj zar hr.o rfl (zaa (pv 2) (zaa zae (zaa zae zaf)))))))
  (zab (zcS (zpC qj qb qc zfJ (pv 8) (zaa (zaM (zaa (zaM (pai (zad (zaN hr.units1 (pv 1) zaT (λ_ _=>rfl)) (zad (pv 5) (zad (pv 6) (zad (pv 11) zaL)))))) (zaa (pv 7) zaf))) zaf)))
  (zab (au (zas zdk (pv 9) zae (zaB _)) (zag (zah (zaO (zaa (zbd (k:=15) (pv 0) hr.o zaD (zaa (pv 4) (zaa (pv 11) zaf))) (zaa (pv 8) (zaa (zaN hr.units1 (pv 1) zaT (λ_ _=>rfl)) zaf)))))) zaw)
  (zag (zah (zaO (zaa (zbd (k:=16) (pv 0) hr.o zaD (zaa (pv 4) zaf)) (zaa (pv 8) (zaa (zaN hr.units1 (pv 1) zaT (λ_ _=>rfl)) zaf))))))))) zaw)
  (zhp (au (PW.pt (zgH (zas zdk (pv 9) zae (zaB _)) (zdQ (zas (zqI hr.units0) (pv 10) (zaO zaf) (zaB _))))) (zab (zap (i:=12) zav.nd rfl (Or.inr rfl) (zaq zbC (pv 10) (zaj zar hr.o rfl (zaa (pv 2) (zaa zae (zaa (zay zaF rfl T.zdf zbL (zaa (pv 10) zaf)) zaf)))) (λ_ _=>rfl)))
  (zab (zeu (i:=8) (N:=["_law_chore","_law_weight_here","_law_speed","_law_k"]) (js:=[5,6,12]) zav.nd rfl rfl rfl cpo (zaK (pv 8)) (λ_ _ _ _ _=>zbG) (λ_ _ _ _ _=>(zaj zcR hr.o rfl (pai (zad (pv 0) (zad (pv 3) (zad (pv 1) (zad (pv 2) zaL))))))))
  (zag (zah (zaO (zaa (zbd (k:=14) (pv 0) hr.o zaD (zaa (pv 12) (zaa (pv 4) zaf))) (zaa (pv 8) (zaa (zaN hr.units1 (pv 1) zaT (λ_ _=>rfl)) zaf)))))))) zaw)
  (zhp (au (zas zdk (pv 9) zae (zaB _)) (zab (zap (i:=6) zav.nd rfl (Or.inr rfl) (zaj aE hr.o rfl (zaa (pv 2) (zaa zae zaf))))
  (zab (zcJ tY rfl (znY rfl T.zhL (zaa (zbK zhs rfl T.ziV zfG (zaa (pv 8) zaf)) zaf)) (zeo rfl (zaJ (zaH (i:=13) zav.nd rfl (Or.inl rfl)) (zaJ (zaH (i:=14) zav.nd rfl (Or.inl rfl)) zcu))) (zag (au (zas zdk (zaq zal (zbd (k:=6) (pv 0) hr.o zaD (zaa (zaq zal (zaq zal (pv 14) zae (λ_ _=>rfl)) zae (λ_ _=>rfl)) zaf)) zae (λ_ _=>rfl)) (pv 4) (zaB _)) (zag (ziD (zaj zcR hr.o rfl (pai (zad (pv 14) (zad (zaq zal (zaq zal (pv 14) zae (λ_ _=>rfl)) zae (λ_ _=>rfl)) (zad (zaq zal (zaq zal (pv 14) zae (λ_ _=>rfl)) zae (λ_ _=>rfl)) (zad (zaj zby hr.o rfl (zaa (pv 6) zaf)) zaL)))))) (zsu (pv 8) (pv 13) znW))) zaw)))
  (zag (zah (zaO (zaa (zbd (k:=14) (pv 0) hr.o zaD (zaa (pv 4) (zaa (pv 6) zaf))) (zaa (pv 8) (zaa (zaN hr.units1 (pv 1) zaT (λ_ _=>rfl)) zaf)))))))) zaw)
  (zab (zap (i:=15) zav.nd rfl (Or.inl rfl) (zaz ay zae (zaj zar hr.o rfl (zaa (pv 2) (zaa zae (zaa (zaN hr.units1 (pv 1) zaT (λ_ _=>rfl)) zaf))))))
  (zag (zah (zaO (zaa (zbd (k:=14) (pv 0) hr.o zaD (zaa (pv 15) zaf)) (zaa (pv 8) (zaa (pv 15) zaf)))))))))))))))),?_⟩
 obtain⟨dx,e⟩:=hg.hh.at_
 obtain⟨kv3,d1,d2,d3,d4,d5⟩:=sD.ex
 obtain⟨kvs,c1,c2,c3⟩:=sS.ex
 have ek:(kvs.map λkv=>kV kv.1)=v.rs.map λr=>V.str r.nm:=by
  have:=tS (List.map kV) c2
  rw[tW,tW]at this
  exact this
 have ml:(v.rs.map λr=>V.str r.nm).length=v.rs.length:=tq _
 have l0:=hg.ro.l0
 have l1:=hg.ro.l1
 have j0:=zbg x 1 (m:=v.rs.length) (by omega)
 have j1:=aA x 1 (m:=v.rs.length) (by omega)
 obtain⟨i,ei⟩:∃i:Nat,zbj x 1 v.rs.length=(i:Int):=⟨_,(rC j0).symm⟩
 rw[ei]at j1
 have il:i<v.rs.length:=by omega
 obtain⟨r,hi⟩:∃r,v.rs[i]?=some r:=⟨_,tm il⟩
 have hr':=tz hi
 obtain⟨er,fd⟩:=zdH hg.ro hr'
 obtain⟨sp,spw,spz,r1,r2,r3,r4⟩:=c3 r hr'
 have ok9:=hg.ok (by omega)
 refine⟨_,rfl,sd,_,rfl,zcm d1 d2,ds,kvs,rfl,.inl c1,λln H1 s1 n1 h1=>?_⟩
 rw[ek]at h1
 refine⟨_,rfl,_,rfl,_,rfl,ln,_,rfl,.inl (SqL.of h1),x,1,_,rfl,by decide,by rw[ml];omega,ln,_,_,.str r.nm,rfl,rfl,SqL.of h1,by rw[ml,ei];exact zcT (by rw[getElem?_map,hi];rfl),?_⟩
 refine⟨_,rfl,sd,_,rfl,zcm (s1 _ _ d1) d2,_,rfl,ds,_,rfl,zcm (s1 _ _ c1) r1,sp,_,rfl,SqT.of (s1 _ _ r2),rfl,_,_,rfl,_,_,rfl,_,_,rfl,rfl,?_⟩
 refine⟨_,rfl,o,_,dx,_,_,rfl,s1 _ _ e,rfl,Ak,o,v,rfl,hg.hh.same s1,hg.p,λlc H2 xs s2 nlc hI ex=>?_⟩
 have s12:=s1.trans s2
 refine⟨_,rfl,x,0,5,rfl,by decide,by decide,?_⟩
 generalize hwy:zbj x 0 5=wy
 have w0:0<=wy:=by rw[<-hwy];exact zbg x 0 (by decide)
 have w5:wy<5:=by rw[<-hwy];exact aA x 0 (by decide)
 refine⟨_,rfl,o,_,dx,_,_,rfl,s12 _ _ e,rfl,BH,o,v,rfl,hg.hh.same s12,hg.p,hg.t0,by omega,hg.ca,s12 _ _ hg.hT,λlw H3 s3 nw hw=>?_⟩
 have s03:=s12.trans s3
 have hI3:=hI.same s3
 have lcn:H lc=none:=Same.free s1 nlc
 have lx:xs.length=(v.ps.filter λq=>q.2.1.opn).length:=by
  have:=tS List.length ex
  unfold chV at this
  rw[tq,tq]at this
  exact this
 have mx:(xs.map λq=>V.ref q.1).length=xs.length:=tq _
 have rN:wy≠3->v.rs=rsN v.rs x:=λne=>by
  unfold rsN
  rw[hwy,if_neg ne]
 refine⟨λσ' H' => σ'=[some (.ref o),some (.ref sd),some (.int x),some (.ref ln),some (.str r.nm),some (.ref spw),some (.ref spz),some (.int (r.sp*r.tr)),some (.ref lc),some (.int wy),some (.ref lw),none,none,none,none,none]/\H3=H',?_,?_⟩
 ·refine⟨_,rfl,_,_,rfl,rfl,_,rfl,?_⟩
  refine ite2 (λcA=>?_) (λcA=>iteF ⟨rfl,rfl⟩)
  have cA:=t4 cA
  refine⟨_,rfl,lc,_,rfl,.inl (SqL.of hI3.chs.at_),_,_,rfl,rfl,_,rfl,?_⟩
  rw[mx]
  refine ite2 (λcB=>?_) (λcB=>⟨rfl,rfl⟩)
  have cB:=t4 cB
  have e3:=s03 _ _ e
  have f0:=zbg x 2 (m:=8) (by decide)
  have f8:=aA x 2 (m:=8) (by decide)
  refine⟨_,rfl,o,_,dx,_,_,rfl,e3,rfl,DN,o,v,rfl,hg.hh.same s03,_,rfl,_,rfl,x,2,8,rfl,by decide,by decide,_,_,rfl,rfl,.inl ⟨by omega,by omega⟩,_,_,rfl,rfl,?_⟩
  obtain⟨c,ec,cc0,cc1,cc2⟩:∃c:Int,v.t+wy*zbj x 2 8=c/\v.t<=c/\c<=v.t+8/\(wy=0->c=v.t):=by
   have:wy=0\/wy=1:=by omega
   rcases this with z | z<;>rw[z]
   ·exact⟨_,rfl,by omega,by omega,λ_=>by omega⟩
   ·exact⟨_,rfl,by omega,by omega,λy=>by cases y⟩
  dsimp only
  rw[ec]
  refine⟨_,rfl,.inl ⟨rfl,_,SqL.of hI3.chs.at_⟩,_,rfl,sd,_,rfl,zcm (s03 _ _ d1) d4,_,rfl,_,rfl,_,rfl,si4,λcl H4 s4 n4 h4=>⟨_,rfl,si2,λu H5 s5 n5 h5=>?_⟩⟩
  have s35:=s4.trans s5
  have hI5:=hI3.same s35
  refine⟨lc,_,_,rfl,rfl,hI5.chs.at_,zaC (by rw[mx];omega),λH6 k6 h6=>?_⟩
  have s6:Same H H6:=(s03.trans s35).but lcn k6
  have nl:∀{y:Addr}{ys:List V},H5 y=some (.tup ys)->y≠lc:=λh w=>by rw[w,hI5.chs.at_]at h;cases h
  have kt:∀{y:Addr}{ys:List V},H5 y=some (.tup ys)->H6 y=some (.tup ys):=λh=>k6 _ _ (nl h) h
  have hc6:IsChs K H6 lc (xs++[(u,⟨v.ps.length,r.a,r.b,r.c,r.d,c⟩,r.sp*r.tr)]):=by
   refine⟨by rw[h6,tV];rfl,λk hk=>?_⟩
   rcases mem_append.mp hk with hk | hk
   ·exact(hI5.chs.ch k hk).but k6 hI5.chs.at_
   ·rw[mem_singleton.mp hk]
    have s05:=s03.trans s35
    exact⟨cl,kt h5,spw,spz,kt (s5 _ _ h4),kt (s05 _ _ r3),kt (s05 _ _ r4)⟩
  have op:(v.ps.filter λq=>q.2.1.opn).length<40:=by omega
  have hg6:=hg.same s6
  have e6:=s6 _ _ e
  have t0:=hg.t0
  refine⟨_,rfl,rfl,_,rfl,?_⟩
  by_cases c1':wy=1
  ·rw[decide_eq_true (show V.int wy=V.int 1 by rw[c1'])]
   refine iteT ?_
   have W:=zlv hg hr' (c:=c) (by omega) (by omega) (d:=.held) rfl (λz=>by cases z) (by omega) op
   have exx:∀a,(xs++[((u,⟨v.ps.length,r.a,r.b,r.c,r.d,c⟩,r.sp*r.tr):Addr × Cl × Int)]).map (·.2)=chV v.rs (v.ps++[(a,.held,pvOf r v.ps.length c)]):=λa=>by rw[(W a).2,tV,ex];rfl
   refine⟨_,rfl,o,_,dx,_,_,rfl,e6,rfl,Ey,_,rfl,_,rfl,o,v,tl,r,c,rfl,hg6.hh,ok9,hg6.ht,hg6.hT,hr',fd.2.2,cc0,by omega,op,λa=>(W a).1.p,λa s l' g H7 es kp k7 hh7 ng hgr=>?_,λa g H7 s7 hl=>?_⟩
   ·subst es
    refine⟨_,rfl,_,rfl,sd,_,rfl,zgO hg sD sN s6 (λc u c1 _ hc=>k7 _ _ c1 hc),si3,λD H8 s8 n8 h8=>?_⟩
    refine zjH ans hg s6 hc6 (exx a) (W a).1 (λq hq qw=>?_) (rN (by omega)) (.inr ⟨rfl,by rw[tQ];rfl⟩) kp k7 hh7 hgr s8 h8
    rcases mem_append.mp hq with hq | hq
    ·exact⟨q,hq,qw,rfl⟩
    ·rw[mem_singleton.mp hq]at qw
     cases qw
   ·exact⟨_,rfl,_,rfl,sd,_,rfl,zgO hg sD sN (s6.trans s7) (λc u _ _ hc=>hc),si3,λD H8 s8 n8 h8=>zfA ans s6 hc6 (exx a) (W a).1 s7 hl s8 h8⟩
  ·rw[tL (λz=>c1' (V.int.inj z))]
   refine iteF ?_
   have ct:=cc2 (by omega)
   rw[ct]at hc6
   have W:=zlv hg hr' (c:=v.t) (by omega) (by omega) (d:=.waiting) rfl (λ_=>rL _) (by omega) op
   have exx:∀a,(xs++[((u,⟨v.ps.length,r.a,r.b,r.c,r.d,v.t⟩,r.sp*r.tr):Addr × Cl × Int)]).map (·.2)=chV v.rs (v.ps++[(a,.waiting,pvOf r v.ps.length v.t)]):=λa=>by rw[(W a).2,tV,ex];rfl
   have pvl:=zsi (hg.ro.ok r hr') v.ps.length (c:=v.t) (by omega) (by omega) .waiting rfl
   refine⟨_,rfl,o,_,dx,_,_,rfl,e6,rfl,DU,_,rfl,o,v,tl,r,km,rfl,hg6.hh,ok9,hg6.ht,hg6.hT,hg6.nb,by omega,by have:=hg.nl;omega,hr',fd.2.2,op,λa=>(W a).1.p,pvl.1.left.2.2 rfl,nop,λa l' l us uu dd Hd L g H7 kp k7 hL hu hl lk hh7 ng hgr=>?_,λa g H7 s7 hl=>?_⟩
   ·refine⟨_,rfl,_,rfl,sd,_,rfl,zgO hg sD sN s6 k7,si3,λD H8 s8 n8 h8=>?_⟩
    have hG:=(hg6.come (p:=pvOf r v.ps.length v.t) rfl (W a).1 k7 hl lk hh7).same s8
    have hc7:IsChs K H7 lc (xs++[(u,⟨v.ps.length,r.a,r.b,r.c,r.d,v.t⟩,r.sp*r.tr)]):=zjG hc6 λhc n1 n2=>k7 _ _ (λz=>by
     rw[z,e6]at hc
     exact n1 _ _ _ (tF hc).symm) (λz=>by
     rw[z,hg6.hh.p.nb]at hc
     exact n2 _ (tF hc).symm) hc
    exact ans.1 D g lc _ _ _ _ H8 (λc u c1 c2 hc=>s8 _ _ (k7 _ _ c1 c2 (s6 _ _ hc))) hG rfl rfl (rN (by omega)) (W a).1 (.inr ⟨rfl,by show(v.ps++_).length=_;rw[tQ];rfl⟩) h8 (hgr.same s8) (zmj (W a).1.p (s8 _ _ hc7.at_) (exx a) λb hb=>(hc7.ch b hb).same s8) (exx a) kp
   ·exact⟨_,rfl,_,rfl,sd,_,rfl,zgO hg sD sN (s6.trans s7) (λc u _ _ hc=>hc),si3,λD H8 s8 n8 h8=>zfA ans s6 hc6 (exx a) (W a).1 s7 hl s8 h8⟩
 rintro σ' H' ⟨rfl,rfl⟩
 refine⟨λσ' H' => σ'=[some (.ref o),some (.ref sd),some (.int x),some (.ref ln),some (.str r.nm),some (.ref spw),some (.ref spz),some (.int (r.sp*r.tr)),some (.ref lc),some (.int wy),some (.ref lw),none,none,none,none,none]/\Same H3 H',?_,?_⟩
 ·refine⟨_,rfl,rfl,_,rfl,?_⟩
  by_cases c2':wy=2
  rotate_left
  ·rw[tL (λz=>c2' (V.int.inj z))]
   exact iteF (iteF ⟨rfl,Same.refl _⟩)
  rw[decide_eq_true (show V.int wy=V.int 2 by rw[c2'])]
  refine iteT ⟨_,rfl,si0,λl4 H4 s4 n4 h4=>⟨lw,l4,_,rfl,rfl,SqL.of (s4 _ _ hw),SqL.of h4,_,rfl,?_⟩⟩
  generalize hns:(ord (clV v.rs v.ps) v.t).map (·.n)=ns at hw
  have mn:(ns.map V.int).length=ns.length:=tq _
  cases ns with
  | nil=>exact iteF ⟨rfl,s4⟩
  | cons n0 nr=>
    refine iteT ?_
    have s04:=s03.trans s4
    have hw4:=s4 _ _ hw
    have g0:=zbg x 2 (m:=(n0::nr).length) (by rw[length_cons];omega)
    have g1:=aA x 2 (m:=(n0::nr).length) (by rw[length_cons];omega)
    obtain⟨j,ej⟩:∃j:Nat,zbj x 2 (n0::nr).length=(j:Int):=⟨_,(rC g0).symm⟩
    have jl:j<(n0::nr).length:=by omega
    obtain⟨n,hn⟩:∃n,(n0::nr)[j]?=some n:=⟨_,tm jl⟩
    obtain⟨q0,m0,qw,qn⟩:∃q,q∈v.ps/\q.2.1=.waiting/\q.2.2.n=n:=by
     have:=tz hn
     rw[<-hns]at this
     obtain⟨c,hc,rfl⟩:=mem_map.mp this
     obtain⟨q,hq,rfl⟩:=mem_map.mp ((zeh _ _).mem_iff.mp hc)
     exact⟨q,(zbV.mp hq).1,(zbV.mp hq).2,rfl⟩
    obtain⟨k,hk,ekk⟩:=tX m0
    have hk0:v.ps[k]?=some q0:=by rw[tm hk,ekk]
    have nk:n=(k:Int):=by rw[<-qn];exact hg.p.nm k q0 hk0
    subst nk
    refine⟨_,rfl,_,rfl,_,rfl,lw,_,rfl,.inl (SqL.of hw4),x,2,_,rfl,by decide,by rw[mn,length_cons];omega,lw,_,_,.int k,rfl,rfl,SqL.of hw4,by rw[mn,ej];exact zcT (by rw[getElem?_map,hn];rfl),?_⟩
    have hI4:=hI3.same s4
    refine⟨_,rfl,lc,rfl,⟨_,SqL.of hI4.chs.at_⟩,?_⟩
    refine zje (xs:=xs.map λq=>V.ref q.1) (tak xs λ_=>true) (itG xs (λz=>chgF k r z.2) (⟨0,0,0,0,0,0⟩,0)) (IsCh K) (λH H' u c t h=>zkx t h) (SqL.of hI4.chs.at_) ?_ ?_ (zaC (by rw[mx];have:=hI3.len;omega)) (λD5 H5 bs s5 nD5 hD5 eb hb=>?_)
    ·intro i x Hh Q' hx sh q'
     rw[getElem?_map]at hx
     cases ez:xs[i]? with
     | none=>rw[ez]at hx;cases hx
     | some z=>
       have zz:=q' Hh (Same.refl _)
       unfold tak at zz
       rw[ez]at zz
       exact zz
    ·intro i x Hh Q' hx _ sh q'
     obtain⟨z,ez,hx⟩:=gmp hx
     cases hx
     unfold itG at q'
     rw[ez]at q'
     have s0h:=s04.trans sh
     exact⟨_,rfl,_,rfl,_,rfl,_,rfl,z.1,spw,spz,k,r.a,r.b,r.c,r.d,z.2,rfl,(hI4.chs.ch z (tz ez)).same sh,s0h _ _ r3,s0h _ _ r4,λu' H' s' hu=>q' u' H' s' hu⟩
    rw[mx,zfS,zcN]at eb
    have s6:Same H H5:=s04.trans s5
    have hg6:=hg.same s6
    have W:=fR hg hr' hk0 qw
    have hc6:IsChs K H5 D5 bs:=⟨hD5,hb⟩
    have exx:∀a,bs.map (·.2)=chV v.rs (wiP (a,.waiting,{ q0.2.2 with nm:=r.nm }) v.ps):=λa=>by
     rw[(W a).2.1,<-ex,tW,eb]
     rfl
    refine⟨_,rfl,o,_,dx,_,_,rfl,s6 _ _ e,rfl,DZ,_,rfl,_,rfl,o,v,tl,r,k,q0,rfl,hg6.hh,ok9,hg6.ht,hg6.hT,hr',fd.2.2,hk0,qw,λa=>(W a).1.p,λa s l' g H7 es kp k7 hh7 ng hgr=>?_,λa g H7 s7 hl=>?_⟩
    ·subst es
     refine⟨_,rfl,_,rfl,sd,_,rfl,zgO hg sD sN s6 (λc u c1 _ hc=>k7 _ _ c1 hc),si3,λD H8 s8 n8 h8=>?_⟩
     exact zjH ans hg s6 hc6 (exx a) (W a).1 (W a).2.2 (rN (by omega)) (.inl ⟨rfl,by unfold wiP;rw[tq]⟩) kp k7 hh7 hgr s8 h8
    ·exact⟨_,rfl,_,rfl,sd,_,rfl,zgO hg sD sN (s6.trans s7) (λc u _ _ hc=>hc),si3,λD H8 s8 n8 h8=>zfA ans s6 hc6 (exx a) (W a).1 s7 hl s8 h8⟩
 rintro σ' H4 ⟨rfl,s4⟩
 have s04:=s03.trans s4
 have hI4:=hI3.same s4
 refine⟨λσ' H' => σ'=[some (.ref o),some (.ref sd),some (.int x),some (.ref ln),some (.str r.nm),some (.ref spw),some (.ref spz),some (.int (r.sp*r.tr)),some (.ref lc),some (.int wy),some (.ref lw),none,none,none,none,none]/\H4=H'/\wy≠3,?_,?_⟩
 rotate_left
 ·rintro σ' H' ⟨rfl,rfl,w3⟩
  have f0:=zbg x 2 (m:=v.h) (by have:=hg.h0;omega)
  have f1:=aA x 2 (m:=v.h) (by have:=hg.h0;omega)
  have hg6:=hg.same s04
  refine⟨_,rfl,_,rfl,sd,_,rfl,zcm (s04 _ _ d1) d3,x,2,v.h,rfl,by decide,by have:=hg.h0;omega,_,_,rfl,rfl,?_⟩
  have W:=zpl hg (h':=1+zbj x 2 v.h) (by omega) (by omega)
  refine⟨_,rfl,o,_,dx,_,_,rfl,s04 _ _ e,rfl,Em,_,rfl,o,v,tl,_,rfl,hg6.hh,ok9,hg6.ht,hg6.hT,by show 1<=1+zbj x 2 v.h;omega,by show 1+zbj x 2 v.h<=v.h;omega,λa s l' g H7 es kp k7 hh7 ng hgr=>?_,λa g H7 s7 hl=>?_⟩
  ·subst es
   exact⟨_,rfl,_,rfl,si3,λD H8 s8 n8 h8=>zjH ans hg s04 hI4.chs ex W (λq hq qw=>⟨q,hq,qw,rfl⟩) (rN w3) (.inl ⟨rfl,rfl⟩) kp k7 hh7 hgr s8 h8⟩
  ·exact⟨_,rfl,_,rfl,si3,λD H8 s8 n8 h8=>zfA ans s04 hI4.chs ex W s7 hl s8 h8⟩
 refine⟨_,rfl,rfl,_,rfl,?_⟩
 by_cases c3':wy=3
 rotate_left
 ·rw[tL (λz=>c3' (V.int.inj z))]
  exact iteF ⟨rfl,rfl,c3'⟩
 rw[decide_eq_true (show V.int wy=V.int 3 by rw[c3'])]
 refine iteT ?_
 obtain⟨b0,b1,b2,b3⟩:=ztL x 5
 generalize hcd:wtF x 5=cd at b0 b1 b2 b3
 refine⟨_,rfl,x,5,rfl,by decide,λpv H5 s5 hW=>?_⟩
 rw[hcd]at hW
 have hI5:=hI4.same s5
 have s05:=s04.trans s5
 refine⟨_,rfl,lc,_,rfl,.inl (SqL.of hI5.chs.at_),λly H6 s6 n6 h6=>⟨ly,rfl,⟨_,SqL.of h6⟩,?_⟩⟩
 have s06:=s05.trans s6
 have lyl:ly≠lc:=λz=>by
  have:=hI5.chs.at_
  rw[<-z,n6]at this
  cases this
 let ch:Addr × Wd × Pv->Cl × Int:=λq=>(clOf q.2.2 (az v.rs q.2.2.nm).low,q.2.2.left q.2.1)
 have at_x:∀{m:Nat}{k:Addr × Cl × Int},xs[m]?=some k->∃q,(v.ps.filter λq=>q.2.1.opn)[m]?=some q/\k.2=ch q:=λ{m k} hm=>by
  have:=tS (λl:List (Cl × Int)=>l[m]?) ex
  unfold chV at this
  simp only[getElem?_map,hm]at this
  cases ez:(v.ps.filter λq=>q.2.1.opn)[m]? with
  | none=>rw[ez]at this;cases this
  | some z=>
    rw[ez]at this
    exact⟨z,rfl,tF this⟩
 refine zlT (K:=K) (a:=ly) (xs:=xs.map λq=>V.ref q.1) (λj σ H'=>∃v13 v14:Option V,σ=[some (.ref o),some (.ref sd),some (.int x),some (.ref ln),some (.str r.nm),some (.ref spw),some (.ref pv),some (.int (r.sp*r.tr)),some (.ref lc),some (.int wy),some (.ref lw),none,none,v13,v14,none]/\But lc H6 H'/\∃ys:List (Addr × Cl × Int),IsChs K H' lc ys/\ys.length=xs.length/\∀m y,ys[m]?=some y->∃q,(v.ps.filter λq=>q.2.1.opn)[m]?=some q/\y.2=if m<j then spdF v.ps r.nm cd q (ch q)else ch q)
  ⟨_,_,rfl,λ_ _ _ h=>h,xs,hI5.chs.same s6,rfl,λm y hm=>?_⟩ (λj σ H' _ ⟨_,_,_,k,_⟩=>SqL.of (k _ _ lyl h6)) ?_ ?_
 ·obtain⟨q,a1,a2⟩:=at_x hm
  exact⟨q,a1,by rw[if_neg (Nat.not_lt_zero m)];exact a2⟩
 ·rintro j y σ H7 p8 H8 hj ⟨v13,v14,rfl,k7,ys,hys,ly2,yat⟩ s8 n8 h8
  obtain⟨z,ez,hj⟩:=gmp hj
  cases hj
  refine⟨p8,_,rfl,SqT.of h8,rfl,_,_,rfl,_,_,rfl,rfl,?_⟩
  have kt:∀{c:Addr}{us:List V},H6 c=some (.tup us)->H8 c=some (.tup us):=λ{c us} h=>s8 _ _ (k7 _ _ (λw=>by
   have:=s6 _ _ hI5.chs.at_
   rw[<-w,h]at this
   cases this) h)
  have ki:∀{c C dx:Addr}{us:List (Str × V)},H6 c=some (.ins C dx us)->H8 c=some (.ins C dx us):=λ{c C dx us} h=>s8 _ _ (k7 _ _ (λw=>by
   have:=s6 _ _ hI5.chs.at_
   rw[<-w,h]at this
   cases this) h)
  have kH:Same H H8:=λc u h=>s8 _ _ (k7 _ _ (λw=>by rw[w,lcn]at h;cases h) (s06 _ _ h))
  obtain⟨q,oq,eq⟩:=at_x ez
  obtain⟨mq,qo⟩:=mem_filter.mp (tz oq)
  obtain⟨i0,hi0,ei0⟩:=tX mq
  have hq0:v.ps[i0]?=some q:=by rw[tm hi0,ei0]
  have nq:=hg.p.nm i0 q hq0
  obtain⟨pc,u1,hp⟩:=(hI5.chs.ch z (tz ez)).same s6 |>.ex
  obtain⟨qw,qz,p1,p2,p3⟩:=hp.ex
  have zn:z.2.1.n=(i0:Int):=by rw[eq];exact nq
  have u1:=kt u1
  have p1:=kt p1
  have hg8:=hg.same kH
  have e8:=kH _ _ e
  refine⟨_,rfl,o,_,dx,_,_,rfl,e8,rfl,En,_,rfl,z.1,_,_,_,rfl,rfl,SqT.of u1,rfl,pc,_,_,_,rfl,rfl,SqT.of p1,rfl,o,v,i0,km,q,by rw[zn],hg8.hh,hq0,hg8.nb _,by omega,λpS mS H9 s9 hS=>?_⟩
  refine⟨pS,_,_,_,rfl,rfl,SqT.of hS,rfl,_,rfl,rfl,_,rfl,?_⟩
  have k9:But lc H6 H9:=k7.trans (s8.trans s9).toBut
  have hys9:=hys.same (s8.trans s9)
  by_cases cn:q.2.2.nm=r.nm
  ·rw[decide_eq_true (show V.str q.2.2.nm=V.str r.nm by rw[cn])]
   refine iteT ?_
   have u9:=s9 _ _ u1
   have p9':=s9 _ _ p1
   have w9:=(s8.trans s9) _ _ (k7 _ _ (λw=>by have:=s6 _ _ hI5.chs.at_;rw[<-w,s6 _ _ hW.at_]at this;cases this) (s6 _ _ hW.at_))
   refine⟨_,rfl,_,rfl,z.1,_,_,_,rfl,rfl,SqT.of u9,rfl,pc,_,_,_,rfl,rfl,SqT.of p9',rfl,_,rfl,z.1,_,_,_,rfl,rfl,SqT.of u9,rfl,pc,_,_,_,rfl,rfl,SqT.of p9',rfl,_,rfl,pv,cd.1,cd.2,rfl,w9,b0,b2,b3,λpl HA sA hpl=>?_⟩
   have hzA:IsCh K HA z.1 z.2:=⟨pc,sA _ _ u9,qw,qz,sA _ _ p9',sA _ _ (s9 _ _ (kt p2)),sA _ _ (s9 _ _ (kt p3))⟩
   refine⟨z.1,qw,pl,z.2.1.n,z.2.1.wt,z.2.1.wb,_,_,z.2,rfl,hzA,sA _ _ (s9 _ _ (kt p2)),hpl,λu' HB sB hu'=>?_⟩
   rw[if_pos rfl]at hu'
   have hysB:=hys9.same (sA.trans sB)
   have my:(ys.map λq=>V.ref q.1).length=ys.length:=tq _
   have jl:j<ys.length:=by rw[ly2];exact(List.getElem?_eq_some_iff.mp ez).1
   refine⟨_,rfl,_,rfl,lc,_,_,j,rfl,rfl,hysB.at_,by rw[my];exact zsV (i:=(j:Int)) (by omega) (by omega),λHC kC hC=>?_⟩
   refine⟨_,_,rfl,k9.trans ((sA.trans sB).toBut.trans kC),ys.set j (u',(⟨z.2.1.n,z.2.1.wt,z.2.1.wb,(lowP cd).1,(lowP cd).2,z.2.1.came⟩,z.2.2)),⟨?_,λk hk=>?_⟩,by rw[pM,ly2],λm y hm=>?_⟩
   ·rw[hC,List.map_set]
   ·rcases List.mem_or_eq_of_mem_set hk with hk | hk
    ·exact(hysB.ch k hk).but kC hysB.at_
    ·rw[hk]
     exact hu'.but kC hysB.at_
   ·rw[qE]at hm
    by_cases c:j=m
    ·subst c
     rw[if_pos rfl,if_pos jl]at hm
     cases hm
     refine⟨q,oq,?_⟩
     rw[if_pos (ss j)]
     unfold spdF
     rw[if_pos cn,<-eq]
    ·rw[if_neg c]at hm
     obtain⟨q',a1,a2⟩:=yat m y hm
     refine⟨q',a1,?_⟩
     rw[a2]
     by_cases c4:m<j
     ·rw[if_pos c4,if_pos (by omega)]
     ·rw[if_neg c4,if_neg (by omega)]
  ·rw[tL (λz=>cn (V.str.inj z))]
   refine iteF ⟨_,_,rfl,k9,ys,hys9,ly2,λm y hm=>?_⟩
   obtain⟨q',a1,a2⟩:=yat m y hm
   refine⟨q',a1,?_⟩
   rw[a2]
   by_cases c4:m<j
   ·rw[if_pos c4,if_pos (by omega)]
   ·rw[if_neg c4]
    by_cases c5:m=j
    ·subst c5
     rw[oq]at a1
     cases a1
     rw[if_pos (ss m)]
     unfold spdF
     rw[if_neg cn]
    ·rw[if_neg (by omega)]
 ·rintro σ H7 ⟨v13,v14,rfl,k7,ys,hys,ly2,yat⟩
  have W:=zpk hg hi b0 b1 b2 b3
  have s7:Same H H7:=λc u h=>k7 _ _ (λw=>by rw[w,lcn]at h;cases h) (s06 _ _ h)
  have hg7:=hg.same s7
  have lo:(v.ps.filter λq=>q.2.1.opn).length=ys.length:=by rw[ly2,lx]
  have exx:ys.map (·.2)=chV (spdR v.rs i cd) v.ps:=by
   rw[W.2.2]
   refine qx λm=>?_
   rw[getElem?_map,getElem?_map]
   cases e:ys[m]? with
   | none=>
     have:=getElem?_eq_none_iff.mp e
     rw[sZ (by omega)]
     rfl
   | some y=>
     obtain⟨q,a1,a2⟩:=yat m y e
     have:=(List.getElem?_eq_some_iff.mp e).1
     rw[a1]
     show some y.2=some _
     rw[a2,if_pos (by rw[tq];omega)]
  have rN3:spdR v.rs i cd=rsN v.rs x:=by
   unfold rsN
   rw[hwy,if_pos c3',ei,hcd]
   rfl
  have w7:=k7 _ _ (λw=>by have:=s6 _ _ hI5.chs.at_;rw[<-w,s6 _ _ hW.at_]at this;cases this) (s6 _ _ hW.at_)
  have okp:=W.1.p
  rw[W.2.1]at okp
  refine⟨_,rfl,o,_,dx,_,_,rfl,s7 _ _ e,rfl,BD,_,rfl,_,rfl,o,v,tl,i,r,pv,cd.1,cd.2,rfl,hg7.hh,ok9,hg7.ht,hg7.hT,hg.ro,hg.lw,hi,w7,b0,b1,b2,b3,okp,λa s l' g H8 _ kp k8 hh8 ng hgr=>?_,λa g H8 s8 hl=>?_⟩
  ·refine⟨_,rfl,_,rfl,sd,_,rfl,zgO hg sD sN s7 (λc u c1 _ hc=>k8 _ _ c1 hc),si3,λD H9 s9 n9 h9=>?_⟩
   rw[<-W.2.1]at kp hh8
   exact zjH ans hg s7 hys exx W.1 (λq hq qw=>⟨q,hq,qw,rfl⟩) rN3 (.inl ⟨rfl,rfl⟩) kp k8 hh8 hgr s9 h9
  ·rw[<-W.2.1]at hl
   exact⟨_,rfl,_,rfl,sd,_,rfl,zgO hg sD sN (s7.trans s8) (λc u _ _ hc=>hc),si3,λD H9 s9 n9 h9=>zfA ans s7 hys exx W.1 s8 hl s9 h9⟩
def HG.up{cs:CsA}{cS cH tT:Addr}{H:Hp}{o:Addr}{v:Hv}{tl:Int->Int}{km kn:Nat}(le:km<=kn)(h:HG cs cS cH tT H o v tl km):HG cs cS cH tT H o v tl kn:=
 ⟨h.hh,h.hT,h.ro,h.lw,h.h0,h.h6,h.p,h.pc,h.ca,h.t0,h.ht,λn x e=>let ⟨l,us,a,b,c⟩:=h.nb n x e;⟨l,us,a,b,tM c le⟩,tM h.nl le⟩
def HG.butD{cs:CsA}{cS cH tT d:Addr}{H H':Hp}{o:Addr}{v:Hv}{tl:Int->Int}{km:Nat}{kvs:List (Key × V)}(h:HG cs cS cH tT H o v tl km)(k:But d H H')(hd:H d=some (.dK kvs))(ne:d≠v.aN):HG cs cS cH tT H' o v tl km:=by
 have kp:∀{c:Addr}{u:HO},H c=some u->(∀kvs,u≠.dK kvs)->H' c=some u:=λ{c u} hc n=>k _ _ (λz=>by
  rw[z,hd]at hc
  exact n _ (tF hc).symm) hc
 exact⟨h.hh.butD k hd ne,kp h.hT (λ_ z=>by cases z),h.ro,h.lw,h.h0,h.h6,h.p,h.pc,h.ca,h.t0,λq hq w=>let ⟨l,us,a,b⟩:=h.ht q hq w;⟨l,us,a,kp b (λ_ z=>by cases z)⟩,λn x e=>let ⟨l,us,a,b,c⟩:=h.nb n x e;⟨l,us,a,kp b (λ_ z=>by cases z),c⟩,h.nl⟩
def ChIn.butK{H H':Hp}{d l:Addr}{xs:List (Addr × Cl × Int)}{kvs:List (Key × V)}(k:But d H H')(hd:H d=some (.dK kvs))(h:ChIn K H l xs):ChIn K H' l xs:=
 ⟨zjG h.chs λ{c u} hc _ n=>k _ _ (λz=>by
   rw[z,hd]at hc
   exact n _ (tF hc).symm) hc,h.len,h.ok,h.nd⟩
def zmv{H:Hp}{sd ds:Addr}{h:Int}{n:Nat}(d:SD H sd ds h n)(s:Str)(v:V):∃kvs,H sd=some (.dK kvs)/\kvs.length<sizeLine/\(∀h':Int,s = "hands" -> v=.int h'->SD (upd H sd (.dK (putK kvs (.inr s) v))) sd ds h' n)/\(∀n':Nat,s = "many" -> v=.int n'->SD (upd H sd (.dK (putK kvs (.inr s) v))) sd ds h n'):=by
 obtain⟨kvs,a,b,c,e,l⟩:=d.ex
 have ne1:¬(Str.ofString "sorts")=Str.ofString "hands" := by decide +kernel
 have ne2:¬(Str.ofString "many")=Str.ofString "hands" := by decide +kernel
 have ne3:¬(Str.ofString "sorts")=Str.ofString "many" := by decide +kernel
 have ne4:¬(Str.ofString "hands")=Str.ofString "many" := by decide +kernel
 refine⟨kvs,a,by rw[l];decide,λh' es ev=>?_,λn' es ev=>?_⟩
 ·subst es ev
  refine⟨_,zan,?_,?_,?_,?_⟩
  ·rw[zbz,if_neg (λz=>ne1 (sG z))]
   exact b
  ·rw[zbz,if_pos rfl]
  ·rw[zbz,if_neg (λz=>ne2 (sG z))]
   exact e
  ·have:=tS List.length (cx (v:=V.int h') c)
   rw[tq,tq]at this
   rw[this,l]
 ·subst es ev
  refine⟨_,zan,?_,?_,?_,?_⟩
  ·rw[zbz,if_neg (λz=>ne3 (sG z))]
   exact b
  ·rw[zbz,if_neg (λz=>ne4 (sG z))]
   exact c
  ·rw[zbz,if_pos rfl]
  ·have:=tS List.length (cx (v:=V.int n') e)
   rw[tq,tq]at this
   rw[this,l]
def SS.but{H H':Hp}{ds d:Addr}{rs:List SR}{kvs:List (Key × V)}(k:But d H H')(hd:H d=some (.dK kvs))(ne:ds≠d)(s:SS H ds rs):SS H' ds rs:=by
 obtain⟨kv,a,b,c⟩:=s.ex
 have kt:∀{c:Addr}{us:List V},H c=some (.tup us)->H' c=some (.tup us):=λh=>k _ _ (λw=>by rw[w,hd]at h;cases h) h
 exact⟨kv,k _ _ ne a,b,λr hr=>let ⟨p,pw,pz,x,y,z,u⟩:=c r hr;⟨p,pw,pz,x,kt y,kt z,kt u⟩⟩
def zsl{rs:List SR}{i:Nat}{r:SR}{cd:Int × Int}(ro:RsOk rs)(lw:∀r,r∈rs->r.low=r)(hi:rs[i]?=some r){s:SR}(hs:s∈spdR rs i cd):s = { r with c:=(lowP cd).1,d:=(lowP cd).2 }\/(s∈rs/\s.nm≠r.nm):=by
 have hr:=tz hi
 have li:=(List.getElem?_eq_some_iff.mp hi).1
 unfold spdR at hs
 rw[tK,hi]at hs
 obtain⟨z,hz,e⟩:=mem_map.mp hs
 obtain⟨j,hj,ej⟩:=tX hz
 have ej:(rs.set i { r with c:=cd.1,d:=cd.2 })[j]?=some z:=(tm hj).trans (tS some ej)
 rw[qE]at ej
 by_cases c:i=j
 ·subst c
  rw[if_pos rfl,if_pos li]at ej
  cases ej
  refine .inl ?_
  rw[<-e]
  have hl:=lw r hr
  have ha:r.a / M1.gd r.a r.b=r.a:=tS SR.a hl
  have hb:r.b / M1.gd r.a r.b=r.b:=tS SR.b hl
  show({ nm:=r.nm,a:=r.a / M1.gd r.a r.b,b:=r.b / M1.gd r.a r.b,c:=cd.1 / M1.gd cd.1 cd.2,d:=cd.2 / M1.gd cd.1 cd.2,sp:=r.sp,tr:=r.tr }:SR)=_
  rw[ha,hb]
  rfl
 ·rw[if_neg c]at ej
  have mz:=tz ej
  refine .inr ⟨by rw[<-e,lw z mz];exact mz,λw=>c ?_⟩
  rw[<-e]at w
  exact ro.nd i j r z hi ej w.symm
def zsm{rs:List SR}{i:Nat}{r:SR}{cd:Int × Int}(hi:rs[i]?=some r):(spdR rs i cd).map (λr=>(Sum.inr r.nm:Key))=rs.map (λr=>Sum.inr r.nm):=by
 unfold spdR
 rw[tK,hi,tW]
 refine qx λj=>?_
 rw[getElem?_map,getElem?_map,qE]
 by_cases c:i=j
 ·subst c
  rw[if_pos rfl,if_pos (List.getElem?_eq_some_iff.mp hi).1,hi]
  rfl
 ·rw[if_neg c]
  rfl
inductive zrm(cs:CsA)(cS cH tT:Addr)(vs:List V)(H:Hp)(Q:VK)(_:XK):Prop
 | mk (o sd ds:Addr) (v:Hv) (tl:Int->Int) (km:Nat) (x:Int) (_:vs=[.ref o,.ref sd,.int x]) (_:HG cs cS cH tT H o v tl km) (_:SD H sd ds v.h v.ps.length) (_:SS H ds v.rs) (_:sd≠v.aN) (_:ds≠v.aN) (_:ds≠sd) (_:(∀q,q∈v.ps->q.2.1=.held->q.2.2.came≠v.t)) (_:v.t<=900) (_:km<=900) (_:v.ps.length<=150) (_:∀v' tl' H',HG cs cS cH tT H' o v' tl' (km+1)->SD H' sd ds v'.h v'.ps.length->SS H' ds v'.rs->v'.aN=v.aN->v'.t=v.t->v'.ps.length<=v.ps.length+1->(∀c ys,H c=some (.lst ys)->H' c=some (.lst ys))->Q (.bl true) H')
def zaU:FnScope ["_law_house","_law_state","_law_cell_here","_law_told","_law_before","_law_verdict","_law_chores","_law_hands","_law_now","_law_name"] pl38 (zac zcZ):=fsc
include T in
theorem fV(D:Dfn K mg "_law_answered" zcZ pl38 f fd)(zar:Cal P w K mg bf "_law_draw" 2 pl30 zgy)(aE:Cal P w K mg bf "_law_weight" 3 pl29 zfz)(zby:Cal P w K mg bf "_law_low" 1 ["_law_one"] (zqi K))(zgD:Cal P w K mg bf "_law_kept" 5 pl35 (zpi K))(zdJ:Cal P w K mg bf "_law_is_late" 5 pl36 (zmt K Ag))(cy:Cal P w K mg bf "_law_question" 17 pl38 (zpp K (CsA.mk Ae Aa Ab Ac) Af Ad Ah Ag tT))(Ak:MOk CX0 P w K mg bf 11 Ad "chores_now" (zmY K (CsA.mk Ae Aa Ab Ac) Af Ad))(Ay:MOk CX0 P w K mg bf 1 Ah "granted" (zfo Ah)/\MOk CX0 P w K mg bf 1 Ag "granted" (zml Ag))(DG:MOk CX0 P w K mg bf 2 Ad "held" (zoW K (CsA.mk Ae Aa Ab Ac) Af Ad))(DN:MOk CX0 P w K mg bf 1 Ad "now" (zmq (CsA.mk Ae Aa Ab Ac) Af Ad))(AT:MOk CX0 P w K mg bf 2 Ad "told_now" (zoZ K (CsA.mk Ae Aa Ab Ac) Af Ad))(CI:MOk CX0 P w K mg bf 12 Ad "worst_run" (zpc K (CsA.mk Ae Aa Ab Ac) Af Ad tT)):Cal P w K mg bf "_law_answered" 18 pl38 (zrm (CsA.mk Ae Aa Ab Ac) Af Ad tT):=by
 refine D.cal (D.F.ok zaU (by walk_at "z") (λc A o s H vs Q E hr h=>?_))
 obtain⟨o,sd,ds,v,tl,km,x,rfl,hg,sD,sS,sN,dN,dS,nop,t9,k9,p9,q⟩:=h
 refine⟨_,(zab (zap (i:=3) zaU.nd rfl (Or.inl rfl) (zaI (k:=2) (pv 0) hr.o zaD))
  (zab (zap (i:=4) zaU.nd rfl (Or.inl rfl) (zaO (zaa (zaI (k:=11) (pv 0) hr.o zaD) (zaa (zaI (k:=2) (pv 0) hr.o zaD) (zaa (pv 3) zaf)))))
  (zab (ziD (zaj cy hr.o rfl (zaa (pv 0) (zaa (pv 1) (zaa (pv 2) zaf)))) (zto rfl (zaJ (zaH (i:=5) zaU.nd rfl (Or.inl rfl)) (zaJ (zaH (i:=6) zaU.nd rfl (Or.inl rfl)) (zaJ (zaH (i:=7) zaU.nd rfl (Or.inl rfl)) zcu)))))
  (zab (au (zbl (av (zaI (k:=1) (pv 5) hr.o zaD))) (zab (zap (i:=8) zaU.nd rfl (Or.inl rfl) (zaO (zaa (zaI (k:=11) (pv 0) hr.o zaD) (zaa (zaI (k:=2) (pv 0) hr.o zaD) (zaa (zaI (k:=2) (pv 0) hr.o zaD) zaf)))))
  (zag (zah (ziC (zcv (ztn 9 (by decide) hr.units9) (pv 8) (pv 4) (zaB _)) (ziB (zaj zdJ hr.o rfl (pai (zad (pv 5) (zad (pv 6) (zad (pv 7) (zad (zaI (k:=1) (pv 0) hr.o zaD) (zad (pv 3) zaL)))))))))))) zaw)
  (zab (zdT hr.units1 (pv 1) zaT (pv 7) rfl)
  (zab (zdT hr.units1 (pv 1) zaT (zaz ay (zaN hr.units1 (pv 1) zaT (λ_ _=>rfl)) (zbK zhh rfl T.zqc zlO (zaa (zcv znr (zai (pv 5) rfl) zgF (zaB _)) zaf))) rfl)
  (zhp (au (zas zdk (zaj zar hr.o rfl (zaa (pv 2) (zaa zae (zaa zae zaf)))) zae (zaB _)) (zab (zap (i:=9) zaU.nd rfl (Or.inl rfl) (zaq zbC (zbK (ziS hr.hd) rfl T.ziV zfG (zaa (zaN hr.units1 (pv 1) zaT (λ_ _=>rfl)) zaf)) (zaj zar hr.o rfl (zaa (pv 2) (zaa zae (zaa (zay znI rfl T.zdf zbL (zaa (zaN hr.units1 (pv 1) zaT (λ_ _=>rfl)) zaf)) zaf)))) (λ_ _=>rfl)))
  (zag (zdT hr.units1 (zaN hr.units1 (pv 1) zaT (λ_ _=>rfl)) (pv 9) (zaM (zaa (zaq zal (zaN hr.units1 (zaN hr.units1 (pv 1) zaT (λ_ _=>rfl)) (pv 9) (λ_ _=>rfl)) zae (λ_ _=>rfl)) (zaa (zaj zby hr.o rfl (zaa (zaj aE hr.o rfl (zaa (pv 2) (zaa zae zaf))) zaf)) (zaa (zaq zal (zaN hr.units1 (zaN hr.units1 (pv 1) zaT (λ_ _=>rfl)) (pv 9) (λ_ _=>rfl)) zae (λ_ _=>rfl)) zaf)))) rfl))) zaw)
  (zab (au (zas (zqB 9 hr.units9) (zaI (k:=11) (pv 0) hr.o zaD) (pv 6) (zaB _)) (zag (zah zdj)) zaw)
  (zag (zah (zaj zgD hr.o rfl (pai (zad (pv 6) (zad (pv 7) (zad (zaI (k:=1) (pv 0) hr.o zaD) (zad (zaI (k:=12) (pv 0) hr.o zaD) (zad (pv 3) zaL))))))))))))))))),?_⟩
 obtain⟨dx,e⟩:=hg.hh.at_
 obtain⟨kv3,d1,d2,d3,d4,d5⟩:=sD.ex
 obtain⟨kvs,c1,c2,c3⟩:=sS.ex
 have ok9:=hg.ok (by omega)
 refine⟨_,rfl,o,_,dx,_,_,rfl,e,rfl,AT,o,v,tl,rfl,hg.hh,hg.p,hg.ht,λtd H1 s1 n1 h1=>?_⟩
 refine⟨_,rfl,o,_,dx,_,_,rfl,s1 _ _ e,rfl,Ak,o,v,rfl,hg.hh.same s1,hg.p,λlc0 H2 eO s2 n2 hI0 ex0=>?_⟩
 have s02:=s1.trans s2
 refine⟨_,rfl,o,_,dx,_,_,rfl,s02 _ _ e,rfl,DG,o,v,rfl,hg.hh.same s02,hg.p,λlh0 H3 bs0 s3 n3 hh0 eb0 hb0=>?_⟩
 have s03:=s02.trans s3
 refine⟨_,rfl,si3,λlb H4 s4 n4 h4=>?_⟩
 have s04:=s03.trans s4
 have h14:=(s2.trans (s3.trans s4)) _ _ h1
 have tdn:td≠v.aN:=λz=>by
  have:=hg.hh.p.nb
  rw[<-z,n1]at this
  cases this
 have tds:td≠sd:=λz=>by rw[<-z,n1]at d1;cases d1
 have tdd:td≠ds:=λz=>by rw[<-z,n1]at c1;cases c1
 have hg4:=hg.same s04
 have tll:(tlL tl v.ps).length<=40:=by
  unfold tlL
  rw[tq]
  exact hg.p.len_w .waiting rfl
 refine⟨_,rfl,_,rfl,_,rfl,o,sd,ds,v,tl,km,x,rfl,hg4,sD.same s04,sS.same s04,sN,nop,t9,k9,p9,λD g lc xs v' tl' n H5 k5 hg5 aN' t' rs' W' en hD hgr hI5 ex5 kp=>?_,λD g lc xs h' rs' ps' H5 s5 hD W hI5 ex5 hl=>?_⟩
 rotate_left
 ·have s05:=s04.trans s5
  have hg5:=hg.same s05
  refine⟨D,_,rfl,SqL.of hD,rfl,_,_,rfl,_,_,rfl,_,_,rfl,rfl,?_⟩
  obtain⟨_,M,dd,uu,_,_,_,_,_,hlt⟩:=hl.ex
  obtain⟨gdx,_,_,g1,_⟩:=id hlt.ex
  refine⟨_,rfl,g,_,gdx,_,_,rfl,g1,rfl,Ay.2,g,_,_,_,_,rfl,hlt,_,rfl,iteT ?_⟩
  have e5:=s05 _ _ e
  refine⟨_,rfl,o,_,dx,_,_,rfl,e5,rfl,Ak,o,v,rfl,hg5.hh,hg.p,λlc1 H6 fW s6 n6 hI1 ex1=>?_⟩
  have s06:=s05.trans s6
  refine⟨_,rfl,o,_,dx,_,_,rfl,s06 _ _ e,rfl,DG,o,v,rfl,hg.hh.same s06,hg.p,λlh1 H7 bs1 s7 n7 hh1 eb1 hb1=>?_⟩
  have s07:=s06.trans s7
  refine⟨_,rfl,o,_,dx,_,_,rfl,s07 _ _ e,rfl,AT,o,v,tl,rfl,hg.hh.same s07,hg.p,hg.ht.same s07,λtd1 H8 s8 n8 h8=>?_⟩
  refine⟨si3,λln H9 s9 n9 h9=>?_⟩
  have s59:=s6.trans (s7.trans (s8.trans s9))
  have s49:=s5.trans s59
  have s09:=s05.trans s59
  have hg9:=hg.same s09
  have dq:zqM K 9 (.ref ln) (.ref lb) H9:=by
   refine⟨ln,lb,_,_,rfl,rfl,SqL.of h9,SqL.of (s49 _ _ h4),rfl,λj u v' hu hv=>?_⟩
   match j,hu,hv with
   | 0,hu,hv=>
     cases hu
     cases hv
     exact .inl (Dqs.lst (K:=K) (n:=8) ((s7.trans (s8.trans s9)) _ _ hI1.chs.at_) ((s3.trans (s4.trans s49)) _ _ hI0.chs.at_) (Dqs.chs (n:=5) (by rw[ex1,ex0]) (λk hk=>(hI1.chs.ch k hk).same (s7.trans (s8.trans s9))) λk hk=>(hI0.chs.ch k hk).same (s3.trans (s4.trans s49))))
   | 1,hu,hv=>
     cases hu
     cases hv
     refine .inl (Dqs.lst (K:=K) (n:=8) ((s8.trans s9) _ _ hh1) ((s4.trans s49) _ _ hh0) (Dqs.tups (n:=7) (by rw[eb1,eb0]) (λk hk=>⟨(s8.trans s9) _ _ (hb1 k hk),?_⟩) λk hk=>(s4.trans s49) _ _ (hb0 k hk)))
     have:k.2∈bs1.map (·.2):=mem_map.mpr ⟨k,hk,rfl⟩
     rw[eb1]at this
     obtain⟨z,_,ez⟩:=mem_map.mp this
     rw[<-ez]
     rfl
   | 2,hu,hv=>
     cases hu
     cases hv
     exact .inr ⟨td1,td,tlL tl v.ps,rfl,rfl,.inl (s9 _ _ h8),.inl (s49 _ _ h14)⟩
   | j+3,hu,hv=>cases hu
  refine⟨_,rfl,_,rfl,dq,_,rfl,iteT ?_⟩
  refine⟨_,rfl,_,rfl,_,rfl,_,rfl,o,_,dx,_,_,rfl,s09 _ _ e,rfl,DN,o,v,rfl,hg9.hh,_,rfl,g,lc,td,xs,h',v.t,tlL tl v.ps,rfl,hI5.same s59,by have:=W.h0;omega,by rw[ex5];exact hl.same s59,s49 _ _ h14,tll,by rw[ex5];exact λN hN=>zpm W hN,λH' k'=>?_⟩
  have kH:∀c u,c≠td->H c=some u->H' c=some u:=λc u c1 hc=>k' _ _ c1 (s09 _ _ hc)
  have ktd:∀{c:Addr}{u:HO},H c=some u->c≠td:=λhc z=>by rw[z,n1]at hc;cases hc
  have sH:Same H H':=λc u hc=>kH c u (ktd hc) hc
  exact q v tl H' ((hg.same sH).up (sj _)) (sD.same sH) (sS.same sH) rfl rfl (sj _) λc ys hc=>sH _ _ hc
 ·obtain⟨dx4,e4⟩:=hg4.hh.at_
  have k5':∀{c:Addr}{u:HO},H4 c=some u->(∀C dx fs,u≠.ins C dx fs)->c≠v.aN->H5 c=some u:=λhc n1 n2=>zpo k5 e4 hg4.hh.p.nb hc n1 n2
  have k5d:∀{c:Addr}{u:HO},H4 c=some u->(∀C dx fs,u≠.ins C dx fs)->(∀kvs,u≠.dK kvs)->H5 c=some u:=λ{c u} hc n1 n2=>k5' hc n1 λz=>by
   rw[z,hg4.hh.p.nb]at hc
   exact n2 _ (tF hc).symm
  have sD5:SD H5 sd ds v.h v.ps.length:=⟨kv3,k5' (s04 _ _ d1) (λ_ _ _ z=>by cases z) sN,d2,d3,d4,d5⟩
  have t5:∀{c:Addr}{us:List V},H c=some (.tup us)->H5 c=some (.tup us):=λhc=>k5d (s04 _ _ hc) (λ_ _ _ z=>by cases z) (λ_ z=>by cases z)
  have sS5:SS H5 ds v.rs:=⟨kvs,k5' (s04 _ _ c1) (λ_ _ _ z=>by cases z) dN,c2,λr hr=>let ⟨p,pw,pz,x1,y1,z1,u1⟩:=c3 r hr;⟨p,pw,pz,x1,t5 y1,t5 z1,t5 u1⟩⟩
  have td5:H5 td=some (.dK (dI (tlL tl v.ps))):=k5' h14 (λ_ _ _ z=>by cases z) tdn
  have l5:∀c ys,H c=some (.lst ys)->H5 c=some (.lst ys):=λc ys hc=>k5d (s04 _ _ hc) (λ_ _ _ z=>by cases z) (λ_ z=>by cases z)
  refine⟨D,_,rfl,SqL.of hD,rfl,_,_,rfl,_,_,rfl,_,_,rfl,rfl,?_⟩
  obtain⟨gdx,g1⟩:=id hgr
  refine⟨_,rfl,g,_,gdx,_,_,rfl,g1,rfl,Ay.1,g,_,rfl,hgr,_,rfl,iteF ?_⟩
  obtain⟨kv5,a5,la5,f5,_⟩:=zmv sD5 "hands" (.int v'.h)
  have sD6:=f5 v'.h rfl rfl
  refine⟨_,rfl,_,rfl,sd,_,rfl,DPut.k (k:=.inr "hands") a5 la5,?_⟩
  have k6:=But.upd sd H5 (.dK (putK kv5 (.inr "hands") (.int v'.h)))
  generalize hH6:upd H5 sd (.dK (putK kv5 (.inr "hands") (.int v'.h)))=H6 at sD6 k6
  have g6:=k6 _ _ (λz=>by rw[z,a5]at g1;cases g1) g1
  obtain⟨kv6,b1,b2,b3,b4,b5⟩:=sD6.ex
  obtain⟨kv7,a6,la6,_,f6⟩:=zmv sD6 "many" (.int ((v.ps.length:Int)+if(!decide (n=V.non))=true then 1 else 0))
  have ev:(v.ps.length:Int)+(if(!decide (n=V.non))=true then 1 else 0)=((v'.ps.length:Nat):Int):=by
   rcases en with⟨e1,e2⟩ | ⟨e1,e2⟩
   ·rw[e1,e2,decide_eq_true rfl]
    show(v.ps.length:Int)+0=_
    omega
   ·rw[e1,e2,tL (λz=>by cases z)]
    show(v.ps.length:Int)+1=_
    omega
  have sD7:=f6 v'.ps.length rfl (by rw[ev])
  refine⟨_,rfl,sd,_,rfl,zcm b1 b4,_,rfl,g,_,gdx,_,_,rfl,g6,T.Dz.cl,T.BU,rfl,rfl,.inr ⟨_,rfl,_,_,rfl,rfl,_,rfl,sd,_,rfl,DPut.k (k:=.inr "many") a6 la6,?_⟩⟩
  have k7:=But.upd sd H6 (.dK (putK kv7 (.inr "many") (.int ((v.ps.length:Int)+if(!decide (n=V.non))=true then 1 else 0))))
  generalize hH7:upd H6 sd (.dK (putK kv7 (.inr "many") (.int ((v.ps.length:Int)+if(!decide (n=V.non))=true then 1 else 0))))=H7 at sD7 k7
  have k57:But sd H5 H7:=k6.trans k7
  have n57:∀{c:Addr}{u:HO},H5 c=some u->(∀kvs,u≠.dK kvs)->H7 c=some u:=λ{c u} hc n2=>k57 _ _ (λz=>by
   rw[z,a5]at hc
   exact n2 _ (tF hc).symm) hc
  have hg7:=hg5.butD k57 a5 (by rw[aN'];exact sN)
  have sS7:=sS5.but k57 a5 dS
  have td7:=k57 _ _ tds td5
  have hI7:=hI5.butK k57 a5
  have l7:∀c ys,H c=some (.lst ys)->H7 c=some (.lst ys):=λc ys hc=>n57 (l5 c ys hc) (λ_ z=>by cases z)
  refine⟨λσ' H'=>∃v9:Option V,σ'=[some (.ref o),some (.ref sd),some (.int x),some (.ref td),some (.ref lb),some (.ref g),some (.ref lc),some (.int v'.h),none,v9]/\HG (CsA.mk Ae Aa Ab Ac) Af Ad tT H' o v' tl' (km+1)/\SD H' sd ds v'.h v'.ps.length/\SS H' ds v'.rs/\H' td=some (.dK (dI (tlL tl v.ps)))/\ChIn K H' lc xs/\∀c ys,H c=some (.lst ys)->H' c=some (.lst ys),?_,?_⟩
  ·refine⟨_,rfl,x,0,5,rfl,by decide,by decide,rfl,_,rfl,?_⟩
   by_cases c:zbj x 0 5=3
   rotate_left
   ·rw[tL (λz=>c (V.int.inj z))]
    have er:v'.rs=v.rs:=by
     rw[rs']
     unfold rsN
     rw[if_neg c]
    exact iteF ⟨_,rfl,hg7,sD7,by rw[er];exact sS7,td7,hI7,l7⟩
   rw[decide_eq_true (show V.int (zbj x 0 5)=V.int 3 by rw[c])]
   refine iteT ?_
   have l0:=hg.ro.l0
   have j0:=zbg x 1 (m:=v.rs.length) (by omega)
   have j1:=aA x 1 (m:=v.rs.length) (by omega)
   obtain⟨i,ei⟩:∃i:Nat,zbj x 1 v.rs.length=(i:Int):=⟨_,(rC j0).symm⟩
   rw[ei]at j1
   have il:i<v.rs.length:=by omega
   obtain⟨r,hi⟩:∃r,v.rs[i]?=some r:=⟨_,tm il⟩
   have hr':=tz hi
   obtain⟨kw,w1,w2,w3,w4,w5⟩:=sD7.ex
   obtain⟨kx,x1,x2,x3⟩:=sS7.ex
   obtain⟨p,pw,pz,y1,y2,y3,y4⟩:=x3 r hr'
   have lk:kx.length=v.rs.length:=by
    have:=tS List.length x2
    rw[tq,tq]at this
    exact this
   have ek:(kx.map λkv=>kV kv.1)=v.rs.map λr=>V.str r.nm:=by
    have:=tS (List.map kV) x2
    rw[tW,tW]at this
    exact this
   obtain⟨q0,q1,q2,q3⟩:=ztL x 5
   refine⟨_,rfl,sd,_,rfl,zcm w1 w2,ds,kx,rfl,.inl x1,λln H8 s8 n8 h8=>?_⟩
   rw[ek]at h8
   refine⟨_,rfl,_,rfl,sd,_,rfl,zcm (s8 _ _ w1) w2,ds,kx,rfl,s8 _ _ x1,x,1,_,rfl,by decide,by rw[lk];omega,ln,_,_,.str r.nm,rfl,rfl,SqL.of h8,by rw[lk,ei];exact zcT (by rw[getElem?_map,hi];rfl),?_⟩
   refine⟨_,rfl,sd,_,rfl,zcm (s8 _ _ w1) w2,_,rfl,ds,_,rfl,zcm (s8 _ _ x1) y1,p,_,_,_,rfl,rfl,SqT.of (s8 _ _ y2),rfl,_,rfl,x,5,rfl,by decide,λpv H9 s9 hW=>⟨pv,_,_,rfl,hW.at_,q0,q2,q3,λpl HA sA hpl=>?_⟩⟩
   have s7A:=s8.trans (s9.trans sA)
   refine⟨_,rfl,sd,_,rfl,zcm (s7A _ _ w1) w2,_,rfl,ds,_,rfl,zcm (s7A _ _ x1) y1,p,_,_,_,rfl,rfl,SqT.of (s7A _ _ y2),rfl,si3,λtp HB sB nB hB=>?_⟩
   have s7B:=s7A.trans sB
   refine⟨_,rfl,sd,_,rfl,zcm (s7B _ _ w1) w2,_,rfl,ds,_,rfl,DPut.k (k:=.inr r.nm) (s7B _ _ x1) (by rw[lk];have:=hg.ro.l1;exact rc this (by decide)),?_⟩
   have kC:=But.upd ds HB (.dK (putK kx (.inr r.nm) (.ref tp)))
   have atC:upd HB ds (.dK (putK kx (.inr r.nm) (.ref tp))) ds=some (.dK (putK kx (.inr r.nm) (.ref tp))):=zan
   generalize hHC:upd HB ds (.dK (putK kx (.inr r.nm) (.ref tp)))=HC at kC atC
   have x1B:=s7B _ _ x1
   have tC:∀{c:Addr}{us:List V},HB c=some (.tup us)->HC c=some (.tup us):=λh=>kC _ _ (λw=>by rw[w,x1B]at h;cases h) h
   have er:v'.rs=spdR v.rs i (wtF x 5):=by
    rw[rs']
    unfold rsN
    rw[if_pos c,ei]
    rfl
   refine⟨_,rfl,(hg7.same s7B).butD kC x1B (by rw[aN'];exact dN),⟨kw,kC _ _ (Ne.symm dS) (s7B _ _ w1),w2,w3,w4,w5⟩,?_,kC _ _ tdd (s7B _ _ td7),(hI7.same s7B).butK kC x1B,λc ys hc=>kC _ _ (λz=>by rw[z,c1]at hc;cases hc) (s7B _ _ (l7 c ys hc))⟩
   rw[er]
   refine⟨_,atC,by rw[cx y1,x2,zsm hi],λs hs=>?_⟩
   rcases zsl hg.ro hg.lw hi hs with es | ⟨ms,nm⟩
   ·rw[es]
    exact⟨tp,pw,pl,by rw[zbz,if_pos rfl],tC hB,tC (s7B _ _ y3),tC (sB _ _ hpl)⟩
   ·obtain⟨p',pw',pz',u1,u2,u3,u4⟩:=x3 s ms
    exact⟨p',pw',pz',by rw[zbz,if_neg (λz=>nm (sG z))];exact u1,tC (s7B _ _ u2),tC (s7B _ _ u3),tC (s7B _ _ u4)⟩
  ·rintro σ' H8 ⟨v9,rfl,hg8,sD8,sS8,td8,hI8,l8⟩
   obtain⟨dx8,e8⟩:=hg8.hh.at_
   have ok8:=hg8.ok (by rw[t'];omega)
   refine⟨_,rfl,o,_,dx8,_,_,rfl,e8,rfl,Ak,o,v',rfl,hg8.hh,hg8.p,λD9 H9 ys s9 n9 hI9 ey=>⟨_,rfl,zqj (by rw[ey,ex5]) hI9 (hI8.same s9),_,rfl,iteF ?_⟩⟩
   have e9:=s9 _ _ e8
   have hg9:=hg8.same s9
   refine⟨_,rfl,_,rfl,_,rfl,o,_,dx8,_,_,rfl,e9,rfl,DN,o,v',rfl,hg9.hh,_,rfl,o,_,dx8,_,_,rfl,e9,rfl,CI,o,v',rfl,hg9.hh,ok8,hg9.hT,λDR HR rs sR nR R l40 l14=>?_⟩
   have s8R:=s9.trans sR
   obtain⟨N,a1,a2,a3⟩:=R.eq
   have a1:aw rs=_:=a1
   obtain⟨N2,b1',b2',b3'⟩:=kp
   rw[t']at a1 a2 a3
   have eN:=zpU a2 a3 b1' b2'
   subst eN
   rw[<-a1]at b3'
   refine⟨_,rfl,lc,DR,td,xs,v'.h,v'.t,rs,N,tlL tl v.ps,rfl,hI8.same s8R,by have:=hg8.h0;omega,R.run,by rw[ex5,t'];exact a1,by rw[ex5,t'];exact a2,l14,l40,s8R _ _ td8,tll,?_,b3',λH' k'=>?_⟩
   ·rw[a1]
    exact zpm W' a2
   ·have td8R:=s8R _ _ td8
    have hgR:=(hg8.same s8R).butD k' td8R (by rw[aN'];exact tdn)
    have sDR:SD H' sd ds v'.h v'.ps.length:=let ⟨kv,a,b⟩:=sD8.ex;⟨kv,k' _ _ (Ne.symm tds) (s8R _ _ a),b⟩
    exact q v' tl' H' hgR sDR ((sS8.same s8R).but k' td8R (Ne.symm tdd)) aN' t' (by rcases en with⟨_,e2⟩ | ⟨_,e2⟩<;>omega) λc ys hc=>k' _ _ (λz=>by rw[z,n1]at hc;cases hc) (s8R _ _ (l8 c ys hc))
def ztM{cs:CsA}{cS cH tT:Addr}{H:Hp}{o:Addr}{v:Hv}{rs:List SR}{hd:Int}(hh:IsHs cs cS cH H o v)(hT:H tT=some (.tbl zbh lamQ))(nw:New v (rs.map SR.low) hd)(h0:1<=hd)(h6:hd<=6)(ro:RsOk rs):HG cs cS cH tT H o v (λ_=>0) 0:=by
 have ep:=nw.ps
 have en:=nw.nb
 have no:∀{P:Addr × Wd × Pv->Prop} q,q∈v.ps->P q:=λq hq=>by rw[ep]at hq;simp at hq
 have ro2:=ro.low
 refine⟨hh,hT,by rw[nw.rs];exact ro2,λr hr=>?_,by rw[nw.h];exact h0,by rw[nw.h];exact h6,⟨by rw[nw.rs];exact ro2.l1,by rw[nw.rs];exact ro2.ok,λi q hq=>by rw[ep]at hq;simp at hq,no,no,by rw[ep];exact tU _,by rw[ep];exact tU _⟩,no,no,by rw[nw.t];exact rL _,no,λn x h=>(by rw[en]at h;cases h),by rw[en];exact tD _⟩
 rw[nw.rs]at hr
 obtain⟨z,hz,e⟩:=mem_map.mp hr
 rw[<-e]
 exact(ro.ok z hz).low2
def zqk(xs:List V)(a b:Nat):(cutV xs (some (a:Int)) (some (b:Int))).length<=b-a:=by
 unfold cutV
 rw[HT.sIx_nat,HT.sIx_nat,su,pj]
 omega
def ztN{H:Hp}{sd ds:Addr}{h:Int}(e:H sd=some (.dK (zhl [] [((.inr "sorts" : Key),V.ref ds),(.inr "hands",.int h),(.inr "many",.int 0)]))):SD H sd ds h 0:=by
 have ne1:¬(Str.ofString "sorts")=Str.ofString "hands" := by decide +kernel
 have ne2:¬(Str.ofString "sorts")=Str.ofString "many" := by decide +kernel
 have ne3:¬(Str.ofString "hands")=Str.ofString "many" := by decide +kernel
 have e1:putK ([]:List (Key × V)) (.inr "sorts") (V.ref ds)=[(.inr "sorts",V.ref ds)]:=aM _ aY
 have e2:putK ([(.inr "sorts",V.ref ds)]:List (Key × V)) (.inr "hands") (V.int h)=[(.inr "sorts",V.ref ds),(.inr "hands",V.int h)]:=aM _ (by rw[zaY (λz=>ne1 (sG z)),aY])
 have e3:putK ([(.inr "sorts",V.ref ds),(.inr "hands",V.int h)]:List (Key × V)) (.inr "many") (V.int 0)=[(.inr "sorts",V.ref ds),(.inr "hands",V.int h),(.inr "many",V.int 0)]:=aM _ (by rw[zaY (λz=>ne2 (sG z)),zaY (λz=>ne3 (sG z)),aY])
 have em:zhl [] [((.inr "sorts" : Key),V.ref ds),(.inr "hands",.int h),(.inr "many",.int 0)]=([(.inr "sorts",V.ref ds),(.inr "hands",V.int h),(.inr "many",V.int 0)]:List (Key × V)):=by
  show putK (putK (putK ([]:List (Key × V)) (.inr "sorts") (V.ref ds)) (.inr "hands") (V.int h)) (.inr "many") (V.int 0)=_
  rw[e1,e2,e3]
 rw[em]at e
 refine⟨_,e,zbf rfl,?_,?_,rfl⟩
 ·rw[zaY (λz=>ne1 (sG z))]
  exact zbf rfl
 ·rw[zaY (λz=>ne2 (sG z)),zaY (λz=>ne3 (sG z))]
  exact zbf rfl
def SD.but2{H H':Hp}{sd ds o n cH dx:Addr}{fs:List (Str × V)}{kvs:List (Key × V)}{h:Int}{m:Nat}(k:But2 o n H H')(ho:H o=some (.ins cH dx fs))(hn:H n=some (.dK kvs))(ne:sd≠n)(d:SD H sd ds h m):SD H' sd ds h m:=let ⟨kv,a,b⟩:=d.ex;⟨kv,zpo k ho hn a (λ_ _ _ z=>by cases z) ne,b⟩
def SS.but2{H H':Hp}{ds o n cH dx:Addr}{fs:List (Str × V)}{kvs:List (Key × V)}{rs:List SR}(k:But2 o n H H')(ho:H o=some (.ins cH dx fs))(hn:H n=some (.dK kvs))(ne:ds≠n)(s:SS H ds rs):SS H' ds rs:=by
 obtain⟨kv,a,b,c⟩:=s.ex
 have kt:∀{c:Addr}{us:List V},H c=some (.tup us)->H' c=some (.tup us):=λh=>zpo k ho hn h (λ_ _ _ z=>by cases z) (λw=>by rw[w,hn]at h;cases h)
 exact⟨kv,zpo k ho hn a (λ_ _ _ z=>by cases z) ne,b,λr hr=>let ⟨p,pw,pz,x,y,z,u⟩:=c r hr;⟨p,pw,pz,x,kt y,kt z,kt u⟩⟩
def Kls(H H':Hp):Prop:=∀c u,(∀C dx fs,u≠.ins C dx fs)->(∀kvs,u≠.dK kvs)->H c=some u->H' c=some u
def zmw{H H':Hp}(s:Same H H'):Kls H H':=λc u _ _ h=>s _ _ h
def Kls.trans{H H' H2:Hp}(a:Kls H H')(b:Kls H' H2):Kls H H2:=λc u x y h=>b c u x y (a c u x y h)
def Kls.l{H H':Hp}(k:Kls H H'){c:Addr}{xs:List V}(h:H c=some (.lst xs)):H' c=some (.lst xs):=k _ _ (λ_ _ _ z=>by cases z) (λ_ z=>by cases z) h
def Kls.t{H H':Hp}(k:Kls H H'){c:Addr}{xs:List V}(h:H c=some (.tup xs)):H' c=some (.tup xs):=k _ _ (λ_ _ _ z=>by cases z) (λ_ z=>by cases z) h
def Kls.sq{H H':Hp}(k:Kls H H'){c:Addr}{xs:List V}(h:SqL K H c xs):SqL K H' c xs:=by
 rcases h with(h | ⟨o,h⟩) | h
 ·exact .inl (.inl (k.l h))
 ·exact .inl (.inr ⟨o,k _ _ (λ_ _ _ z=>by cases z) (λ_ z=>by cases z) h⟩)
 ·exact .inr h
def Kls.srs{H H':Hp}{l:Addr}{xs:List (Addr × SR)}(k:Kls H H')(h:IsSRs H l xs):IsSRs H' l xs:=⟨k.l h.at_,λq hq=>by
 obtain⟨pw,ps,a,b,c⟩:=h.sr q hq
 exact⟨pw,ps,k.t a,k.t b,k.t c⟩⟩
def zql{cs:CsA}{cS cH o:Addr}{H H':Hp}{v:Hv}(h:IsHs cs cS cH H o v)(k:But2 o v.aN H H'):Kls H H':=λc u n1 n2 hc=>by
 obtain⟨dx,e⟩:=h.at_
 have n:=h.p.nb
 exact k _ _ (λz=>by rw[z,e]at hc;exact n1 _ _ _ (tF hc).symm) (λz=>by rw[z,n]at hc;exact n2 _ (tF hc).symm) hc
def zdi:FnScope ["_law_script","_law_rows","_law_sorts_here","_law_name","_law_weight_here","_law_speed","_law_span","_law_tries","_law_cell_here","_law_state","_law_house","_law_k","_law_more"] ["_law_script"] (zac zmT):=fsc
include T in
theorem ztO(D:Dfn K mg "law" zmT ["_law_script"] f fd)(zek:Cal P w K mg bf "_law_cell" 1 pl28 (zre K))(zar:Cal P w K mg bf "_law_draw" 2 pl30 zgy)(zby:Cal P w K mg bf "_law_low" 1 ["_law_one"] (zqi K))(cC:Cal P w K mg bf "_law_sorts" 4 ["_law_cell_here"] zkE)(cD:Cal P w K mg bf "_law_answered" 18 pl38 (zrm (CsA.mk Ae Aa Ab Ac) Af Ad tT))(zcI:Cal P w K mg bf "_law_place_now" 3 ["_law_house"] (zpn (CsA.mk Ae Aa Ab Ac) Af Ad))(Eo:MakG CX0 P w K mg bf "House" Ad 9 (zoT (CsA.mk Ae Aa Ab Ac) Af Ad))(DU:MOk CX0 P w K mg bf 16 Ad "come" (zpa K (CsA.mk Ae Aa Ab Ac) Af Ad Ah Ag tT))(Ay:MOk CX0 P w K mg bf 1 Ah "granted" (zfo Ah)/\MOk CX0 P w K mg bf 1 Ag "granted" (zml Ag))(BP:MOk2 CX0 P w K mg bf 11 Ad "pass_turn" .non (.int 0) (zpe K (CsA.mk Ae Aa Ab Ac) Af Ad tT)):FnOk P w K mg bf CX0 19 f fd ["_law_script"] (znM K tT):=by
 refine D.F.ok zdi (by walk_at "z") (λc A o s H vs Q E hr h=>?_)
 obtain⟨a,ns,rfl,hS,h63,hT,q⟩:=h
 refine⟨_,(zab (zap (i:=1) zdi.nd rfl (Or.inl rfl) (zaj cC hr.o rfl (zaa (zaj zek hr.o rfl (zaa (pv 0) (zaa zae zaf))) zaf)))
  (zab (zap (i:=2) zdi.nd rfl (Or.inl rfl) zfd)
  (zab (zcJ tY rfl (zaK (pv 1)) (zeo rfl (zaJ (zaH (i:=3) zdi.nd rfl (Or.inl rfl)) (zaJ (zaH (i:=4) zdi.nd rfl (Or.inl rfl)) (zaJ (zaH (i:=5) zdi.nd rfl (Or.inl rfl)) (zaJ (zaH (i:=6) zdi.nd rfl (Or.inl rfl)) (zaJ (zaH (i:=7) zdi.nd rfl (Or.inl rfl)) zcu)))))) (zag (zdT hr.units1 (pv 2) (pv 3) (zaM (zaa (zaj zby hr.o rfl (zaa (pv 4) zaf)) (zaa (zaj zby hr.o rfl (zaa (pv 5) zaf)) (zaa (zaz zbJ (pv 6) (pv 7)) zaf)))) rfl)))
  (zab (zap (i:=8) zdi.nd rfl (Or.inl rfl) (zaj zek hr.o rfl (zaa (pv 0) (zaa zae zaf))))
  (zab (zap (i:=9) zdi.nd rfl (Or.inl rfl) (zpD (bB zaT (pv 2) (bB zaT (zaz ay zae (zaj zar hr.o rfl (zaa (pv 8) (zaa zae (zaa zae zaf))))) (bB zaT zae zrz))) rfl rfl (by intro z;cases z) (by decide)))
  (zab (zap (i:=10) zdi.nd rfl (Or.inl rfl) (zfR Eo hr.o rfl zaD (zaa (pv 1) (zaa (zaN hr.units1 (pv 9) zaT (λ_ _=>rfl)) zaf))))
  (zab (zcJ tY rfl (zhg rfl T.zk7 (zaa (zaz ay zae (zaj zar hr.o rfl (zaa (pv 8) (zaa zae (zaa zae zaf))))) zaf)) (zaH (i:=11) zdi.nd rfl (Or.inl rfl)) (zag (zdT hr.units1 (pv 9) zaT (zaz ay (zaN hr.units1 (pv 9) zaT (λ_ _=>rfl)) (zbK zhh rfl T.zqc zlO (zaa (zaI (k:=1) (zbd (k:=16) (pv 10) hr.o zaD (zaa (zaq zal (zaq zbC (pv 1) (zaj zar hr.o rfl (zaa (pv 8) (zaa (zaz ay zae (pv 11)) (zaa (zay zaF rfl T.zdf zbL (zaa (pv 1) zaf)) zaf)))) (λ_ _=>rfl)) zae (λ_ _=>rfl)) zaf)) hr.o zaD) zaf))) rfl)))
  (zab (zcJ tY rfl (zaK (zaz bj (zdm bg (pv 0) (zdU zae) (zdU zae)) (zaO (zaa zae (zaa zae (zaa zae zaf)))))) (zaH (i:=12) zdi.nd rfl (Or.inl rfl)) (zag (au (PW.pt (zjM (zas zdk (zaj zar hr.o rfl (zaa (pv 12) (zaa zae (zaa zae zaf)))) zae (zaB _)) (zhe (av (zaj zcI hr.o rfl (zaa (pv 10) zaf)))))) (zag (zcS (zrX (k:=11) (pv 10) hr.o zaD))) (zag (au (zbl (av (zaj cD hr.o rfl (zaa (pv 10) (zaa (pv 9) (zaa (pv 12) zaf)))))) (zag (zah zdj)) zaw)))))
  (zag (zah zdj)))))))))),?_⟩
 refine⟨_,rfl,a,ns,0,rfl,hS,by decide,λx=>⟨x,rfl,λl xs H1 s1 n1 hx ro=>?_⟩⟩
 refine λds H2 s2 n2 h2=>?_
 have hx2:=hx.same s2
 have lds:l≠ds:=λz=>by
  have:=hx.at_
  rw[z,n2]at this
  cases this
 refine⟨_,rfl,l,rfl,⟨_,SqL.of hx2.at_⟩,?_⟩
 have dsn:H ds=none:=Same.free s1 n2
 refine zcK (K:=K) (a:=l) (xs:=xs.map λq=>V.ref q.1) (λi σ H'=>∃v3 v4 v5 v6 v7:Option V,σ=[some (.ref a),some (.ref l),some (.ref ds),v3,v4,v5,v6,v7,none,none,none,none,none]/\Same H H'/\IsSRs H' l xs/\SS H' ds ((xs.take i).map (·.2.low)))
  ⟨_,_,_,_,_,rfl,s1.trans s2,hx2,[],h2,rfl,λr hr=>by simp at hr⟩ (λi σ H' _ ⟨_,_,_,_,_,_,_,h,_⟩=>SqL.of h.at_) ?_ ?_
 ·rintro i y σ H3 hi ⟨v3,v4,v5,v6,v7,rfl,s3,hx3,sS⟩
  obtain⟨z,ez,hi⟩:=gmp hi
  cases hi
  have mz:=tz ez
  have okz:=ro.ok z.2 (mem_map.mpr ⟨z,mz,rfl⟩)
  obtain⟨pw,pz,a1,a2,a3⟩:=hx3.sr z mz
  refine⟨z.1,_,rfl,SqT.of a1,rfl,_,_,rfl,_,_,rfl,_,_,rfl,_,_,rfl,_,_,rfl,rfl,?_⟩
  refine⟨_,rfl,pw,z.2.a,z.2.b,rfl,a2,okz.a0,okz.b0,okz.b1,λp1 H4 s4 h4=>⟨_,rfl,pz,z.2.c,z.2.d,rfl,s4 _ _ a3,okz.c0,okz.d0,okz.d1,λp2 H5 s5 h5=>?_⟩⟩
  have sp0:=okz.s0
  have sp1:=okz.s1
  refine⟨_,rfl,_,rfl,_,_,rfl,rfl,.inl ⟨by omega,by omega⟩,si3,λtp H6 s6 n6 h6=>?_⟩
  have s36:=s4.trans (s5.trans s6)
  obtain⟨kvs,c1,c2,c3⟩:=(sS.same s36).ex
  have lk:kvs.length<=8:=by
   have:=tS List.length c2
   have l1:=ro.l1
   rw[tq,tq,tq,su]at this
   rw[tq]at l1
   omega
  refine⟨_,rfl,_,rfl,ds,_,rfl,DPut.k (k:=.inr z.2.nm) c1 (rc lk (by decide)),?_⟩
  have kC:=But.upd ds H6 (.dK (putK kvs (.inr z.2.nm) (.ref tp)))
  have atC:upd H6 ds (.dK (putK kvs (.inr z.2.nm) (.ref tp))) ds=some (.dK (putK kvs (.inr z.2.nm) (.ref tp))):=zan
  generalize upd H6 ds (.dK (putK kvs (.inr z.2.nm) (.ref tp)))=H7 at kC atC
  have tC:∀{c:Addr}{us:List V},H6 c=some (.tup us)->H7 c=some (.tup us):=λh=>kC _ _ (λw=>by rw[w,c1]at h;cases h) h
  have ne:∀r,r∈(xs.take i).map (·.2.low)->r.nm≠z.2.nm:=λr hr e=>by
   obtain⟨w,hw,ew⟩:=mem_map.mp hr
   obtain⟨j,hj,ej⟩:=tX hw
   have hj2:=hj
   rw[su]at hj2
   have hj3:xs[j]?=some w:=by
    rw[List.getElem_take]at ej
    rw[tm (by omega),ej]
   have:=ro.nd j i w.2 z.2 (by rw[getElem?_map,hj3];rfl) (by rw[getElem?_map,ez];rfl) (by rw[<-ew]at e;exact e)
   omega
  have vn:valV kvs (.inr z.2.nm)=none:=by
   cases ev:valV kvs (.inr z.2.nm) with
   | none=>rfl
   | some u=>
     have:=zrE ev
     rw[c2]at this
     obtain⟨r,hr,er⟩:=mem_map.mp this
     exact absurd (sG er) (ne r hr)
  have et:xs.take (i+1)=xs.take i++[z]:=by
   rw[List.take_add_one,ez]
   rfl
  have s06:=s3.trans s36
  refine⟨_,_,_,_,_,rfl,s06.but dsn kC,(hx3.same s36).but kC c1 (λ_ w=>by cases w) lds,_,atC,?_,λr hr=>?_⟩
  ·rw[aM _ vn,tV,c2,et,tV,tV]
   rfl
  ·rw[et,tV]at hr
   rcases mem_append.mp hr with hr | hr
   ·obtain⟨p,qw,qz,u1,u2,u3,u4⟩:=c3 r hr
    exact⟨p,qw,qz,by rw[zbz,if_neg (λw=>ne r hr (sG w))];exact u1,tC u2,tC u3,tC u4⟩
   ·rw[mem_singleton.mp hr]
    exact⟨tp,p1,p2,by rw[zbz];exact if_pos rfl,tC h6,tC ((s5.trans s6) _ _ h4),tC (s6 _ _ h5)⟩
 ·rintro σ H3 ⟨v3,v4,v5,v6,v7,rfl,s3,hx3,sS⟩
  rw[tq,r8]at sS
  refine⟨_,rfl,a,ns,1,rfl,s3.seq hS,by decide,λx1=>?_⟩
  have f0:=zbg x1 0 (m:=6) (by decide)
  have f6:=aA x1 0 (m:=6) (by decide)
  refine λsd H4 s4 n4 h4=>⟨_,rfl,_,rfl,x1,0,6,rfl,by decide,by decide,_,_,rfl,rfl,h4,[(.inr "sorts",.ref ds),(.inr "hands",.int (1+zbj x1 0 6)),(.inr "many",.int 0)],rfl,(by show(3:Nat)<=15;decide),λH5 k5 h5=>?_⟩
  have sD5:=ztN h5
  have dS:ds≠sd:=λz=>by
   obtain⟨_,c1,_⟩:=sS.ex
   rw[z,n4]at c1
   cases c1
  have s35:Same H3 H5:=λc u hc=>k5 c u (λz=>by rw[z,n4]at hc;cases hc) (s4 _ _ hc)
  have s05:=s3.trans s35
  have hx5:=hx3.same s35
  have sS5:=sS.same s35
  obtain⟨kv,b1,b2,b3,b4,b5⟩:=sD5.ex
  refine⟨_,rfl,_,rfl,sd,_,rfl,zcm b1 b3,l,xs,1+zbj x1 0 6,rfl,hx5,ro,by omega,by omega,λo H6 v s6 n6 hh nw=>?_⟩
  have s06:=s05.trans s6
  have nw':New v ((xs.map (·.2)).map SR.low) (1+zbj x1 0 6):=by
   rw[tW]
   exact nw
  have hg6:=ztM hh (s06 _ _ hT) nw' (by omega) (by omega) ro
  have sD6:=sD5.same s6
  have sS6:=sS5.same s6
  have hnb:H6 v.aN=some (.dK []):=by rw[<-nw.nb];exact hh.p.nb
  have sN:sd≠v.aN:=λz=>by
   have:=s6 _ _ b1
   rw[z,hnb]at this
   cases this
   cases b5
  have dN:ds≠v.aN:=λz=>by
   obtain⟨kx,c1,c2,_⟩:=sS6.ex
   rw[z,hnb]at c1
   cases c1
   have:=tS List.length c2
   have l0:=ro.l0
   rw[tq]at l0
   rw[tq,tq,tq]at this
   exact absurd this (by show ¬ 0=xs.length;omega)
  obtain⟨rs0,er0⟩:∃rs0,rs0=xs.map (·.2.low):=⟨_,rfl⟩
  have nh:=nw.h
  have g0:=zbg x1 1 (m:=5) (by decide)
  have g5:=aA x1 1 (m:=5) (by decide)
  have p62:(100:Int)<2 ^ 62:=by decide
  have l0:=ro.l0
  have l1:=ro.l1
  rw[tq]at l0 l1
  have mx:(xs.map λq=>V.ref q.1).length=xs.length:=tq _
  refine⟨_,rfl,x1,1,5,rfl,by decide,by decide,_,_,rfl,rfl,_,rfl,by omega,by omega,?_⟩
  refine zjN (λi σ H'=>∃(v11:Option V)(v':Hv)(tl:Int->Int)(km:Nat),σ=[some (.ref a),some (.ref l),some (.ref ds),v3,v4,v5,v6,v7,some (.int x1),some (.ref sd),some (.ref o),v11,none]/\HG (CsA.mk Ae Aa Ab Ac) Af Ad tT H' o v' tl km/\SD H' sd ds v'.h v'.ps.length/\SS H' ds v'.rs/\v'.rs=rs0/\v'.aN=v.aN/\v'.t=0/\v'.ps.length<=i/\km<=i/\(∀q,q∈v'.ps->q.2.1≠.held)/\Kls H6 H')
   ⟨_,v,_,0,rfl,hg6,by rw[nw.h,nw.ps];exact sD6,by rw[nw.rs];exact sS6,by rw[nw.rs,er0],rfl,nw.t,by rw[nw.ps];exact tD _,tD _,λq hq=>by rw[nw.ps]at hq;simp at hq,zmw (Same.refl _)⟩ ?_ ?_
  ·rintro i σ H7 hi ⟨v11,v',tl,km,rfl,hg7,sD7,sS7,er,ea,et,pl,kl,nh,kk⟩
   have i9:i<7:=by omega
   have hx7:=kk.srs (hx5.same s6)
   obtain⟨kv7,d1,d2,d3,d4,d5⟩:=sD7.ex
   obtain⟨dx,e⟩:=hg7.hh.at_
   have j0:=zbg x1 (2+(0+(i:Int))) (m:=xs.length) (by omega)
   have j1:=aA x1 (2+(0+(i:Int))) (m:=xs.length) (by omega)
   obtain⟨j,ej⟩:∃j:Nat,zbj x1 (2+(0+(i:Int))) xs.length=(j:Int):=⟨_,(rC j0).symm⟩
   rw[ej]at j1
   obtain⟨z,hz⟩:∃z,xs[j]?=some z:=⟨_,tm (by omega)⟩
   have mz:=tz hz
   obtain⟨pw,pz,a1,a2,a3⟩:=hx7.sr z mz
   have hr':z.2.low∈v'.rs:=by
    rw[er,er0]
    exact mem_map.mpr ⟨z,mz,rfl⟩
   obtain⟨_,fd⟩:=zdH hg7.ro hr'
   have op:(v'.ps.filter λq=>q.2.1.opn).length<40:=rc (t6 _ _) (by omega)
   have W:=zlv hg7 hr' (c:=v'.t) (by omega) (by omega) (d:=.waiting) rfl (λ_=>rL _) (by omega) op
   have pvl:=zsi (hg7.ro.ok _ hr') v'.ps.length (c:=v'.t) (by omega) (by omega) .waiting rfl
   have sN7:sd≠v'.aN:=by rw[ea];exact sN
   have dN7:ds≠v'.aN:=by rw[ea];exact dN
   refine⟨_,rfl,sd,_,rfl,zcm d1 d4,_,rfl,o,_,dx,_,_,rfl,e,rfl,DU,_,rfl,_,rfl,_,rfl,_,_,rfl,rfl,_,rfl,l,_,rfl,.inl (SqL.of hx7.at_),x1,_,_,rfl,by show 0<=2+(0+(i:Int));omega,by rw[mx];omega,l,_,_,.ref z.1,rfl,rfl,SqL.of hx7.at_,by rw[mx,ej];exact zcT (by rw[getElem?_map,hz];rfl),z.1,_,_,_,rfl,rfl,SqT.of a1,rfl,o,v',tl,z.2.low,km,rfl,hg7.hh,hg7.ok (by omega),hg7.ht,hg7.hT,hg7.nb,by omega,by have:=hg7.nl;omega,hr',fd.2.2,op,λb=>(W b).1.p,pvl.1.left.2.2 rfl,λq hq qh=>absurd qh (nh q hq),λb l' ll us uu dd Hd L g H8 kp k8 hL hu hl lk hh8 ng hgr=>?_,λb g H8 s8 hl=>?_⟩
   ·have hG:=hg7.come (p:=pvOf z.2.low v'.ps.length v'.t) rfl (W b).1 k8 hl lk hh8
    have sD8:=sD7.but2 k8 e hg7.hh.p.nb sN7
    have sS8:=sS7.but2 k8 e hg7.hh.p.nb dN7
    obtain⟨gdx,g1⟩:=id hgr
    obtain⟨kw,a5,la5,_,f5⟩:=zmv sD8 "many" (.int ((v'.ps.length:Int)+if true=true then 1 else 0))
    have sD9:=f5 (v'.ps.length+1) rfl (by rw[if_pos rfl];rfl)
    refine⟨g,_,gdx,_,_,rfl,g1,rfl,Ay.1,g,_,rfl,hgr,.inr ⟨_,rfl,_,_,rfl,rfl,_,rfl,sd,_,rfl,DPut.k (k:=.inr "many") a5 la5,?_⟩⟩
    have k9:=But.upd sd H8 (.dK (putK kw (.inr "many") (.int ((v'.ps.length:Int)+if true=true then 1 else 0))))
    refine⟨_,_,_,_,rfl,hG.butD k9 a5 sN7,?_,sS8.but k9 a5 dS,er,ea,et,?_,by omega,λq hq=>?_,(kk.trans (zql hg7.hh k8)).trans λc u n1 n2 hc=>k9 _ _ (λy=>by rw[y,a5]at hc;exact n2 _ (tF hc).symm) hc⟩
    ·show SD _ sd ds v'.h (v'.ps++_).length
     rw[tQ]
     exact sD9
    ·show(v'.ps++_).length<=_
     rw[tQ]
     show v'.ps.length+1<=i+1
     omega
    ·rcases mem_append.mp hq with hq | hq
     ·exact nh q hq
     ·rw[mem_singleton.mp hq]
      exact λy=>by cases y
   ·have sD8:=sD7.same s8
    obtain⟨_,M,dd,uu,_,_,_,_,_,hlt⟩:=hl.ex
    obtain⟨gdx,_,_,g1,_⟩:=id hlt.ex
    obtain⟨kw,a5,la5,_,f5⟩:=zmv sD8 "many" (.int ((v'.ps.length:Int)+if false=true then 1 else 0))
    have sD9:=f5 v'.ps.length rfl (by show V.int ((v'.ps.length:Int)+0)=_;rw[Int.add_zero])
    refine⟨g,_,gdx,_,_,rfl,g1,rfl,Ay.2,g,_,_,_,_,rfl,hlt,.inr ⟨_,rfl,_,_,rfl,rfl,_,rfl,sd,_,rfl,DPut.k (k:=.inr "many") a5 la5,?_⟩⟩
    have k9:=But.upd sd H8 (.dK (putK kw (.inr "many") (.int ((v'.ps.length:Int)+if false=true then 1 else 0))))
    exact⟨_,v',tl,km,rfl,(hg7.same s8).butD k9 a5 sN7,sD9,(sS7.same s8).but k9 a5 dS,er,ea,et,by omega,by omega,nh,(kk.trans (zmw s8)).trans λc u n1 n2 hc=>k9 _ _ (λy=>by rw[y,a5]at hc;exact n2 _ (tF hc).symm) hc⟩
  ·rintro σ H7 ⟨v11,v',tl,km,rfl,hg7,sD7,sS7,er,ea,et,pl,kl,nh,kk⟩
   have hS7:=kk.sq (s06.seq hS)
   obtain⟨ms,ems⟩:=zpR ns (some 2) (some 42)
   have ml:ms.length<=40:=by
    have:=zqk (ns.map V.int) 2 42
    rw[show cutV (ns.map V.int) (some ((2:Nat):Int)) (some ((42:Nat):Int))=ms.map V.int from ems,tq]at this
    exact this
   refine⟨_,rfl,_,rfl,_,rfl,a,_,rfl,hS7,λl8 H8 s8 n8 h8=>?_⟩
   rw[ems]at h8
   have big3:ms.length+3<=sizeLine:=tM (show ms.length+3<=1000 by omega) (by decide)
   refine⟨si3,λl9 H9 s9 n9 h9=>⟨l8,l9,_,_,rfl,rfl,SqL.of (s9 _ _ h8),SqL.of h9,by rw[tq];exact big3,λlm HA sA nA hA=>⟨lm,rfl,⟨_,SqL.of hA⟩,?_⟩⟩⟩
   have hA:HA lm=some (.lst ((ms++[3,8,13]).map V.int)):=by
    rw[hA,tV]
    rfl
   have mA:((ms++[3,8,13]).map V.int).length<=43:=by
    rw[tq,tQ]
    show ms.length+3<=43
    omega
   have s7A:=s8.trans (s9.trans sA)
   refine zcK (K:=K) (a:=lm) (xs:=(ms++[3,8,13]).map V.int) (λi σ H'=>∃(v12:Option V)(v2:Hv)(tl:Int->Int)(km:Nat),σ=[some (.ref a),some (.ref l),some (.ref ds),v3,v4,v5,v6,v7,some (.int x1),some (.ref sd),some (.ref o),v11,v12]/\HG (CsA.mk Ae Aa Ab Ac) Af Ad tT H' o v2 tl km/\SD H' sd ds v2.h v2.ps.length/\SS H' ds v2.rs/\v2.aN=v.aN/\v2.t<=i/\v2.ps.length<=7+i/\km<=7+i/\H' lm=some (.lst ((ms++[3,8,13]).map V.int)))
    ⟨_,v',tl,km,rfl,hg7.same s7A,sD7.same s7A,sS7.same s7A,ea,by rw[et];exact rL _,by omega,by omega,hA⟩ (λi σ H' _ ⟨_,_,_,_,_,_,_,_,_,_,_,_,h⟩=>SqL.of h) ?_ ?_
   ·rintro i y σ HB hi ⟨v12,v2,tl2,km2,rfl,hgB,sDB,sSB,ea2,t2,p2,k2,hlm⟩
    obtain⟨m,hm,rfl⟩:=mem_map.mp (tz hi)
    have il:i<43:=tN (List.getElem?_eq_some_iff.mp hi).1 mA
    obtain⟨dx,e⟩:=hgB.hh.at_
    have sNB:sd≠v2.aN:=by rw[ea2];exact sN
    have dNB:ds≠v2.aN:=by rw[ea2];exact dN
    refine⟨_,rfl,m,10,4,rfl,by decide,by decide,rfl,_,rfl,?_⟩
    have pas:∀{HC:Hp},Same HB HC->∀(ps':List (Addr × Wd × Pv))(l' lr:Addr)(HD:Hp),ps'.map (·.2)=v2.ps.map (λq=>bhP v2.t (wsV v2) q.2)->But o HC HD->IsHs (CsA.mk Ae Aa Ab Ac) Af Ad HD o { v2 with ps:=ps',aP:=l',aR:=lr,t:=v2.t+1 }->∃(v12:Option V)(v3':Hv)(tl:Int->Int)(km:Nat),[some (.ref a),some (.ref l),some (.ref ds),v3,v4,v5,v6,v7,some (.int x1),some (.ref sd),some (.ref o),v11,some (.int m)]=[some (.ref a),some (.ref l),some (.ref ds),v3,v4,v5,v6,v7,some (.int x1),some (.ref sd),some (.ref o),v11,v12]/\HG (CsA.mk Ae Aa Ab Ac) Af Ad tT HD o v3' tl km/\SD HD sd ds v3'.h v3'.ps.length/\SS HD ds v3'.rs/\v3'.aN=v.aN/\v3'.t<=((i+1:Nat):Int)/\v3'.ps.length<=7+(i+1)/\km<=7+(i+1)/\HD lm=some (.lst ((ms++[3,8,13]).map V.int)):=λ{HC} sC ps' l' lr HD em kD hhD=>by
     have kD2:But2 o v2.aN HC HD:=λc u c1 _ hc=>kD c u c1 hc
     have hgC:=hgB.same sC
     obtain⟨dxC,eC⟩:=hgC.hh.at_
     have lp:ps'.length=v2.ps.length:=by
      have:=tS List.length em
      rw[tq,tq]at this
      exact this
     refine⟨_,_,tl2,km2+1,rfl,hgC.pass em kD hhD,?_,(sSB.same sC).but2 kD2 eC hgC.hh.p.nb dNB,ea2,by show v2.t+1<=_;omega,by show ps'.length<=_;omega,by omega,kD _ _ (λz=>by have:=sC _ _ hlm;rw[z,eC]at this;cases this) (sC _ _ hlm)⟩
     show SD HD sd ds v2.h ps'.length
     rw[lp]
     exact(sDB.same sC).but2 kD2 eC hgC.hh.p.nb sNB
    have hp6:=hgB.h6
    refine ite2 (λc=>iteT ?_) (λc=>?_)
    ·exact⟨_,rfl,o,_,dx,_,_,_,_,rfl,e,rfl,BP,o,v2,rfl,hgB.hh,hgB.ok (by omega),by omega,hgB.ca,hgB.hT,λps' l' lr p HD em kb hhD=>pas (Same.refl _) ps' l' lr HD em kb hhD⟩
    ·refine⟨_,rfl,o,v2,rfl,hgB.hh,hgB.p,λb HC sC hb=>⟨_,rfl,?_⟩⟩
     have hgC:=hgB.same sC
     cases b with
     | true=>exact iteT ⟨_,rfl,o,_,dx,_,_,_,_,rfl,sC _ _ e,rfl,BP,o,v2,rfl,hgC.hh,hgC.ok (by omega),by omega,hgC.ca,hgC.hT,λps' l' lr p HD em kb hhD=>pas sC ps' l' lr HD em kb hhD⟩
     | false=>
       refine iteF ⟨_,rfl,_,rfl,_,rfl,o,sd,ds,v2,tl2,km2,m,rfl,hgC,sDB.same sC,sSB.same sC,sNB,dNB,dS,hb rfl,by omega,by omega,by omega,λv3' tl3 HD hgD sDD sSD ea3 et3 pl3 ll=>⟨_,rfl,iteF ?_⟩⟩
       exact⟨_,v3',tl3,km2+1,rfl,hgD,sDD,sSD,by rw[ea3,ea2],by rw[et3];omega,by omega,by omega,ll _ _ (sC _ _ hlm)⟩
   ·rintro σ HB ⟨v12,v2,tl2,km2,rfl,hgB,sDB,sSB,ea2,t2,p2,k2,hlm⟩
    exact q HB
end
theorem all_mk{l:W.OpenLaw}{w:World}{K:am}{h:Heap}{mg:af}{fa BC Ae Aa Cr Ab Ac Am Af AC Ah Ag Ad:Addr}(X:K.In h)(G:h.Ns mainGlobals mg)(hfa:mg "law" = some (.ref fa))
 (d0:DAt K "is_whole" zfT IZ Ja Jb Jc Jd eO Je Jf Jg Jh)
 (d1:DAt K "all_between" zdn Ji Jj Jk Jl Jm fW Jn Jo Jp Jq)
 (d2:DAt K "is_name" zhI Jr Js Jt Ju Jv Jw Jx Jy Jz JA)
 (d3:DAt K "common_divisor" zce JB JC JD JE JF JG JH JI JJ JK)
 (d4:DAt K "lowest" zjf JL JM JN JO JP JQ JR JS JT JU)
 (d5:DAt K "is_weight" zex JV JW JX JY JZ J0 J1 J2 J3 J4)
 (d6:DAt K "check_turn" zdV J5 J6 J7 J8 J9 Ka Kb Kc Kd Ke)
 (d7:DAt K "common_bottom" zcw Kf Kg Kh Ki Kj Kk Kl Km Kn Ko)
 (d8:DAt K "place_key" zey Kp Kq Kr Ks Kt Ku Kv Kw Kx Ky)
 (d9:DAt K "claims_in_order" zaE fX fY fZ fc fe fh fi fj fk f7)
 (d10:DAt K "numbers_in_order" zbM f9 gb gf gg gh gi gj gk gl gm)
 (d11:DAt K "order_at" zfU gp gq gr gt gu gv gw gz gA gB)
 (d12:DAt K "numbers_worked" zcf gC gD gE gF gG gH gJ gK gL gM)
 (d13:DAt K "chores_behind" zcx gO gP gQ gR gS gT gU gW gX gY)
 (d14:DAt K "turn_done" zez gZ g7 g8 g9 hJ hU hV hX hZ ia)
 (d15:DAt K "chores_taken" zcW ib ic ie ig ii io ip iq ir iu)
 (a16:W.nsIn K mainGlobals "run_of" = some (some (.ref aV))) (l16:K.lookup aV=some ⟨iw,iz,.func (W.fnOf "run_of" "run_of" (zat zdo) (zam zdo) (zac zdo) (.ref cE) iA iB iC iD cF iE),iF⟩) (c16:W.codeIn K cF "run_of" = true) (k16:W.keepIn K (.ref aV)=true) (t16:K.lookup cE=some cI) (u16:Obj.data cI=.seq #[.none] iG)
 (d17:DAt K "is_piece_of" zdp iH iI iJ iK iL iM iO iP iQ iR)
 (d18:DAt K "check_piece" zdq iS iT iU iV iW iX iY iZ i4 i5)
 (d19:DAt K "last_turns" zdW i6 i7 jc jd je jf jg jh jj jm)
 (d20:DAt K "latest_all" zdX jn jo jp jq jr jt ju jv jw jx)
 (d21:DAt K "latest_of" zeA jy jz jA jB jC jD jE jF jG jH)
 (d22:DAt K "kept_all" zfV jI jJ jK jL jM jN jO jP jQ jR)
 (d23:DAt K "claim_of" zfW jS jT jU jV jW jX jY jZ j3 j4)
 (d24:DAt K "chore_of" zfX j5 j6 j7 j8 j9 ka kd ke kg kh)
 (d25:DAt K "is_row" zjg ko kq kr ku ky kz kG kI kJ kK)
 (d26:DAt K "are_rows" zfY kN kO kP kQ kR kT kU kW kX kY)
 (d27:DAt K "in_lowest" zeB kZ lg lh lj ls lA lB lC lD lE)
 (d28:DAt K "sort_from" zeC lF lG lH lI lJ lK lL lM lO lP)
 (d29:DAt K "own_rows" zfZ lQ lR lT lU lV lW lY lZ ma md)
 (d30:DAt K "chores_of" zeD me mf mh mj mB mC mE mF mG mH)
 (d31:DAt K "with_piece" zdY mI mJ mK mL mM mO mP mQ mR mT)
 (d32:DAt K "check_ends" zdZ mU mV mW mY mZ m8 na nn nu nv)
 (d33:DAt K "piece_behind" zcX nG nH nI nJ nL nM nN nO nP nQ)
 (d34:DAt K "_law_cell" zga nS nU nV nW nX nY nZ oa oh oi)
 (d35:DAt K "_law_mix" zhJ oj om oo ou oy oA oB oC oE oF)
 (d36:DAt K "_law_draw" zgb oG oH oI oJ oK oM oN oO oP oQ)
 (d37:DAt K "_law_weight" bI oR oS oU oV oW oX oY oZ pO pP)
 (d38:DAt K "_law_heft" zgc pQ pR pT pU pV pW pX pY pZ ua)
 (d39:DAt K "_law_order" zeE ub uc ud ue uf ug uh ui uj uk)
 (d40:DAt K "_law_turn" zgd um uo uq ur ut uv uw ux uy uz)
 (d41:DAt K "_law_ends" zge uA uB uC uD uE uF uG uH uI uJ)
 (d42:DAt K "_law_low" zhK uK uL uM uN uO uP uQ uR uS uT)
 (d43:DAt K "_law_sorts" zeF uU uV uW uX uY uZ u6 u7 u8 va)
 (d44:DAt K "_law_walked" bJ vb vc vd ve vf vg vh vi vj vk)
 (d45:DAt K "_law_kept" zgf vm vo vq vt vw vx vy vz vA vB)
 (d46:DAt K "_law_is_late" zdr vC vD vE vF vG vH vI vJ vK vL)
 (d47:DAt K "_law_question" zcY vM vN vO vP vQ vR vS vT vU vV)
 (d48:DAt K "_law_turned" bK vW vX vY vZ wa wc we wf wg wj)
 (d49:DAt K "_law_answered" zcZ wl wm wn wo wq wu wv ww wx wz)
 (d50:DAt K "_law_place_now" zcy wA wB wC wD wE wG wH wI wJ wK)
 (d51:DAt K "law" zmT wL wN wO cJ cK cM cN cO cP wP)
 (EO:ZeS K "abs")
 (EQ:ZeS K "all")
 (ER:ZeS K "any")
 (Ez:ZeS K "bool")
 (EA:ZeS K "dict")
 (CJ:ZeS K "enumerate")
 (ES:ZeS K "int")
 (Ce:ZeS K "isinstance")
 (ET:ZeS K "len")
 (EB:ZeS K "list")
 (EU:ZeS K "min")
 (Ep:ZeS K "range")
 (EV:ZeS K "set")
 (D7:ZeS K "sorted")
 (EW:ZeS K "str")
 (Er:ZeS K "tuple")
 (AD:GlS K "LONGEST_NAME" 8 EC)
 (BE:GlS K "MOST_TOP" 1000000 EX)
 (AH:GlS K "MOST_BOTTOM" 12 EE)
 (Bg:GlS K "MOST_TURN" 1000000000000000 EK)
 (A0:GlS K "MOST_SORTS" 8 EF)
 (Bh:GlS K "MOST_SPAN" 4 EL)
 (A6:GlS K "MOST_TRIES" 3 EG)
 (A7:GlS K "MOST_HANDS" 6 EH)
 (AE:GlS K "MOST_HELPERS" 6 ED)
 (Bi:GlS K "MOST_OPEN" 40 EM)
 (Ao:GlS K "MOST_TURNS_TO_HOLD" 400 Eg)
 (gc:GcT K)
 (o0:OAt K "Piece" BC)
 (o1:OAt K "Held" Ae)
 (m1:CAt K Ae aK)
 (n0:NoS K Ae "number")
 (n1:NoS K Ae "sort_name")
 (n2:NoS K Ae "came")
 (n3:NoS K Ae "span")
 (n4:NoS K Ae "tries")
 (n5:NoS K Ae "spent")
 (e0:MeS K Ae "is_open" wQ)
 (e1:MeS K Ae "missed" wR)
 (e2:MeS K Ae "row" bv)
 (e3:MeS K Ae "word" cQ)
 (e4:MeS K Ae "work_left" bx)
 (o2:OAt K "Waiting" Aa)
 (m2:CAt K Aa aK)
 (n6:NoS K Aa "number")
 (n7:NoS K Aa "sort_name")
 (n8:NoS K Aa "came")
 (n9:NoS K Aa "span")
 (n10:NoS K Aa "tries")
 (n11:NoS K Aa "spent")
 (e5:MeS K Aa "failed" wS)
 (e6:MeS K Aa "is_open" wT)
 (e7:MeS K Aa "resorted" wU)
 (e8:MeS K Aa "row" bv)
 (e9:MeS K Aa "stepped" wV)
 (e10:MeS K Aa "word" wW)
 (e11:MeS K Aa "work_left" bx)
 (o3:OAt K "Done" Cr)
 (o4:OAt K "GivenUp" Ab)
 (m4:CAt K Ab aK)
 (n12:NoS K Ab "number")
 (n13:NoS K Ab "sort_name")
 (n14:NoS K Ab "came")
 (n15:NoS K Ab "span")
 (n16:NoS K Ab "tries")
 (n17:NoS K Ab "spent")
 (e12:MeS K Ab "is_open" aW)
 (e13:MeS K Ab "row" bv)
 (e14:MeS K Ab "word" cR)
 (e15:MeS K Ab "work_left" bx)
 (o5:OAt K "Missed" Ac)
 (m5:CAt K Ac aK)
 (n18:NoS K Ac "number")
 (n19:NoS K Ac "sort_name")
 (n20:NoS K Ac "came")
 (n21:NoS K Ac "span")
 (n22:NoS K Ac "tries")
 (n23:NoS K Ac "spent")
 (e16:MeS K Ac "is_open" aW)
 (e17:MeS K Ac "row" bv)
 (e18:MeS K Ac "word" cU)
 (e19:MeS K Ac "work_left" bx)
 (o6:OAt K "Sort" Am)
 (m6:CAt K Am cV)
 (n24:NoS K Am "name")
 (n25:NoS K Am "weight")
 (n26:NoS K Am "speed")
 (n27:NoS K Am "span")
 (n28:NoS K Am "tries")
 (e20:MeS K Am "as_row" cW)
 (o7:OAt K "Sorts" Af)
 (m7:CAt K Af cX)
 (n29:NoS K Af "rows")
 (e21:MeS K Af "sort_of" cY)
 (e22:MeS K Af "with_speed" cZ)
 (o8:OAt K "Verdict" AC)
 (o9:OAt K "Granted" Ah)
 (m9:CAt K Ah da)
 (n30:NoS K Ah "number")
 (e23:MeS K Ah "granted" db)
 (o10:OAt K "LateOne" Ag)
 (m10:CAt K Ag df)
 (n31:NoS K Ag "number")
 (n32:NoS K Ag "due")
 (n33:NoS K Ag "turn")
 (n34:NoS K Ag "run")
 (e24:MeS K Ag "granted" dg)
 (o11:OAt K "House" Ad)
 (m11:CAt K Ad dh)
 (n35:NoS K Ad "sorts")
 (n36:NoS K Ad "hands")
 (n37:NoS K Ad "turn")
 (n38:NoS K Ad "pieces")
 (n39:NoS K Ad "numbers")
 (n40:NoS K Ad "rows")
 (e25:MeS K Ad "asked" di)
 (e26:MeS K Ad "asked_with" dj)
 (e27:MeS K Ad "change" dk)
 (e28:MeS K Ad "change_speed" dm)
 (e29:MeS K Ad "check_room" dy)
 (e30:MeS K Ad "chores_now" dz)
 (e31:MeS K Ad "claims_now" dA)
 (e32:MeS K Ad "come" dC)
 (e33:MeS K Ad "fewer" dD)
 (e34:MeS K Ad "held" dE)
 (e35:MeS K Ad "hold" dF)
 (e36:MeS K Ad "latest_turn" dG)
 (e37:MeS K Ad "now" dH)
 (e38:MeS K Ad "pass_turn" aG)
 (e39:MeS K Ad "piece_of" dJ)
 (e40:MeS K Ad "pieces_waiting" dL)
 (e41:MeS K Ad "places" dM)
 (e42:MeS K Ad "state" dO)
 (e43:MeS K Ad "tell" dP)
 (e44:MeS K Ad "told_now" dQ)
 (e45:MeS K Ad "waiting" dR)
 (e46:MeS K Ad "waiting_piece" dU)
 (e47:MeS K Ad "worst_run" dW)
 (AU:K.lookup aK=some ⟨Kz,KA,.func (W.fnOf "__init__" "Piece.__init__" (zat zaW) (zam zaW) (zac zaW) (.ref wX) KB KC KD KF wY KG),KH⟩) (AV:W.codeIn K wY "Piece.__init__" = true) (AW:W.keepIn K (.ref aK)=true) (Aq:W.isFn K (.ref aK)=true) (AX:K.lookup wX=some wZ) (AY:Obj.data wZ=.seq #[.int 0 KI] KJ)
 (h1:MAt K "failed" "Waiting.failed" zcg wS KL KM KN KO KP KQ KR KS KU)
 (h2:MAt K "is_open" "Waiting.is_open" bO wT KW KY KZ K0 K1 K2 K3 K4 K5)
 (h3:MAt K "resorted" "Waiting.resorted" zbN wU K6 K7 K8 K9 La Lb Lc Ld Le)
 (h4:MAt K "row" "Piece.row" zeG bv Lf Lg Lh Li Lj Lk Ll Lm Ln)
 (h5:MAt K "stepped" "Waiting.stepped" bP wV Lo Lp Lq Lr Ls Lu Lv Lw Lx)
 (h6:MAt K "word" "Waiting.word" bN wW Ly Lz LA LB LC LD LF LG LH)
 (h7:MAt K "work_left" "Piece.work_left" bL bx LI LJ LK LL LM LN LO LP LQ)
 (h8:MAt K "is_open" "Held.is_open" bM wQ LR LS LU LV LW LX LY LZ L4)
 (h9:MAt K "missed" "Held.missed" zds wR L5 L6 L7 L8 L9 Ma Mb Mc Me)
 (h10:MAt K "word" "Held.word" zeH cQ w8 xa xb xf xg xh xi xj xk)
 (h11:MAt K "is_open" "Piece.is_open" zcz aW xm xn xo xp xq xr xu xw xx)
 (h12:MAt K "word" "GivenUp.word" bQ cR xy xz xA xB xC xD xE xF xG)
 (h13:MAt K "word" "Missed.word" zdt cU xH xI xJ xK xL xM xN xO xP)
 (h14:MAt K "__init__" "Sort.__init__" zcA cV xQ xR xS xT xU xV xW xX xY)
 (h15:MAt K "as_row" "Sort.as_row" zdu cW xZ x8 x9 ya yb yc yd ye yf)
 (h16:MAt K "__init__" "Sorts.__init__" zch cX yg yh yi yj yk yl ym yo yp)
 (h17:MAt K "sort_of" "Sorts.sort_of" zcB cY yq yr yt yu yv yx yy yz yA)
 (h18:MAt K "with_speed" "Sorts.with_speed" zbO cZ yB yC yD yE yF yG yH yI yJ)
 (h19:MAt K "__init__" "Granted.__init__" zbP da yK yL yM yN yO yP yQ yR yS)
 (h20:MAt K "granted" "Granted.granted" bR db yT yU yV yW yX yY yZ y7 y8)
 (h21:MAt K "__init__" "LateOne.__init__" zbQ df y9 za zb zd ze zf zg zi zj)
 (h22:MAt K "granted" "LateOne.granted" bS dg zk zm zo zp zr zt zu zx zy)
 (h23:MAt K "__init__" "House.__init__" zci dh zA zB zC zD zE zG zH zI zJ)
 (h24:MAt K "asked" "House.asked" zdv di zK zL zM zN zO zP zQ zR zS)
 (h25:MAt K "asked_with" "House.asked_with" zbS dj zT zU zV zW zX zY zZ z0 z6)
 (h26:MAt K "change" "House.change" bX dk z7 z8 z9 Fe Ff Fg Fh Fi Fj)
 (h27:MAt K "change_speed" "House.change_speed" zbv dm Fk Fl Fm Fn Fo Fp Fq Fs Ft)
 (h28:MAt K "check_room" "House.check_room" zbR dy Fu Fv Fw Fx Fy Fz FA FB FC)
 (h29:MAt K "chores_now" "House.chores_now" zbU dz FD FE FF FG FH FI FJ FK FL)
 (h30:MAt K "claims_now" "House.claims_now" zbT dA FM FN FO FP FQ FR FS FT FU)
 (h31:MAt K "come" "House.come" bV dC FV FW FX FY FZ F0 F1 F2 F3)
 (h32:MAt K "fewer" "House.fewer" zdw dD F4 F5 F6 F7 F8 F9 Ga Gb Gc)
 (h33:MAt K "held" "House.held" bZ dE Gd Ge Gf Gg Gh Gi Gj Gk Gm)
 (h34:MAt K "hold" "House.hold" bW dF Gn Go Gp Gq Gr Gs Gu Gv Gw)
 (h35:MAt K "latest_turn" "House.latest_turn" zbD dG Gx Gy Gz GA GB GC GD GF GG)
 (h36:MAt K "now" "House.now" zeI dH GH GI GJ GK GL GM GN GO GP)
 (AJ:K.lookup aG=some ⟨GQ,GR,.func (W.fnOf "pass_turn" "House.pass_turn" (zat zaR) (zam zaR) (zac zaR) (.ref dX) GS GU GV GW dY GX),GY⟩) (AK:W.codeIn K dY "House.pass_turn" = true) (Az:W.keepIn K (.ref aG)=true) (AL:W.isFn K (.ref aG)=true) (AM:K.lookup dX=some dZ) (AN:Obj.data dZ=.seq #[.none,.int 0 GZ] G0)
 (h38:MAt K "piece_of" "House.piece_of" zcj dJ G1 G2 G3 G4 G5 G6 G7 G8 G9)
 (h39:MAt K "pieces_waiting" "House.pieces_waiting" zbk dL Ha Hb Hc He Hf Hg Hi Hj Hk)
 (h40:MAt K "places" "House.places" bU dM Hl Hm Hn Ho Hq Hr Hs Ht Hu)
 (h41:MAt K "state" "House.state" zdy dO Hw Hy Hz HH HI HJ HK HM HN)
 (h42:MAt K "tell" "House.tell" bY dP HP HQ HS HU HV HW HX HY HZ)
 (h43:MAt K "told_now" "House.told_now" zck dQ Ia Ib Ic Ie Ig Ih Ii Ij Ik)
 (h44:MAt K "waiting" "House.waiting" zcC dR Il Im Io Ip Iq Ir Iu Iv Iw)
 (h45:MAt K "waiting_piece" "House.waiting_piece" zbn dU Ix Iy Iz IA IB IC ID IE IF)
 (h46:MAt K "worst_run" "House.worst_run" b7 dW IG IH II IJ IK IL IM IN IP)
 (q0:KtC K Ab Ae false)
 (q1:KtC K Ab Aa false)
 (q2:KtC K Ae Ae true)
 (q3:KtC K Ae Aa false)
 (q4:KtC K Ac Ae false)
 (q5:KtC K Ac Aa false)
 (q6:KtC K Aa Ae false)
 (q7:KtC K Aa Aa true)
 (q8:KtT K "bool" "bool" true)
 (q9:KtT K "int" "bool" false)
 (q10:KtT K "int" "int" true)
 (q11:KtT K "int" "list" false)
 (q12:KtT K "int" "tuple" false)
 (q13:KtT K "list" "list" true)
 (q14:KtT K "str" "str" true)
 (q15:KtT K "tuple" "list" false)
 (q16:KtT K "tuple" "tuple" true)
 : ∃(fd fg:FuncData)(ag:Addr)(og:Obj),(∀(s:Shared)(v:Value),BindsTo s fd ⟨[v],[]⟩ [("_law_script",v)])/\mg "claims_in_order" = some (.ref ag)/\K.lookup ag=some og/\og.data=.func fg/\∀(tT:Addr)(bf:Heap),K.In bf->bf.Ns mainGlobals mg->Site K mg bf fg.code tT->FnOk l.prog w K mg bf CX0 19 fa fd ["_law_script"] (znM K tT):=by
 cases hfa.symm.trans (rh X G d51.a)
 have T:Txt K mg BC Ae Aa Cr Ab Ac Am Af AC Ah Ag Ad:=⟨sk X G EO.e,sk X G EQ.e,sk X G ER.e,sk X G Ez.e,sk X G EA.e,sk X G CJ.e,sk X G ES.e,sk X G Ce.e,sk X G ET.e,sk X G EB.e,sk X G EU.e,sk X G Ep.e,sk X G EV.e,sk X G D7.e,sk X G EW.e,sk X G Er.e,⟨_,rh X G AD.e⟩,⟨_,rh X G BE.e⟩,⟨_,rh X G AH.e⟩,⟨_,rh X G Bg.e⟩,⟨_,rh X G A0.e⟩,⟨_,rh X G Bh.e⟩,⟨_,rh X G A6.e⟩,⟨_,rh X G A7.e⟩,⟨_,rh X G AE.e⟩,⟨_,rh X G Bi.e⟩,⟨_,rh X G Ao.e⟩,o0.g X G,o0.ow gc,o1.g X G,o1.ow gc,n0.e,n1.e,n2.e,n3.e,n4.e,n5.e,o2.g X G,o2.ow gc,n6.e,n7.e,n8.e,n9.e,n10.e,n11.e,o3.g X G,o3.ow gc,o4.g X G,o4.ow gc,n12.e,n13.e,n14.e,n15.e,n16.e,n17.e,o5.g X G,o5.ow gc,n18.e,n19.e,n20.e,n21.e,n22.e,n23.e,o6.g X G,o6.ow gc,n24.e,n25.e,n26.e,n27.e,n28.e,o7.g X G,o7.ow gc,n29.e,o8.g X G,o8.ow gc,o9.g X G,o9.ow gc,n30.e,o10.g X G,o10.ow gc,n31.e,n32.e,n33.e,n34.e,o11.g X G,o11.ow gc,n35.e,n36.e,n37.e,n38.e,n39.e,n40.e,q0.e,q1.e,q2.e,q3.e,q4.e,q5.e,q6.e,q7.e,q8.e,q9.e,q10.e,q11.e,q12.e,q13.e,q14.e,q15.e,q16.e⟩
 have IQ:=d0.d3 X G "thing" "low" "high"
 have zjI:=d1.d3 X G "text" "first" "last"
 have zpq:=d2.d1 X G "thing"
 have IR:=d3.d2 X G "one" "other"
 have zqm:=d4.d2 X G "top" "bottom"
 have zlw:=d5.d1 X G "thing"
 have zkG:=d6.d2 X G "claims" "turn"
 have zia:=d7.d1 X G "claims"
 have zlx:=d8.d3 X G "claim" "turn" "common"
 have zgE:=d9.c2 X G "claims" "turn"
 have zfB:=d10.d2 X G "claims" "turn"
 have IS:=d11.d2 X G "claims" "turn"
 have IT:=d12.d3 X G "chores" "hands" "turn"
 have zib:=d13.d2 X G "chores" "numbers"
 have zly:=d14.d3 X G "chores" "hands" "turn"
 have ziw:=d15.d2 X G "chores" "real"
 have F16:=zrT (st:=zdo) l16 c16 k16 t16 u16
 have b16:=F16.binds (ps:=pl14) λ_ _ _ _ _ _ _ us hl=>by obtain⟨_,_,_,_,rfl⟩:=ul4 hl;exact⟨_,rfl,rfl⟩
 have bd16:=F16.bindsD (ps:=pl14) λ_ _ _ _ _ _ _ us hl=>by obtain⟨_,_,_,rfl⟩:=ul3 (show us.length=3 by rw[tQ]at hl;exact Nat.succ.inj hl);exact⟨_,rfl,rfl⟩
 have zqn:DfnD K mg "run_of" zdo pl14 _ _:=⟨F16,b16,bd16,rh X G a16⟩
 have zjJ:=d17.d2 X G "chores" "number"
 have zjK:=d18.d2 X G "chores" "number"
 have zkH:=d19.d1 X G "rows"
 have zkI:=d20.d3 X G "chores" "hands" "begin"
 have zlz:=d21.d4 X G "chores" "hands" "begin" "number"
 have IU:=d22.d4 X G "chores" "hands" "begin" "told"
 have IV:=d23.d2 X G "piece" "sorts"
 have IW:=d24.d2 X G "piece" "sorts"
 have zqo:=d25.d1 X G "thing"
 have IY:=d26.d1 X G "thing"
 have zlA:=d27.d1 X G "weight"
 have zlB:=d28.d1 X G "row"
 have zna:=d29.d1 X G "rows"
 have zlC:=d30.d2 X G "pieces" "sorts"
 have zkJ:=d31.d2 X G "pieces" "changed"
 have zkK:=d32.d2 X G "ends" "numbers"
 have zix:=d33.d4 X G "piece" "turn" "numbers" "ends"
 have znb:=d34.d2 X G "_law_script" "_law_k"
 have zpr:=d35.d2 X G "_law_cell_here" "_law_k"
 have znc:=d36.d3 X G "_law_cell_here" "_law_k" "_law_many"
 have zkL:=d37.d2 X G "_law_cell_here" "_law_k"
 have znd:=d38.d2 X G "_law_claim" "_law_turn_here"
 have zlD:=d39.d2 X G "_law_claims" "_law_turn_here"
 have zne:=d40.d3 X G "_law_rows" "_law_hands" "_law_turn_here"
 have znf:=d41.d1 X G "_law_rows"
 have zps:=d42.d1 X G "_law_one"
 have zlE:=d43.d1 X G "_law_cell_here"
 have zkM:=d44.d4 X G "_law_chores" "_law_hands" "_law_begin" "_law_rows"
 have zng:=d45.d5 X G "_law_chores" "_law_hands" "_law_begin" "_law_rows" "_law_told"
 have zjL:=d46.d5 X G "_law_verdict" "_law_chores" "_law_hands" "_law_begin" "_law_told"
 have ziy:=d47.d3 X G "_law_house" "_law_state" "_law_cell_here"
 have zkN:=d48.d4 X G "_law_chore" "_law_k" "_law_weight_here" "_law_speed"
 have ziz:=d49.d3 X G "_law_house" "_law_state" "_law_cell_here"
 have zic:=d50.d1 X G "_law_house"
 have zuy:=d51.d1 X G "_law_script"
 refine⟨W.fnOf "law" "law" (zat zmT) (zam zmT) (zac zmT) .none cJ cK cM cN cO cP,W.fnOf "claims_in_order" "claims_in_order" (zat zaE) (zam zaE) (zac zaE) .none fc fe fh fi fj fk,fX,⟨fY,fZ,.func (W.fnOf "claims_in_order" "claims_in_order" (zat zaE) (zam zaE) (zac zaE) .none fc fe fh fi fj fk),f7⟩,λs v=>.of_eq rfl,rh X G d9.a,d9.l,rfl,λtT bf _ _ SI=>?_⟩
 have AZ:=zrU (st:=zaW) AU AV AW AX AY
 have Da:=AZ.binds (ps:=pl1) λ_ _ _ _ _ _ _ us hl=>by obtain⟨_,_,_,_,_,_,_,rfl⟩:=ul7 hl;exact⟨_,rfl,rfl⟩
 have Db:=AZ.bindsD (ps:=pl1) λ_ _ _ _ _ _ _ us hl=>by obtain⟨_,_,_,_,_,_,rfl⟩:=ul6 (show us.length=6 by rw[tQ]at hl;exact Nat.succ.inj hl);exact⟨_,rfl,rfl⟩
 have Aw:MfnE K "__init__" "Piece.__init__" zaW pl1 _ _ _:=⟨AZ,Da,Db⟩
 have BI:=h1.m1 "self"
 have Bv:=h2.m1 "self"
 have Bm:=h3.m2 "self" "name"
 have A9:=h4.m1 "self"
 have Bw:=h5.m1 "self"
 have Cf:=h6.m1 "self"
 have Au:=h7.m1 "self"
 have Cg:=h8.m1 "self"
 have CA:=h9.m1 "self"
 have Dn:=h10.m1 "self"
 have Bc:=h11.m1 "self"
 have Ci:=h12.m1 "self"
 have CB:=h13.m1 "self"
 have BW:=h14.m6 "self" "name" "weight" "speed" "span" "tries"
 have CC:=h15.m1 "self"
 have BJ:=h16.m2 "self" "rows"
 have BX:=h17.m2 "self" "name"
 have Bn:=h18.m3 "self" "name" "speed"
 have Bo:=h19.m2 "self" "number"
 have Bx:=h20.m1 "self"
 have Bp:=h21.m5 "self" "number" "due" "turn" "run"
 have By:=h22.m1 "self"
 have BK:=h23.m3 "self" "sorts" "hands"
 have CD:=h24.m5 "self" "pieces" "sorts" "hands" "number"
 have Bq:=h25.m2 "self" "piece"
 have Cj:=h26.m3 "self" "number" "sort"
 have Ba:=h27.m3 "self" "sort" "speed"
 have Br:=h28.m1 "self"
 have Bs:=h29.m1 "self"
 have Bt:=h30.m1 "self"
 have CS:=h31.m2 "self" "sort"
 have CF:=h32.m2 "self" "hands"
 have CT:=h33.m1 "self"
 have CU:=h34.m3 "self" "sort" "turn"
 have Bd:=h35.m2 "self" "number"
 have Do:=h36.m1 "self"
 have AO:=zqa (st:=zaR) AJ AK Az AM AN
 have Bz:=AO.binds (ps:=pl27) [_] λ_ _ _ _ _ _ _ us hl=>by obtain⟨_,_,rfl⟩:=ul2 (show us.length=2 by rw[tQ]at hl;exact Nat.add_right_cancel (m:=1) hl);exact⟨_,rfl,rfl⟩
 have BA:=AO.binds (ps:=pl27) [_,_] λ_ _ _ _ _ _ _ us hl=>by obtain⟨_,rfl⟩:=ul1 (show us.length=1 by rw[tQ]at hl;exact Nat.add_right_cancel (m:=2) hl);exact⟨_,rfl,rfl⟩
 have CV:MfnE2 K "pass_turn" "House.pass_turn" zaR pl27 _ _ _ _:=⟨AO,Bz,BA⟩
 have BL:=h38.m2 "self" "number"
 have AQ:=h39.m1 "self"
 have Ck:=h40.m1 "self"
 have CG:=h41.m2 "self" "number"
 have CW:=h42.m2 "self" "number"
 have BM:=h43.m1 "self"
 have BY:=h44.m1 "self"
 have AR:=h45.m2 "self" "number"
 have BB:=h46.m1 "self"
 have zek:=zlo (P:=l.prog) (w:=w) (bf:=bf) T znb
 have zbc:=fP (P:=l.prog) (w:=w) (bf:=bf) T zpr
 have zar:=zlq T znc zbc
 have zby:=fQ (P:=l.prog) (w:=w) (bf:=bf) T zps
 have aE:=zjC T zkL zbc zar
 have cC:=zkF T zlE zbc zar aE
 have zct:=zlt (P:=l.prog) (w:=w) (bf:=bf) T znf
 have zgA:=zlr (P:=l.prog) (w:=w) (bf:=bf) T znd
 have cr:=zkD T zlD zgA
 have zgB:=zls T zne cr
 have zbI:=zjE T zkM zgB
 have zgD:=zlu T zng zct zbI
 have zdJ:=ziv T zjL zct zbI
 have zcR:=zjF (P:=l.prog) (w:=w) (bf:=bf) T zkN
 have zeb:=zjw (P:=l.prog) (w:=w) (bf:=bf) T zkJ
 have zbb:=zgY (P:=l.prog) (w:=w) (bf:=bf) T zib
 have aH:=zgj (P:=l.prog) (w:=w) (bf:=bf) T IR
 have zcD:=zgX T zia aH
 have zeM:=zkt (P:=l.prog) (w:=w) (bf:=bf) T zlx
 have b9:=zfn (tT:=tT) T zgE SI zcD zeM
 have zaV:=zeO T zfB b9
 have zcl:=zgn T IT zaV
 have zeP:=zku T zly zcl zbb
 have cf:=zhX (P:=l.prog) (w:=w) (bf:=bf) T ziw
 have zcp:=zoM T zqn zbb zeP cf
 have zbH:=zjp (P:=l.prog) (w:=w) (bf:=bf) T zkH
 have zgx:=zlj T IU zcp zbH
 have zjk:=zoE T zqm aH
 have zdA:=zkp T zlA zjk
 have DH:=zgV T BW zdA
 have Ev:MakG CX0 l.prog w K mg bf "Sort" Am 4 (zoB Am):=⟨_,_,_,_,m6.mk_ h14.i,FnOk.mono DH (by decide),BW.b,o6.g X G,ztt T.Dm.cl (no5 T.AS T.Be T.B8 T.Bl T.A8)⟩
 have aI:=zkr T zlB Ev
 have DI:=zgW T BX aI
 have As:=mok e21 h17 T.Dy BX DI
 have zcr:=zle T IV As
 have De:=zfj (P:=l.prog) (w:=w) (bf:=bf) T Bv
 have DO:=zhN (P:=l.prog) (w:=w) (bf:=bf) T Cg
 have Cm:=zgT (P:=l.prog) (w:=w) (bf:=bf) T Bc
 have BG:∀d,MOk CX0 l.prog w K mg bf 1 (CsA.cl (CsA.mk Ae Aa Ab Ac) d) "is_open" (zkf (CsA.mk Ae Aa Ab Ac) d):=λd=>match d with
  | .waiting=>⟨T.AI.cl,_,_,_,⟨e6.e,h2.i,h2.k⟩,FnOk.mono De (by decide),Bv.b⟩
  | .held=>⟨T.Dv.cl,_,_,_,⟨e0.e,h8.i,h8.k⟩,FnOk.mono DO (by decide),Cg.b⟩
  | .givenUp=>⟨T.BF.cl,_,_,_,⟨e12.e,h11.i,h11.k⟩,FnOk.mono (FnOk.imp Cm (λvs H Q E h=>let ⟨a,p,e,hp,q⟩:=h;⟨a,e,q⟩)) (by decide),Bc.b⟩
  | .missed=>⟨T.Co.cl,_,_,_,⟨e16.e,h11.i,h11.k⟩,FnOk.mono (FnOk.imp Cm (λvs H Q E h=>let ⟨a,p,e,hp,q⟩:=h;⟨a,e,q⟩)) (by decide),Bc.b⟩
 have AB:=zfl T Au BG
 have CH:∀d,MOk CX0 l.prog w K mg bf 2 (CsA.cl (CsA.mk Ae Aa Ab Ac) d) "work_left" (zoy (CsA.mk Ae Aa Ab Ac)):=λd=>match d with
  | .waiting=>⟨T.AI.cl,_,_,_,⟨e11.e,h7.i,h7.k⟩,FnOk.mono AB (by decide),Au.b⟩
  | .held=>⟨T.Dv.cl,_,_,_,⟨e4.e,h7.i,h7.k⟩,FnOk.mono AB (by decide),Au.b⟩
  | .givenUp=>⟨T.BF.cl,_,_,_,⟨e15.e,h7.i,h7.k⟩,FnOk.mono AB (by decide),Au.b⟩
  | .missed=>⟨T.Co.cl,_,_,_,⟨e19.e,h7.i,h7.k⟩,FnOk.mono AB (by decide),Au.b⟩
 have zgp:=zlg T IW zcr CH
 have zca:=zkz T zlC zgp BG
 have CY:=zeR (P:=l.prog) (w:=w) (bf:=bf) T Bo
 have DC:MakG CX0 l.prog w K mg bf "Granted" Ah 1 (zoQ Ah):=⟨_,_,_,_,m9.mk_ h19.i,FnOk.mono CY (by decide),Bo.b,o9.g X G,ztz T.Dz.cl T.BU⟩
 have zcs:=zll (P:=l.prog) (w:=w) (bf:=bf) T zna
 have CZ:=zeT T Bp zcs
 have DE:MakG CX0 l.prog w K mg bf "LateOne" Ag 2 (zoR Ag):=⟨_,_,_,_,m10.mk_ h21.i,FnOk.mono CZ (by decide),Bp.b,o10.g X G,ztA T.DA.cl (noL T.BV T.CP T.Cz T.BN)⟩
 have BZ:=zdE (P:=l.prog) (w:=w) (bf:=bf) T AQ
 have At:=mok e40 h39 T.Ai AQ BZ
 have Dq:=zgw T BM At
 have AT:=mok e44 h43 T.Ai BM Dq
 have D8:=ziq T CD zgx zca DC DE AT
 have Bb:=mok e25 h24 T.Ai CD D8
 have AF:=zgh (P:=l.prog) (w:=w) (bf:=bf) T Aw
 have Ax:Mak l.prog w K mg bf "Waiting" Aa 1 pl0 (.int 0):=MfnE.mak Aw AF T.AI.cl (no6 T.BS T.Bj T.Cs T.Ct T.B0 T.B1) (m2.mk_ Aq) (o2.g X G) ⟨_,rfl⟩
 have C0:=zeK T Bm Ax
 have C9:=mok e7 h3 T.AI Bm C0
 have zao:=zla (P:=l.prog) (w:=w) (bf:=bf) T IQ
 have Dr:=zgu T BL zao
 have Bf:=mok e39 h38 T.Ai BL Dr
 have Cn:=zdP T AR Bf
 have Av:=mok e46 h45 T.Ai AR Cn
 have DP:=fN T Cj zeb Bb C9 As Av
 have DZ:=mok e27 h26 T.Ai Cj DP
 have zbE:=zkn T zlw zao
 have zdz:=zii (P:=l.prog) (w:=w) (bf:=bf) T zjI
 have zhT:=zmX T zpq zdz
 have zjj:=zoG T zqo zao zhT zbE
 have zgm:=zlc T IY zjj
 have Ea:=zik (P:=l.prog) (w:=w) (bf:=bf) T CC
 have DX:=mok e20 h15 T.Dm CC Ea
 have Ds:=zgl T BJ zgm aI DX
 have C8:MakG CX0 l.prog w K mg bf "Sorts" Af 7 (zme Af):=⟨_,_,_,_,m7.mk_ h16.i,FnOk.mono Ds (by decide),BJ.b,o7.g X G,ztu T.Dy.cl T.B9⟩
 have C1:=zeL T Bn zbE C8 As
 have Cd:=mok e22 h18 T.Dy Bn C1
 have Cq:=zed T Ba Bb Cd
 have BD:=mok e28 h27 T.Ai Ba Cq
 have C2:=zeV T Bs zca
 have Ak:=mok e30 h29 T.Ai Bs C2
 have C3:=fJ T Br Ak
 have Cc:=mok e29 h28 T.Ai Br C3
 have C4:=fM T Bq Bb Cc
 have AG:=mok e26 h25 T.Ai Bq C4
 have Df:=zfq (P:=l.prog) (w:=w) (bf:=bf) T Bx
 have Dg:=zfs (P:=l.prog) (w:=w) (bf:=bf) T By
 have Ay:=And.intro (mok e23 h20 T.Dz Bx Df) (mok e24 h22 T.DA By Dg)
 have DQ:=fG (P:=l.prog) (w:=w) (bf:=bf) T Ck
 have Cp:=mok e41 h40 T.Ai Ck DQ
 have zdB:=zim T zjJ zao
 have zdC:=zio T zjK zdB
 have zea:=zjr T zkI zcp zbH
 have zeY:=zkw T zlz zdC zea
 have CK:=zen T Bd zeY Ak
 have BO:=mok e36 h35 T.Ai Bd CK
 have Eh:=zjx T CW BO Av
 have Ew:=mok e43 h42 T.Ai CW Eh
 have Ei:=zjz T CS Ax AG Ay Cp As Ew
 have DU:=mok e32 h31 T.Ai CS Ei
 have Eb:=zis T CF zao Bb
 have Em:=mok e33 h32 T.Ai CF Eb
 have Ex:Mak l.prog w K mg bf "Held" Ae 1 pl0 (.int 0):=MfnE.mak Aw AF T.Dv.cl (no6 T.CL T.BR T.Dw T.Dx T.Dk T.Dl) (m1.mk_ Aq) (o1.g X G) ⟨_,rfl⟩
 have Ej:=zjA T CU zao Ex AG As
 have Ey:=mok e35 h34 T.Ai CU Ej
 have Es:=zkC (P:=l.prog) (w:=w) (bf:=bf) T Do
 have DN:=mok e37 h36 T.Ai Do Es
 have DS:=zhP (P:=l.prog) (w:=w) (bf:=bf) T Cf
 have Et:=zkh (P:=l.prog) (w:=w) (bf:=bf) T Dn
 have DT:=zhR (P:=l.prog) (w:=w) (bf:=bf) T Ci
 have Ec:=zie (P:=l.prog) (w:=w) (bf:=bf) T CB
 have Eu:∀d,MOk CX0 l.prog w K mg bf 1 (CsA.cl (CsA.mk Ae Aa Ab Ac) d) "word" (ziW (CsA.mk Ae Aa Ab Ac) d):=λd=>match d with
  | .waiting=>⟨T.AI.cl,_,_,_,⟨e10.e,h6.i,h6.k⟩,FnOk.mono DS (by decide),Cf.b⟩
  | .held=>⟨T.Dv.cl,_,_,_,⟨e3.e,h10.i,h10.k⟩,FnOk.mono Et (by decide),Dn.b⟩
  | .givenUp=>⟨T.BF.cl,_,_,_,⟨e14.e,h12.i,h12.k⟩,FnOk.mono DT (by decide),Ci.b⟩
  | .missed=>⟨T.Co.cl,_,_,_,⟨e18.e,h13.i,h13.k⟩,FnOk.mono Ec (by decide),CB.b⟩
 have BQ:=zkj T A9 Eu
 have EN:∀d,MOk CX0 l.prog w K mg bf 2 (CsA.cl (CsA.mk Ae Aa Ab Ac) d) "row" (zsa (CsA.mk Ae Aa Ab Ac)):=λd=>match d with
  | .waiting=>⟨T.AI.cl,_,_,_,⟨e8.e,h4.i,h4.k⟩,FnOk.mono BQ (by decide),A9.b⟩
  | .held=>⟨T.Dv.cl,_,_,_,⟨e2.e,h4.i,h4.k⟩,FnOk.mono BQ (by decide),A9.b⟩
  | .givenUp=>⟨T.BF.cl,_,_,_,⟨e13.e,h4.i,h4.k⟩,FnOk.mono BQ (by decide),A9.b⟩
  | .missed=>⟨T.Co.cl,_,_,_,⟨e17.e,h4.i,h4.k⟩,FnOk.mono BQ (by decide),A9.b⟩
 have Ed:=zit T CG Bf EN
 have En:=mok e42 h41 T.Ai CG Ed
 have ci:=zjn T zkG zao
 have zgs:=zli T IS ci zaV
 have C5:=zeX T Bt zcr At
 have Cb:=mok e31 h30 T.Ai Bt C5
 have DJ:=fH T BY zgs Cb
 have BH:=mok e45 h44 T.Ai BY DJ
 have cy:=fU T ziy zar aE zby zcR DZ BD Ak DU Em Ey DN En BH
 have Ek:=zjt T CT Cp
 have DG:=mok e34 h33 T.Ai CT Ek
 have Dh:=zfw T BB zcp Ak
 have CI:=mok e47 h46 T.Ai BB Dh
 have cD:=fV T ziz zar aE zby zgD zdJ cy Ak Ay DG DN AT CI
 have zcI:=fT T zic DG DN
 have Dt:=zgr T BK zao C8
 have Eo:MakG CX0 l.prog w K mg bf "House" Ad 9 (zoT (CsA.mk Ae Aa Ab Ac) Af Ad):=⟨_,_,_,_,m11.mk_ h23.i,FnOk.mono Dt (by decide),BK.b,o11.g X G,ztB T.Ai.cl (noH T.An T.Ap T.Al T.Aj T.AA T.Ca)⟩
 have zef:=zjB T zkK zao
 have DB:Mak l.prog w K mg bf "GivenUp" Ab 1 pl0 (.int 0):=MfnE.mak Aw AF T.BF.cl (no6 T.BT T.Bk T.Cu T.Cv T.B3 T.B4) (m4.mk_ Aq) (o4.g X G) ⟨_,rfl⟩
 have Du:=zgi T BI Ax DB
 have CQ:=mok e5 h1 T.AI BI Du
 have DW:Mak l.prog w K mg bf "Missed" Ac 1 pl0 (.int 0):=MfnE.mak Aw AF T.Co.cl (no6 T.B5 T.Bu T.CM T.CO T.Cw T.Cy) (m5.mk_ Aq) (o5.g X G) ⟨_,rfl⟩
 have Ee:=zig T CA DW
 have DY:=mok e1 h9 T.Dv CA Ee
 have Di:=zfm T Bw Ax CQ
 have DF:=mok e9 h5 T.AI Bw Di
 have cq:=fO T zix CQ DY DF
 have Dj:=zfy T CV zao zcs zef cq BH
 have BP:MOk2 CX0 l.prog w K mg bf 11 Ad "pass_turn" .non (.int 0) (zpe K (CsA.mk Ae Aa Ab Ac) Af Ad tT):=⟨T.Ai.cl,_,_,_,_,_,⟨e38.e,AL,Az⟩,FnOk.mono Dj (by decide),Bz,BA,rfl,⟨_,rfl⟩⟩
 exact ztO T zuy zek zar zby cC cD zcI Eo DU Ay BP
def walk{l:W.OpenLaw}{q:Program}{loose:List Str}{XP:(Str->Option Value)->Heap->Prop}{YP:World->Heap->Prop}{d:DefRec}{K:Params->W.Frag}(hn:l.most=some 63)(hdf:d.params.defaults=[])
    (hY:∀(w:World)(h:Heap),YP w h->(K w.params).In h) (hK:∀p,zhx (K p)=true) (hrec:∃dr,(PyProof.Rows.recsOf q).find? (λe=>e.name==("claims_in_order" : Str))=some dr)
    (F:∀(w:World)(mg:af)(fa:Addr)(h:Heap),(K w.params).In h->h.Ns mainGlobals mg->mg d.name=some (.ref fa)->
      ∃(fd fg:FuncData)(ag:Addr)(og:Obj),(∀(s:Shared)(u:Value),BindsTo s fd ⟨[u],[]⟩ [("_law_script",u)])/\mg "claims_in_order" = some (.ref ag)/\(K w.params).lookup ag=some og/\og.data=.func fg/\
       ∀(tT:Addr)(bf:Heap),(K w.params).In bf->bf.Ns mainGlobals mg->Site (K w.params) mg bf fg.code tT->FnOk l.prog w (K w.params) mg bf CX0 19 fa fd ["_law_script"] (znM (K w.params) tT)):
    W.WalkO q loose XP YP l.row.toRowW d [] (λf vs=>PySem.call f vs):=
 L2.walk_ofT (n:=63) (k:=19) (x := "_law_script") (g := "claims_in_order") (lp:=zbh) (q:=lamQ) (sp:=λK tT=>znM K tT) hn (by decide) hdf ⟨rfl,by decide,by decide,rfl⟩ hY hK hrec F (λ_ _ _ a ns hl hT hS=>⟨a,ns,rfl,hS,hl,hT,λ_=>rfl⟩)
end K96
open PySem PySem.W PyProof.Rows
set_option maxRecDepth 100000 in
set_option maxHeartbeats 0 in
theorem PySem.Challenge.cw_greywait_k96_whole_asked_and_granted_holds : PySem.Challenge.rw_greywait_k96_whole_asked_and_granted.Holds := by
 refine K96hd ?_
 k_fill
 refine K96.walk (l:=PySem.Challenge.rw_greywait_k96_whole_asked_and_granted) rfl rfl (λw h Y=>PySem.W.km_in_of Y) (λ_=>by kernel_rfl) ⟨_,rfl⟩ ?F
 case F=>
  intro w mg fa h KX G hmg
  refine' K96.all_mk (l:=PySem.Challenge.rw_greywait_k96_whole_asked_and_granted) (w:=w) KX G hmg ⟨?a0,?l0,?c0,?k0⟩ ⟨?a1,?l1,?c1,?k1⟩ ⟨?a2,?l2,?c2,?k2⟩ ⟨?a3,?l3,?c3,?k3⟩ ⟨?a4,?l4,?c4,?k4⟩ ⟨?a5,?l5,?c5,?k5⟩ ⟨?a6,?l6,?c6,?k6⟩ ⟨?a7,?l7,?c7,?k7⟩ ⟨?a8,?l8,?c8,?k8⟩ ⟨?a9,?l9,?c9,?k9⟩ ⟨?a10,?l10,?c10,?k10⟩ ⟨?a11,?l11,?c11,?k11⟩ ⟨?a12,?l12,?c12,?k12⟩ ⟨?a13,?l13,?c13,?k13⟩ ⟨?a14,?l14,?c14,?k14⟩ ⟨?a15,?l15,?c15,?k15⟩ ?a16 ?l16 ?c16 ?k16 ?t16 ?u16 ⟨?a17,?l17,?c17,?k17⟩ ⟨?a18,?l18,?c18,?k18⟩ ⟨?a19,?l19,?c19,?k19⟩ ⟨?a20,?l20,?c20,?k20⟩ ⟨?a21,?l21,?c21,?k21⟩ ⟨?a22,?l22,?c22,?k22⟩ ⟨?a23,?l23,?c23,?k23⟩ ⟨?a24,?l24,?c24,?k24⟩ ⟨?a25,?l25,?c25,?k25⟩ ⟨?a26,?l26,?c26,?k26⟩ ⟨?a27,?l27,?c27,?k27⟩ ⟨?a28,?l28,?c28,?k28⟩ ⟨?a29,?l29,?c29,?k29⟩ ⟨?a30,?l30,?c30,?k30⟩ ⟨?a31,?l31,?c31,?k31⟩ ⟨?a32,?l32,?c32,?k32⟩ ⟨?a33,?l33,?c33,?k33⟩ ⟨?a34,?l34,?c34,?k34⟩ ⟨?a35,?l35,?c35,?k35⟩ ⟨?a36,?l36,?c36,?k36⟩ ⟨?a37,?l37,?c37,?k37⟩ ⟨?a38,?l38,?c38,?k38⟩ ⟨?a39,?l39,?c39,?k39⟩ ⟨?a40,?l40,?c40,?k40⟩ ⟨?a41,?l41,?c41,?k41⟩ ⟨?a42,?l42,?c42,?k42⟩ ⟨?a43,?l43,?c43,?k43⟩ ⟨?a44,?l44,?c44,?k44⟩ ⟨?a45,?l45,?c45,?k45⟩ ⟨?a46,?l46,?c46,?k46⟩ ⟨?a47,?l47,?c47,?k47⟩ ⟨?a48,?l48,?c48,?k48⟩ ⟨?a49,?l49,?c49,?k49⟩ ⟨?a50,?l50,?c50,?k50⟩ ⟨?a51,?l51,?c51,?k51⟩ ⟨?EO⟩ ⟨?EQ⟩ ⟨?ER⟩ ⟨?Ez⟩ ⟨?EA⟩ ⟨?CJ⟩ ⟨?ES⟩ ⟨?Ce⟩ ⟨?ET⟩ ⟨?EB⟩ ⟨?EU⟩ ⟨?Ep⟩ ⟨?EV⟩ ⟨?D7⟩ ⟨?EW⟩ ⟨?Er⟩ ⟨?AD⟩ ⟨?BE⟩ ⟨?AH⟩ ⟨?Bg⟩ ⟨?A0⟩ ⟨?Bh⟩ ⟨?A6⟩ ⟨?A7⟩ ⟨?AE⟩ ⟨?Bi⟩ ⟨?Ao⟩ ⟨?xcg,?xct⟩ ⟨?oa0,?ob0,?oc0,?od0,?oe0,?of0,?og0⟩ ⟨?oa1,?ob1,?oc1,?od1,?oe1,?of1,?og1⟩ ⟨?oh1,?oi1,?oj1⟩ ⟨?n0⟩ ⟨?n1⟩ ⟨?n2⟩ ⟨?n3⟩ ⟨?n4⟩ ⟨?n5⟩ ⟨?e0⟩ ⟨?e1⟩ ⟨?e2⟩ ⟨?e3⟩ ⟨?e4⟩ ⟨?oa2,?ob2,?oc2,?od2,?oe2,?of2,?og2⟩ ⟨?oh2,?oi2,?oj2⟩ ⟨?n6⟩ ⟨?n7⟩ ⟨?n8⟩ ⟨?n9⟩ ⟨?n10⟩ ⟨?n11⟩ ⟨?e5⟩ ⟨?e6⟩ ⟨?e7⟩ ⟨?e8⟩ ⟨?e9⟩ ⟨?e10⟩ ⟨?e11⟩ ⟨?oa3,?ob3,?oc3,?od3,?oe3,?of3,?og3⟩ ⟨?oa4,?ob4,?oc4,?od4,?oe4,?of4,?og4⟩ ⟨?oh4,?oi4,?oj4⟩ ⟨?n12⟩ ⟨?n13⟩ ⟨?n14⟩ ⟨?n15⟩ ⟨?n16⟩ ⟨?n17⟩ ⟨?e12⟩ ⟨?e13⟩ ⟨?e14⟩ ⟨?e15⟩ ⟨?oa5,?ob5,?oc5,?od5,?oe5,?of5,?og5⟩ ⟨?oh5,?oi5,?oj5⟩ ⟨?n18⟩ ⟨?n19⟩ ⟨?n20⟩ ⟨?n21⟩ ⟨?n22⟩ ⟨?n23⟩ ⟨?e16⟩ ⟨?e17⟩ ⟨?e18⟩ ⟨?e19⟩ ⟨?oa6,?ob6,?oc6,?od6,?oe6,?of6,?og6⟩ ⟨?oh6,?oi6,?oj6⟩ ⟨?n24⟩ ⟨?n25⟩ ⟨?n26⟩ ⟨?n27⟩ ⟨?n28⟩ ⟨?e20⟩ ⟨?oa7,?ob7,?oc7,?od7,?oe7,?of7,?og7⟩ ⟨?oh7,?oi7,?oj7⟩ ⟨?n29⟩ ⟨?e21⟩ ⟨?e22⟩ ⟨?oa8,?ob8,?oc8,?od8,?oe8,?of8,?og8⟩ ⟨?oa9,?ob9,?oc9,?od9,?oe9,?of9,?og9⟩ ⟨?oh9,?oi9,?oj9⟩ ⟨?n30⟩ ⟨?e23⟩ ⟨?oa10,?ob10,?oc10,?od10,?oe10,?of10,?og10⟩ ⟨?oh10,?oi10,?oj10⟩ ⟨?n31⟩ ⟨?n32⟩ ⟨?n33⟩ ⟨?n34⟩ ⟨?e24⟩ ⟨?oa11,?ob11,?oc11,?od11,?oe11,?of11,?og11⟩ ⟨?oh11,?oi11,?oj11⟩ ⟨?n35⟩ ⟨?n36⟩ ⟨?n37⟩ ⟨?n38⟩ ⟨?n39⟩ ⟨?n40⟩ ⟨?e25⟩ ⟨?e26⟩ ⟨?e27⟩ ⟨?e28⟩ ⟨?e29⟩ ⟨?e30⟩ ⟨?e31⟩ ⟨?e32⟩ ⟨?e33⟩ ⟨?e34⟩ ⟨?e35⟩ ⟨?e36⟩ ⟨?e37⟩ ⟨?e38⟩ ⟨?e39⟩ ⟨?e40⟩ ⟨?e41⟩ ⟨?e42⟩ ⟨?e43⟩ ⟨?e44⟩ ⟨?e45⟩ ⟨?e46⟩ ⟨?e47⟩ ?AU ?AV ?AW ?Aq ?AX ?AY ⟨?ha1,?hb1,?hc1,?hd1⟩ ⟨?ha2,?hb2,?hc2,?hd2⟩ ⟨?ha3,?hb3,?hc3,?hd3⟩ ⟨?ha4,?hb4,?hc4,?hd4⟩ ⟨?ha5,?hb5,?hc5,?hd5⟩ ⟨?ha6,?hb6,?hc6,?hd6⟩ ⟨?ha7,?hb7,?hc7,?hd7⟩ ⟨?ha8,?hb8,?hc8,?hd8⟩ ⟨?ha9,?hb9,?hc9,?hd9⟩ ⟨?ha10,?hb10,?hc10,?hd10⟩ ⟨?ha11,?hb11,?hc11,?hd11⟩ ⟨?ha12,?hb12,?hc12,?hd12⟩ ⟨?ha13,?hb13,?hc13,?hd13⟩ ⟨?ha14,?hb14,?hc14,?hd14⟩ ⟨?ha15,?hb15,?hc15,?hd15⟩ ⟨?ha16,?hb16,?hc16,?hd16⟩ ⟨?ha17,?hb17,?hc17,?hd17⟩ ⟨?ha18,?hb18,?hc18,?hd18⟩ ⟨?ha19,?hb19,?hc19,?hd19⟩ ⟨?ha20,?hb20,?hc20,?hd20⟩ ⟨?ha21,?hb21,?hc21,?hd21⟩ ⟨?ha22,?hb22,?hc22,?hd22⟩ ⟨?ha23,?hb23,?hc23,?hd23⟩ ⟨?ha24,?hb24,?hc24,?hd24⟩ ⟨?ha25,?hb25,?hc25,?hd25⟩ ⟨?ha26,?hb26,?hc26,?hd26⟩ ⟨?ha27,?hb27,?hc27,?hd27⟩ ⟨?ha28,?hb28,?hc28,?hd28⟩ ⟨?ha29,?hb29,?hc29,?hd29⟩ ⟨?ha30,?hb30,?hc30,?hd30⟩ ⟨?ha31,?hb31,?hc31,?hd31⟩ ⟨?ha32,?hb32,?hc32,?hd32⟩ ⟨?ha33,?hb33,?hc33,?hd33⟩ ⟨?ha34,?hb34,?hc34,?hd34⟩ ⟨?ha35,?hb35,?hc35,?hd35⟩ ⟨?ha36,?hb36,?hc36,?hd36⟩ ?AJ ?AK ?Az ?AL ?AM ?AN ⟨?ha38,?hb38,?hc38,?hd38⟩ ⟨?ha39,?hb39,?hc39,?hd39⟩ ⟨?ha40,?hb40,?hc40,?hd40⟩ ⟨?ha41,?hb41,?hc41,?hd41⟩ ⟨?ha42,?hb42,?hc42,?hd42⟩ ⟨?ha43,?hb43,?hc43,?hd43⟩ ⟨?ha44,?hb44,?hc44,?hd44⟩ ⟨?ha45,?hb45,?hc45,?hd45⟩ ⟨?ha46,?hb46,?hc46,?hd46⟩ ⟨?q0⟩ ⟨?q1⟩ ⟨?q2⟩ ⟨?q3⟩ ⟨?q4⟩ ⟨?q5⟩ ⟨?q6⟩ ⟨?q7⟩ ⟨?q8⟩ ⟨?q9⟩ ⟨?q10⟩ ⟨?q11⟩ ⟨?q12⟩ ⟨?q13⟩ ⟨?q14⟩ ⟨?q15⟩ ⟨?q16⟩
  (case a0|l0|c0|k0|a1|l1|c1|k1|a2|l2|c2|k2|a3|l3|c3|k3|a4|l4|c4|k4|a5|l5|c5|k5|a6|l6|c6|k6|a7|l7|c7|k7|a8|l8|c8|k8|a9|l9|c9|k9|a10|l10|c10|k10|a11|l11|c11|k11|a12|l12|c12|k12|a13|l13|c13|k13|a14|l14|c14|k14|a15|l15|c15|k15|a16|l16|c16|k16|t16=>k_is)
  (case u16=>rfl)
  (case a17|l17|c17|k17|a18|l18|c18|k18|a19|l19|c19|k19|a20|l20|c20|k20|a21|l21|c21|k21|a22|l22|c22|k22|a23|l23|c23|k23|a24|l24|c24|k24|a25|l25|c25|k25|a26|l26|c26|k26|a27|l27|c27|k27|a28|l28|c28|k28|a29|l29|c29|k29|a30|l30|c30|k30|a31|l31|c31|k31|a32|l32|c32|k32|a33|l33|c33|k33|a34|l34|c34|k34|a35|l35|c35|k35|a36|l36|c36|k36|a37|l37|c37|k37|a38|l38|c38|k38|a39|l39|c39|k39|a40|l40|c40|k40|a41|l41|c41|k41|a42|l42|c42|k42|a43|l43|c43|k43|a44|l44|c44|k44|a45|l45|c45|k45|a46|l46|c46|k46|a47|l47|c47|k47|a48|l48|c48|k48|a49|l49|c49|k49|a50|l50|c50|k50|a51|l51|c51|k51|EO|EQ|ER|Ez|EA|CJ|ES|Ce|ET|EB|EU|Ep|EV|D7|EW|Er|AD|BE|AH|Bg|A0|Bh|A6|A7|AE|Bi|Ao|xcg|xct|oa0|ob0|oc0|od0|oe0|of0|og0|oa1|ob1|oc1|od1|oe1|of1|og1|oh1|oi1|oj1|n0|n1|n2|n3|n4|n5|e0|e1|e2|e3|e4|oa2|ob2|oc2|od2|oe2|of2|og2|oh2|oi2|oj2|n6|n7|n8|n9|n10|n11|e5|e6|e7|e8|e9|e10|e11|oa3|ob3|oc3|od3|oe3|of3|og3|oa4|ob4|oc4|od4|oe4|of4|og4|oh4|oi4|oj4|n12|n13|n14|n15|n16|n17|e12|e13|e14|e15|oa5|ob5|oc5|od5|oe5|of5|og5|oh5|oi5|oj5|n18|n19|n20|n21|n22|n23|e16|e17|e18|e19|oa6|ob6|oc6|od6|oe6|of6|og6|oh6|oi6|oj6|n24|n25|n26|n27|n28|e20|oa7|ob7|oc7|od7|oe7|of7|og7|oh7|oi7|oj7|n29|e21|e22|oa8|ob8|oc8|od8|oe8|of8|og8|oa9|ob9|oc9|od9|oe9|of9|og9|oh9|oi9|oj9|n30|e23|oa10|ob10|oc10|od10|oe10|of10|og10|oh10|oi10|oj10|n31|n32|n33|n34|e24|oa11|ob11|oc11|od11|oe11|of11|og11|oh11|oi11|oj11|n35|n36|n37|n38|n39|n40|e25|e26|e27|e28|e29|e30|e31|e32|e33|e34|e35|e36|e37|e38|e39|e40|e41|e42|e43|e44|e45|e46|e47|AU|AV|AW|Aq|AX=>k_is)
  (case AY=>rfl)
  (case ha1|hb1|hc1|hd1|ha2|hb2|hc2|hd2|ha3|hb3|hc3|hd3|ha4|hb4|hc4|hd4|ha5|hb5|hc5|hd5|ha6|hb6|hc6|hd6|ha7|hb7|hc7|hd7|ha8|hb8|hc8|hd8|ha9|hb9|hc9|hd9|ha10|hb10|hc10|hd10|ha11|hb11|hc11|hd11|ha12|hb12|hc12|hd12|ha13|hb13|hc13|hd13|ha14|hb14|hc14|hd14|ha15|hb15|hc15|hd15|ha16|hb16|hc16|hd16|ha17|hb17|hc17|hd17|ha18|hb18|hc18|hd18|ha19|hb19|hc19|hd19|ha20|hb20|hc20|hd20|ha21|hb21|hc21|hd21|ha22|hb22|hc22|hd22|ha23|hb23|hc23|hd23|ha24|hb24|hc24|hd24|ha25|hb25|hc25|hd25|ha26|hb26|hc26|hd26|ha27|hb27|hc27|hd27|ha28|hb28|hc28|hd28|ha29|hb29|hc29|hd29|ha30|hb30|hc30|hd30|ha31|hb31|hc31|hd31|ha32|hb32|hc32|hd32|ha33|hb33|hc33|hd33|ha34|hb34|hc34|hd34|ha35|hb35|hc35|hd35|ha36|hb36|hc36|hd36|AJ|AK|Az|AL|AM=>k_is)
  (case AN=>rfl)
  (case ha38|hb38|hc38|hd38|ha39|hb39|hc39|hd39|ha40|hb40|hc40|hd40|ha41|hb41|hc41|hd41|ha42|hb42|hc42|hd42|ha43|hb43|hc43|hd43|ha44|hb44|hc44|hd44|ha45|hb45|hc45|hd45|ha46|hb46|hc46|hd46=>k_is)
  (case q0|q1|q2|q3|q4|q5|q6|q7|q8|q9|q10|q11|q12|q13|q14|q15|q16=>kit_is)
