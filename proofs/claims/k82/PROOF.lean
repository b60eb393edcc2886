import PyProof.Rows.All
import Wide.All
import OpenK.AllK
import Wide.FinOn
import Lean
import PyProof.EqAt
import PyProof.EqKinds
import PyProof.TupleCall
import PyProof.NeKinds
import KE.IntTextLaws
import PySem.Challenge.RW_delve_k82_texts_refused
section
open PySem PySem.Spec PyProof.Rows PySem.W
def zA:=@wpAny_pure
def zB:=@Heap.get?_push_of_some
def zC:=@Nat.le_refl
def zD:=@Heap.lt_size
def zE:=@Option.some.inj
def zF:=@List.mem_cons_of_mem
def zG:=@wpAny_ite_false
def zH:=@List.all_eq_true
def zI:=@if_neg
def zJ:=@List.mem_cons
def zK:=@Bool.false_ne_true
def zL:=@List.mem_singleton
def zM:=@if_pos
def zN:=@List.getElem_mem
def zO:=@Heap.get?_push_size
def zP:=@Nat.ne_of_lt
def zQ:=@List.size_toArray
def zR:=@Nat.lt_of_lt_of_le
def zS:=@Bool.and_eq_true
def zT:=@List.take_of_length_le
def zU:=@PySem.F.plainAttrs_list
def zV:=@PySem.F.plainAttrs_str
def zW:=@List.length_take
def zX:=@W.mg_of
def zY:=@List.map_append
def zZ:=@wpAny_mono
def zaa:=@wpAny_field
def zab:=@Heap.get?_update_other
def zac:=@List.take_length
def zad:=@List.mem_append
def zae:=@Array.getElem?_setIfInBounds_ne
def zaf:=@List.length_cons
def zag:=@wpAny_loadPart_at
def zah:=@List.getElem?_append_right
def zai:=@List.length_append
def zaj:=@Heap.get?_update_self
def zak:=@List.getElem?_append_left
def zal:=@List.take_succ_eq_append_getElem
def zam:=@List.mem_cons_self
def zan:=@List.mem_append_right
def zao:=@List.map_cons
def zap:=@Nat.le_trans
def zaq:=@List.getElem?_map
def zar:=@wpAny_holding
def zas:=@List.take_add_one
def zat:=@PyProof.Rows.slot_tuple_getitem
def zau:=@Array.getElem?_eq_some_iff
def zav:=@decide_eq_false
def zaw:=@List.mem_map
def zax:=@W.mg_none_of
def zay:=@List.getElem?_eq_getElem
def zaz:=@wpAny_ite_true
def zaA:=@PySem.F.slot_str_join
def zaB:=@PySem.F.type_str_join
def zaC:=@PySem.W.kia_one
def zaD:=@List.mem_of_getElem?
def zaE:=@List.lookup_cons
def zaF:=@List.mem_of_mem_take
def zaG:=@Option.map_eq_some_iff
def zaH:=@wpAny_Call_Name_kw
def zaI:=@PySem.F.slot_list_append
def zaJ:=@PySem.F.type_list_append
def zaK:=@wpAny_setField
def zaL:=@wpAny_callSpecial?_slot
def zaM:=@wpAny_newObj_type
def zaN:=@PyProof.Rows.callWith_type1
def zaO:=@PySem.W.hideAll_get
def zaP:=@PySem.mem_of_lookup
def zaQ:=@PySem.F.slot_str_split
def zaR:=@PySem.F.type_str_split
def zaS:=@PySem.W.hideAll_none
def zaT:=@Bool.eq_iff_iff
def zaU:=@List.append_nil
def zaV:=@Nat.mul_le_mul_right
def zaW:=@wpAny_standAt
def zaX:=@List.length_eq_zero_iff
def zaY:=@Array.length_toList
def zaZ:=@wpAny_seqItems
def za0:=@PySem.W.callWith_K
def za1:=@Obj.data_mapFields
def za2:=@wpAny_setField_rec
def za3:=@Obj.isFreed_of_fields
def za4:=@Int.emod_nonneg
def za5:=@F.slot_tuple_iterator_next
def za6:=@wpAny_truthy_bool
def za7:=@codeAny_call_builtin
def za8:=@Heap.size_push
def za9:=@wpAny_is_plain
def zba:=@wpAny_call_entry
def zbb:=@PySem.F.slot_list_extend
def zbc:=@PySem.F.type_list_extend
def zbd:=@Heap.FunFrames.of_keeps
def zbe:=@List.mem_filterMap
def zbf:=@wpAny_call
def zbg:=@Nat.lt_of_le_of_lt
def zbh:=@wpAny_rule
def zbi:=@List.getElem?_set_self
def zbj:=@congrArg
def zbk:=@codeAny_mono
def zbl:=@List.mem_iff_getElem
def zbm:=@PySem.W.Looks.ld
def zbn:=@Nat.lt_irrefl
def zbo:=@PySem.F.excBase_ValueError
def zbp:=@List.cons.inj
def zbq:=@wpAny_execs_nil
def zbr:=@wpAny_passesOwn
def zbs:=@wpAny_FormattedValue_repr
def zbt:=@PySem.W.of_hideAll
def zbu:=@Nat.ne_of_gt
def zbv:=@PySem.F.args_tuple_add_2
def zbw:=@Int.emod_lt_of_pos
def zbx:=@decide_eq_true
def zby:=@PySem.F.entry_tuple_add
def zbz:=@PySem.F.slot_list_index
def zbA:=@of_decide_eq_true
def zbB:=@F.attr_ValueError
def zbC:=@Nat.zero_le
def zbD:=@PySem.W.cellsFrom_some
def zbE:=@PySem.F.slot_tuple_add
def zbF:=@PySem.W.funFrames_hide
def zbG:=@List.drop_of_length_le
def zbH:=@wpAny_execs_cons
def zbI:=@List.length_drop
def zbJ:=@Array.toList_inj
def zbK:=@List.length_replicate
def zbL:=@PySem.W.methodCall_KW
def zbM:=@List.mem_filter
def zbN:=@Heap.get?_none_of_le
def zbO:=@List.getElem?_set_ne
def zbP:=@PySem.W.looks_findIn
def zbQ:=@List.nodup_cons
def zbR:=@List.of_mem_zip
def zbS:=@Calls.evalArgs_plain
def zbT:=@wpAny_updateSeq_pair
def zbU:=@F.slot_zip_next
def zbV:=@List.map_map
def zbW:=@Nat.min_eq_left
def zbX:=@List.all_append
def zbY:=@PySem.W.plainGet_of
def zbZ:=@wpAny_isSubtype_exc
def zb0:=@Array.toList_append
def zb1:=@wpAny_loadPart
def zb2:=@Bool.and_false
def zb3:=@F.args_tuple_iterator_next_1
def zb4:=@Nat.le_succ
def zb5:=@wpAny_pyIter_tuple
def zb6:=@F.entry_tuple_iterator_next
def zb7:=@List.getElem?_drop
def zb8:=@SeqAt.EqAt.of_refs
def zb9:=@F.args_str_split_2
def zca:=@Array.all_eq_true'
def zcb:=@decide_eq_true_iff
def zcc:=@Calls.Name_function_global
def zcd:=@wpAny_newFunctionEnv_cells
def zce:=@List.any_cons
def zcf:=@wpAny_onRaise
def zcg:=@wpAny_pyIter_list
def zch:=@F.entry_str_split
def zci:=@List.drop_eq_getElem_cons
def zcj:=@Decidable.byContradiction
def zck:=@wpAny_typeOf
def zcl:=@List.map_nil
def zcm:=@Nat.lt_trans
def zcn:=@F.slot_str_split
def zco:=@Bool.not_eq_true
def zcp:=@List.forIn_cons
def zcq:=@List.length_nil
def zcr:=@wpAny_letGo
def zcs:=@Bool.false_and
end
universe u v
theorem yA{α:Type u}{l:List α}{i:Nat}{a:α}(h:l[i]?=some a):∃h:i<l.length,l[i]=a:=List.getElem?_eq_some_iff.mp h
theorem yC{α:Type u}{β:Type v}{l:List α}(f:α->β):(l.map f).length=l.length:=List.length_map f
def yD:=@PySem.wpAny_bind
local macro_rules| `(tactic| walk_at "k")=> `(tactic| decide +kernel)
namespace PySem.W.Fast
def tw4528227532755863350:=0
def tw16657954137740647677:=0
def tw4966991586646265632:=0
def tw14006997203897622399:=0
def tw5166922456713703805:=0
def tw2970799459861737097:=0
def tw2691784844621401344:=0
def tw10436048077987390406:=0
def tw14152161400753169423:=0
def tw13795415392001806356:=0
def tw13653149018539420405:=0
def tw9642494193415585486:=0
def tw2977543762910074294:=0
def tw14681668237071222735:=0
def tw11254208507868175619:=0
def tw7565668274559207406:=0
def tw16058585403265865566:=0
def tw10354084896790767564:=0
def tw4344192451991818575:=0
def tw8281470896573098091:=0
def tw4798676643021625355:=0
def tw2635032154910681372:=0
def tw7667726760364220767:=0
def tw5199812491840242800:=0
def tw3357265134665365477:=0
def tw260606907373628935:=0
def tw1571516859517468536:=0
def tw327146025308971840:=0
def tw15036859191296193167:=0
def tw2622010606748601255:=0
def tw12489537851357103250:=0
def tw16481395343957192507:=0
def tw5990922087762744259:=0
def tw15679390293368911201:=0
def tw17664074361641411660:=0
def tw18100403787715494136:=0
def tw13915289353647437335:=0
def tw12816332550550946018:=0
def tw5045200947747286176:=0
def tw158791939382507057:=0
def tw850115147821818018:=0
def tw8366689748704154366:=0
def tw14188516125776205824:=0
def tw7311682933860664339:=0
def tw14327347684320969161:=0
def tw15438549683401067139:=0
def tw3264798678213316762:=0
def tw4692753707525161618:=0
def tw1088717711027875403:=0
def tw435601862870323243:=0
def tw6566503129359049289:=0
def tw7114230057427414893:=0
def tw16081226100576747291:=0
def tw469381274155763520:=0
def tw8555559901492481094:=0
def tw11769211025920683097:=0
def tw14725923612775965239:=0
def tw14448803962158295837:=0
def tw18228169742131384732:=0
def tw8948409821087532713:=0
def tw5920611312177851801:=0
def tw13224860517542458355:=0
def tw2560199531599842462:=0
def tw1533766584039959940:=0
def tw13861323333825429085:=0
def tw221902974172110935:=0
def tw1994808705801178805:=0
def tw8304367588533079388:=0
def tw16892961012158825099:=0
def tw14523971254583087788:=0
def tw15343200231924544192:=0
def tw3464605680656863073:=0
def tw6005631459569005596:=0
def tw2616532379588885200:=0
def tw10776326456608731658:=0
def tw12601702157748139233:=0
def tw3542706937081045702:=0
def tw8252954222139102964:=0
def tw10929919196216548399:=0
def tw15621964308929506945:=0
def tw1642443229489615797:=0
def tw1497171584185230295:=0
def tw11996003033790928134:=0
def tw2945461663177159176:=0
def tw3704396735890154599:=0
def tw9351727193316649161:=0
def tw17658533273445851870:=0
def tw18023241836825043244:=0
def tw15387930231979881956:=0
def tw10591407044135068078:=0
def tw5412010223727589275:=0
def tw299395622618347628:=0
def tw17229879004960572539:=0
def tw12026631222521776800:=0
def tw1407664881154992047:=0
def tw15782257157378368756:=0
def tw15514450375228475569:=0
def tw6265242298305697678:=0
def tw10628677048484721364:=0
def tw10377215294565062363:=0
def tw15113577194473094974:=0
def tw17735259419837098106:=0
def tw14379468569731201434:=0
def tw5009624788874290062:=0
def tw16684556250611631674:=0
def tw11616294700151622438:=0
def tw11245447503384207809:=0
def tw16255426206179040051:=0
def tw5228745379521170984:=0
def tw6109141639687985565:=0
def tw7651702927462757243:=0
def tw18342622668934221902:=0
def tw14436970382225015459:=0
def tw5593973353470017367:=0
def tw16456012298644297017:=0
def tw4959111904758829363:=0
def tw11281416691888420670:=0
def tw4977981595016416254:=0
def tw9073073066922941005:=0
def tw13443672492240461472:=0
def tw8683739171732728260:=0
def tw17220828767957001162:=0
def tw10142115200782086650:=0
def tw16125402310054953684:=0
def tw15441335380725569804:=0
def tw14757318910294653225:=0
def tw14338884548072195283:=0
def tw17136585152557504451:=0
def tw1405695328169937368:=0
def tw1612004399175043264:=0
def tw5953303006433870160:=0
def tw18306924513121466743:=0
def tw10839889244247054797:=0
def tw13558620242759957932:=0
def tw5643598694428432829:=0
def tw3200734526171520868:=0
def tw10987073204647515059:=0
def tw4357154195325950909:=0
def tw5718978057918183966:=0
def tw7026915454730096606:=0
def tw8411167819900538644:=0
def tw10635955171556015589:=0
def tw9966086958971056511:=0
def tw9729544498036835531:=0
def tw1502439292478830672:=0
def tw10809166613437449052:=0
def tw14858743619472618535:=0
def tw7946260535791481890:=0
def tw127964372187668218:=0
def tw751690864975608135:=0
def tw8526249715378275350:=0
def tw16735490633838238668:=0
def tw2238801069763759272:=0
def tw7063222382379408357:=0
def tw7532500821522063706:=0
def tw467657591539737326:=0
def tw5965679704175675860:=0
def tw12483601040215061714:=0
def tw15964640591888279303:=0
def tw18188938798752764301:=0
def tw17954191587931766749:=0
def tw2518656876052745273:=0
def tw9777173153187939801:=0
def tw6819375056287255451:=0
def tw6255074993991935161:=0
def tw1418838726595491081:=0
def tw10807170797582019752:=0
def tw2990025009901726083:=0
def tw16616122222322632308:=0
def tw8489461111560350022:=0
def tw6185003628481260672:=0
def tw14784264609678417423:=0
def tw6295633382335660422:=0
def tw16930457979245076836:=0
def tw5889305336395134190:=0
def tw15437162813744368258:=0
def tw9678236326297978330:=0
def tw13425980778526833188:=0
def tw13354821968910536048:=0
def tw10081669494369858280:=0
def tw13775659455826664509:=0
def tw8590500981380091040:=0
def tw4785144626541114569:=0
def tw18033045990212142313:=0
def tw16229738448545141577:=0
def tw18085189360755507854:=0
def tw16403262410887407885:=0
def tw17319521814892346248:=0
def tw1352556496016893751:=0
def tw8074424694231193382:=0
def tw16774358451661454524:=0
def tw14625958760354345897:=0
def tw6533011811455824461:=0
def tw2613587912391182893:=0
def tw3106883722916127091:=0
def tw733433263382952210:=0
def tw11894963103684968510:=0
def tw6375490931440668642:=0
def tw5568856570742991601:=0
def tw3484331724160847892:=0
def tw6441818256393565717:=0
def tw14458291098365253449:=0
def tw6092896527843533352:=0
def tw17194567407648988715:=0
def tw7472191503340163306:=0
def tw4345904759569844111:=0
def tw6142117999475512234:=0
def tw12626921171580492140:=0
def tw10157665535689005371:=0
def tw16630000494348810389:=0
def tw11424026541552507856:=0
def tw2552906311991471153:=0
def tw4525793788800360218:=0
def tw10522882573351995712:=0
def tw10853562798108309477:=0
def tw16521639044764720646:=0
def tw2236398747751548516:=0
def tw12326636892240908560:=0
def tw15262354553292721299:=0
def tw15333957083690719600:=0
def tw10903676144519665046:=0
def tw17323007510617059921:=0
def tw567929316114601752:=0
def tw16683025536975861337:=0
def tw647218711118909713:=0
def tw3039278698830075976:=0
def tw10397226020256931532:=0
def tw4726318973040056146:=0
def tw15677572844138200010:=0
def tw209414887553813160:=0
def tw15579527074530577536:=0
def tw3307855236654876558:=0
def tw11012452393556671684:=0
def tw8531415994723439786:=0
def tw1068892442286911684:=0
def tw17756117116255587774:=0
def tw2145549814107458953:=0
def tw15868176454461596744:=0
def tw11447497448922149593:=0
def tw9149550678400664865:=0
def tw11660444923781026436:=0
def tw3662825483589523032:=0
def tw13984343252692073387:=0
def tw1826613705095957257:=0
def tw6171800692630838679:=0
def tw3413838031093821871:=0
def tw12215200713414573877:=0
def tw11988668987101226942:=0
def tw5137449201911656439:=0
def tw2623389438222451522:=0
def tw2324536459271015491:=0
def tw5809087975776915122:=0
def tw15534436424737653130:=0
def tw915754254025508431:=0
def tw7760042059568077636:=0
def tw5800253965328858938:=0
def tw4807147790273643375:=0
def tw15852555934393486293:=0
def tw12630346527433406869:=0
def tw18224432704679331893:=0
def tw766874864813528373:=0
def tw4075362550110213805:=0
def tw14483695204017458597:=0
def tw3228935467821265246:=0
def tw16174369917076553919:=0
def tw14440101524777708893:=0
def tw10149136394524491864:=0
def tw3664461871455129677:=0
def tw10781972232691966084:=0
def tw2771140317456292880:=0
def tw10825262846373521021:=0
def tw15199551521938650487:=0
def tw14633944268280755830:=0
def tw4216012396512389274:=0
def tw4458590982821904147:=0
def tw9109846120085269868:=0
def tw1478481625056353874:=0
def tw8857839680886744389:=0
def tw7779948049629468931:=0
def tw11312661326801608938:=0
def tw17034948036219331383:=0
def tw13025294128553913243:=0
def tw478537034891498043:=0
def tw18175554045025746827:=0
def tw16927566455909796269:=0
def tw15041564323306268633:=0
def tw4024659887375527486:=0
def tw12173044908431129155:=0
def tw173702198598617845:=0
def tw14575770019727194313:=0
def tw17976554574648529924:=0
def tw11174415116097339636:=0
def tw15906334686822060344:=0
def tw9843838730126521025:=0
def tw10041490861266338390:=0
def tw917253164197854387:=0
def tw13196203469942035823:=0
def tw13202311169726323890:=0
def tw1602277135581003829:=0
def tw7773196464163218779:=0
def tw1372525802379080559:=0
def tw18193138009313780419:=0
def tw7316175833621516566:=0
def tw2825957216572859618:=0
def tw593728307707668655:=0
def tw14336521447531584003:=0
def tw3901396567657504208:=0
def tw7185535115212937420:=0
def tw10956076391084813738:=0
def tw13061710114877899757:=0
def tw17628381629167348292:=0
def tw4067648266576887004:=0
def tw15592565586093096722:=0
def tw6862567548311809324:=0
def tw11297975758001036990:=0
def tw9855951086437125818:=0
def tw7248385679549289588:=0
def tw16258666011621250448:=0
def tw13648689236698107590:=0
def tw16809665660302376350:=0
def tw10895954267205860550:=0
def tw18043483758974097376:=0
def tw12356085471912532337:=0
def tw290382916120057617:=0
def tw9915319094567913709:=0
def tw3902974178950172873:=0
def tw13981485369662428977:=0
def tw6853399657685965907:=0
def tw6906911293477987809:=0
def tw3163869809141158682:=0
def tw1692030319779598715:=0
def tw7051143150059203584:=0
def tw4467316895689349824:=0
def tw16084629937903851257:=0
def tw8800301100537492036:=0
def tw15136010847683340891:=0
def tw12448174197319452903:=0
def tw9625683468622450833:=0
def tw8318034052599601118:=0
def tw12474169592472146393:=0
def tw10063488278091413379:=0
def tw15024690389803972799:=0
def tw12212587007280593391:=0
def tw8690994490448969216:=0
def tw3018642305270462261:=0
def tw7046520295736940207:=0
def tw17481656790418218008:=0
def tw11422230356430974590:=0
def tw997843403372002836:=0
def tw5404533849635070682:=0
def tw16713311598908818245:=0
def tw14988657650286987282:=0
def tw1918576688015793242:=0
def tw18235313126202509144:=0
def tw15869011260872978155:=0
def tw9374701021432356284:=0
def tw13500581525217761672:=0
def tw13829344590337108555:=0
def tw5881025950821239474:=0
def tw4928914024598599028:=0
def tw10430134269550437593:=0
def tw6013252829064467330:=0
def tw109067032962897473:=0
def tw6147015376087887144:=0
def tw8586831912570890821:=0
def tw18339410182086323381:=0
def tw7511129713807324706:=0
def tw1053130730860054746:=0
def tw12751200008713421806:=0
def tw5731044555634183254:=0
def tw9597894045217002728:=0
def tw10393711652761693631:=0
def tw11478742072290977927:=0
def tw13287824969284510419:=0
def tw2221395491311798315:=0
def tw12811802148522783415:=0
def tw12368554711366414356:=0
def tw4279668445538358720:=0
def tw7094110374559980410:=0
def tw14460702114817492812:=0
def tw683880339182317874:=0
def tw11822210985958558894:=0
def tw15592987693836625727:=0
def tw3306424620978825134:=0
def tw5378119092405553364:=0
def tw12360363306905527811:=0
def tw2626870513503687805:=0
def tw17410461337377647005:=0
def tw16752466859890379517:=0
def tw4584487100732382275:=0
def tw3592590322108135342:=0
def tw16463476750238748633:=0
def tw2523815651049465976:=0
def tw17007585049765195529:=0
def tw12277021680694863689:=0
def tw5204921160803677180:=0
def tw4356801606401527112:=0
def tw4271424797476698147:=0
def tw1222245133742787360:=0
def tw12804439117443885505:=0
def tw6402689217375062256:=0
def tw8647279521493051081:=0
def tw17048056620165806716:=0
def tw15515634547329993425:=0
def tw4682922520901458325:=0
def tw9921310245624252470:=0
def tw7037411420703025074:=0
def tw14835071530888275168:=0
def tw9952282963323111288:=0
def tw3235710318175965124:=0
def tw3521307860580603565:=0
def tw7564805284900779284:=0
def tw15075776312877606053:=0
def tw13454128703718009089:=0
def tw16172028541455382396:=0
def tw3675584119155873168:=0
def tw8745233048813892001:=0
def tw7524613155100808967:=0
def tw881694467304627296:=0
def tw17475267688217413386:=0
def tw15157822007506324069:=0
def tw408175805359120101:=0
def tw12288284737639587325:=0
def tw17592439895118087450:=0
def tw12973958680047200317:=0
def tw7193945121574271583:=0
def tw10701475271781206273:=0
def tw17455532715875549742:=0
def tw7702848042021613489:=0
def tw8650819606106890288:=0
def tw6011827951779850329:=0
def tw16363692661961433997:=0
def tw17943558074453795235:=0
def tw1639351743475647189:=0
def tw4149132413173244318:=0
def tw14085483052356489336:=0
def tw7300982857341071381:=0
def tw2753452194495414266:=0
def tw1721551339543968348:=0
def tw12748368831414904284:=0
def tw14378683017094241527:=0
def tw5087392194639966635:=0
def tw16079705815814282544:=0
def tw17268055639537295677:=0
def tw1692901956248648317:=0
def tw12565691124243519792:=0
def tw4205526869130304640:=0
def tw17199702618703391890:=0
def tw10353733970584256725:=0
def tw16382464700395316694:=0
def tw3276418816067003425:=0
def tw11879108845646364225:=0
def tw3369786175932525289:=0
def tw4345166989563453006:=0
def tw976987018036400913:=0
def tw15559250703592934349:=0
def tw12202610909579879956:=0
def tw1623360686961099246:=0
def tw10749253894995201219:=0
def tw2719276479225170806:=0
def tw11912614821218665502:=0
def tw2133292120573456378:=0
def tw12023013470566214655:=0
def tw5165737050271133420:=0
def tw13756447827029861397:=0
def tw17416946944328432731:=0
def tw15967317986051993054:=0
def tw6098536453013565070:=0
def tw5833078604946917439:=0
def tw7719356907297359246:=0
def tw7358718404597311773:=0
def tw15637817930886157941:=0
def tw2560307441260024617:=0
def tw206642123832255119:=0
def tw5116165691542159564:=0
def tw7865463398107981520:=0
def tw5356780369194975659:=0
def tw14789806388329733763:=0
def tw5096523990121796662:=0
def tw13165646020533501346:=0
def tw1151181514324629043:=0
def tw5986287456147322146:=0
def tw2449209802013314615:=0
def tw733262673982283516:=0
def tw2384525471498330345:=0
def tw1606127847326897149:=0
def tw4622037375099351214:=0
def tw10397306067472949588:=0
def tw16003077802262422546:=0
def tw13280535072131683696:=0
def tw9324734854119418664:=0
def tw6254769066487534392:=0
def tw7278024948249414445:=0
def tw13671239624137963946:=0
def tw10156435246443508112:=0
def tw4361340579637698181:=0
def tw12267921933344999125:=0
def tw10575642607204504439:=0
def tw14152836159054830838:=0
def tw430175110399922431:=0
def tw13096027737254502422:=0
def tw6886181968655544866:=0
def tw12899005130842046928:=0
def tw4137409068698540371:=0
def tw3904261466033139574:=0
def tw6103002813953797589:=0
def tw14850756609461974407:=0
def tw2349317236743131828:=0
def tw13038980289381140570:=0
def tw3101932100452487541:=0
def tw10229254018402693270:=0
def tw18169772756930290978:=0
def tw3023461503341510273:=0
def tw14029890835015632392:=0
def tw2645319799030012493:=0
def tw13779148346868221379:=0
def tw12965413358771467412:=0
def tw18110987655418533044:=0
def tw3085306237962290561:=0
def tw15192664314000549542:=0
def tw12659162582938041463:=0
def tw5507205120822101094:=0
def tw4279051598166073096:=0
def tw16497039680526739849:=0
def tw13879425340859189702:=0
def tw11403199756567348486:=0
def tw7474621615526500044:=0
def tw5207606137297819088:=0
def tw5173629408793572776:=0
def tw901250887335046944:=0
def tw13180958111640870478:=0
def tw11552223715092900009:=0
def tw2843681244142409523:=0
def tw16756959384978347507:=0
def tw14337050388215354172:=0
def tw16180444399811462646:=0
def tw1202211479952053323:=0
def tw2726806079644438415:=0
def tw4198160847892640288:=0
def tw11792782079166575357:=0
def tw15850747573865424010:=0
def tw17230898851910229893:=0
def tw15357154760013872055:=0
def tw14445019146460702045:=0
def tw8380706402650918562:=0
def tw1169159583329172388:=0
def tw2384307267369391667:=0
def tw7399371784557291295:=0
def tw5448267330557128736:=0
def tw12156045553027850743:=0
def tw10953722194726670999:=0
def tw400354433753719802:=0
def tw4199005815928288007:=0
def tw9888269951946007923:=0
def tw888000098378057836:=0
def tw306607109409761453:=0
def tw104160419744620181:=0
def tw13623375094750948582:=0
def tw14691056011321340822:=0
def tw8830173276632154837:=0
def tw7558971622878371874:=0
def tw17427524306761241323:=0
def tw1636662095339228901:=0
def tw5110192778162405378:=0
def tw6056413787983964758:=0
def tw4502952606970364199:=0
def tw8295448080727024916:=0
def tw5808119319366615164:=0
def tw3219581715446746199:=0
def tw13116402211597352987:=0
def tw2204654547324944111:=0
def tw11472782242753419911:=0
def tw5380902699763551564:=0
def tw10576769959476949907:=0
def tw7663012379467185909:=0
def tw13318930253865722497:=0
def tw8649251018026626094:=0
def tw17927132337836626740:=0
def tw13072115714336748896:=0
def tw9486118554973853714:=0
def tw4090335996232423715:=0
def tw3059860896475733247:=0
def tw13647089419395131203:=0
def tw439022859207426226:=0
def tw16926321391795878325:=0
def tw14924059690933764319:=0
def tw8170754429678108691:=0
def tw17207550915884601767:=0
end PySem.W.Fast
set_option compiler.extract_closed false
set_option Elab.async false
set_option linter.all false
set_option maxRecDepth 100000
namespace L2
open PySem PySem.Spec PyProof.Rows
abbrev Key:=Sum Int Str
def q72:Key->Value->Bool
 | .inl k,v=>Value.isInt k v
 | .inr x,v=>Value.isStrOf x v
def keyH (w:World):Key->Int
 | .inl k=>hashInt k
 | .inr x=>hashStr w x
theorem q0t:∀{k:Key} {v:Value},q72 k v=true->(∃i t,k=Sum.inl i/\v=Value.int i t)\/(∃x t,k=Sum.inr x/\v=Value.str x t)
 | .inl i,v,h=>by
  obtain⟨t,e⟩:=Value.isInt_shape (k:=i) (v:=v) h
  exact .inl ⟨i,t,rfl,e⟩
 | .inr x,v,h=>by
  obtain⟨t,e⟩:=Value.isStrOf_shape (x:=x) (v:=v) h
  exact .inr ⟨x,t,rfl,e⟩
theorem q8p (i:Int)(t:Tok):q72 (.inl i) (.int i t)=true:=by simp[q72,Value.isInt]
theorem q8o (x:Str)(t:Tok):q72 (.inr x) (.str x t)=true:=by simp[q72,Value.isStrOf]
theorem key_ll (a b:Int):decide ((Sum.inl a:Key)=Sum.inl b)=(a==b):=by
 by_cases e:a=b
 ·subst e;simp
 ·have h:¬(Sum.inl a:Key)=Sum.inl b:=fun q=>e (Sum.inl.inj q)
  rw[zav h]
  exact(beq_eq_false_iff_ne.mpr e).symm
theorem key_rr (a b:Str):decide ((Sum.inr a:Key)=Sum.inr b)=decide (a=b):=by
 by_cases e:a=b
 ·subst e;simp
 ·have h:¬(Sum.inr a:Key)=Sum.inr b:=fun q=>e (Sum.inr.inj q)
  rw[zav h,zav e]
theorem key_lr (a:Int)(b:Str):decide ((Sum.inl a:Key)=Sum.inr b)=false:=zav (fun q=>nomatch q)
theorem key_rl (a:Str)(b:Int):decide ((Sum.inr a:Key)=Sum.inl b)=false:=zav (fun q=>nomatch q)
def q12 (prog:Program)(w:World):PySem.KeyKind prog w Key where
 is:=q72
 hash:=keyH w
 inj:=fun v a b ha hb=>by
  rcases q0t ha with⟨i,t,rfl,rfl⟩|⟨x,t,rfl,rfl⟩
  ·rcases q0t hb with⟨j,u,rfl,e⟩|⟨y,u,rfl,e⟩
   ·injection e with e1 _;rw[e1]
   ·exact nomatch e
  ·rcases q0t hb with⟨j,u,rfl,e⟩|⟨y,u,rfl,e⟩
   ·exact nomatch e
   ·injection e with e1 _;rw[e1]
 byValue:=fun k v h=>by
  rcases q0t h with⟨i,t,rfl,rfl⟩|⟨x,t,rfl,rfl⟩<;>rfl
 pyHash:=fun hv h=>by
  rcases q0t hv with⟨i,t,rfl,rfl⟩|⟨x,t,rfl,rfl⟩
  ·exact wpAny_pyHash_int h
  ·exact wpAny_pyHash_str h
 eqBool:=fun hu hv h=>by
  rcases q0t hu with⟨i,t,rfl,rfl⟩|⟨x,t,rfl,rfl⟩
  ·rcases q0t hv with⟨j,u,rfl,rfl⟩|⟨y,u,rfl,rfl⟩
   ·rw [key_ll] at h;exact wpAny_eqBool_int h
   ·rw [key_lr] at h;exact SeqAt.EqAt.int_str i t y u _ _ _ _ h
  ·rcases q0t hv with⟨j,u,rfl,rfl⟩|⟨y,u,rfl,rfl⟩
   ·rw [key_rl] at h;exact SeqAt.EqAt.str_int x t j u _ _ _ _ h
   ·rw [key_rr] at h;exact wpAny_eqBool_str h
 «strs» :=fun k x t v h=>by
  rcases q0t h with⟨i,u,rfl,e⟩|⟨y,u,rfl,e⟩
  ·exact nomatch e
  ·injection e with e1 _
   subst e1
   cases v<;>rfl
theorem q5R (prog:Program)(w:World)(i:Int)(t:Tok):(q12 prog w).is (.inl i) (.int i t)=true:=q8p i t
theorem q5Q (prog:Program)(w:World)(x:Str)(t:Tok):(q12 prog w).is (.inr x) (.str x t)=true:=q8o x t
inductive V where
 |non|bl (b:Bool)|int (i:Int)|str (x:Str)|byt (b:Array UInt8)|flt (b:UInt64)|ref (a:Addr)|ty (n:String)
 deriving DecidableEq
def RelV:V->Value->Prop
 | .non,u=>u=Value.none
 | .bl b,u=>u=Value.bool b
 | .int i,u=>∃t,u=Value.int i t
 | .str x,u=>∃t,u=Value.str x t
 | .byt b,u=>∃t,u=Value.bytes b t
 | .flt b,u=>∃t,u=Value.float b t
 | .ref a,u=>u=Value.ref a
 | .ty n,u=>u=Value.type n
abbrev Vals:List V->List Value->Prop:=Paired RelV
theorem Vals.length {xs:List V}{us:List Value}(r:Vals xs us):xs.length=us.length:=Paired.length r
theorem Vals.get:∀{xs:List V} {us:List Value} {i:Nat} {x:V},Vals xs us->xs[i]? =some x->∃u,us[i]? =some u/\RelV x u
 |_,_,_,_,.nil,e=>by simp at e
 |_,_,0,_,.cons r _,e=>by simp at e;subst e;exact⟨_,rfl,r⟩
 |_,_,i+1,x,.cons _ t,e=>by
  obtain⟨u,h1,h2⟩:=Vals.get (i:=i) (x:=x) t (by simpa using e)
  exact⟨u,by simpa using h1,h2⟩
theorem Vals.set {x:V}{u:Value}(r:RelV x u):∀{xs:List V} {us:List Value} (i:Nat),Vals xs us->Vals (xs.set i x) (us.set i u)
 |_,_,_,.nil=> .nil
 |_,_,0,.cons _ t=> .cons r t
 |_,_,i+1,.cons q t=> .cons q (Vals.set r i t)
theorem Vals.append:∀{xs ys:List V} {us ws:List Value},Vals xs us->Vals ys ws->Vals (xs++ys) (us++ws)
 |_,_,_,_,.nil,s=>s
 |_,_,_,_,.cons r t,s=> .cons r (Vals.append t s)
theorem Vals.take:∀{xs:List V} {us:List Value} (n:Nat),Vals xs us->Vals (xs.take n) (us.take n)
 |_,_,0,_=> .nil
 |_,_,_+1,.nil=> .nil
 |_,_,n+1,.cons r t=> .cons r (Vals.take n t)
theorem Vals.drop:∀{xs:List V} {us:List Value} (n:Nat),Vals xs us->Vals (xs.drop n) (us.drop n)
 |_,_,0,r=>r
 |_,_,_+1,.nil=> .nil
 |_,_,n+1,.cons _ t=>Vals.drop n t
def RelO:Option V->Option Value->Prop
 |some v,some u=>RelV v u
 |none,none=>True
 |_,_=>False
def KV {κ:Type}:List (κ×V)->List (κ×Value)->Prop:=Paired fun(p:κ×V) (q:κ×Value)=>p.1=q.1/\RelV p.2 q.2
def kV:Key->V
 | .inl i=> .int i
 | .inr x=> .str x
inductive HO where
 /-- a list -/
 |lst (xs:List V)
 /-- a tuple (never changes) -/
 |tup (xs:List V)
 /-- a dict whose keys are ints and texts;one whose keys are tuples of ints and texts (the empty one is both) -/
 |dK (kvs:List (Key×V))|dT (kvs:List (List Key×V))
 /-- a set of ints: its members,its size -/
 |set (S:Int->Bool) (n:Nat)
 /-- an instance of the class at C,its dict at dx,its attributes -/
 |ins (C dx:Addr) (fs:List (Str×V))
 /-- the dict of the instance at x -/
 |own (x:Addr)
 /-- the dict of an exception -/
 |xd (fs:List (Str×V))
 /-- a bound method,f of x -/
 |met (f x:Addr)
 /-- a range object lo,lo+1,.. below hi -/
 |rng (lo hi:Int)
 /-- a thing that is known to the object (the script;a dict while a loop walks it):read,never written while it is so -/
 |frz (o:Obj) (u:HO)
 /-- a code object's table -/
 |tbl (ps:Array Value)
 /-- any other thing,by what is true of its one object (a def of one's own: SetO a S n:=HO.ext fun h=> ..) -/
 |ext (φ:Heap->Prop)
abbrev Hp:=Addr->Option HO
def upd (H:Hp)(a:Addr)(o:HO):Hp:=fun b=>if b=a then some o else H b
theorem qh {H:Hp}{a:Addr}{o:HO}:upd H a o a=some o:=by unfold upd;rw[if_pos rfl]
theorem qm {H:Hp}{a b:Addr}{o:HO}(h:b≠a):upd H a o b=H b:=by unfold upd;rw[if_neg h]
theorem q2U {H:Hp}{a:Addr}{o u:HO}:upd (upd H a o) a u=upd H a u:=by
 funext b;unfold upd;split<;>rfl
theorem ne_of {H:Hp}{a b:Addr}{o u:HO}(h:H a=some o)(h':H b=some u)(d:o≠u):a≠b:=by
 intro e;subst e;rw[h] at h';exact d (zE h')
theorem ql {H:Hp}{a b:Addr}{o:HO}(h:H a=some o)(h':H b=none):a≠b:=by
 intro e;subst e;rw[h] at h';cases h'
section
variable (P:Program)(w:World)
def q0j (H:Hp)(h:Heap)(a:Addr):HO->Prop
 | .lst xs=>xs.length<=sizeLine/\∃(its:List Value) (n:Nat),Vals xs its/\h.get? a=some {cls:= .type "list",data:= .seq its.toArray n}
 | .tup xs=>xs.length<=sizeLine/\∃its:List Value,Vals xs its/\IsTup h a its.toArray
 | .dK kvs=>kvs.length<=sizeLine/\(a==sysModules)=false/\∃vs,KV kvs vs/\h.DictOf (q12 P w) a vs
 | .dT kvs=>kvs.length<=sizeLine/\(a==sysModules)=false/\∃xs:List (List Key×Addr×Value),
   Paired (fun(p:List Key×V) (q:List Key×Addr×Value)=>p.1=q.1/\H q.2.1=some (.tup (p.1.map kV))/\RelV p.2 q.2.2) kvs xs/\
   ∃o es ep,h.get? a=some o/\o.ExactDict/\o.data= .dict es ep/\es.toList=xs.map (entryOfKey (tupleKind (q12 P w)))/\(xs.map (·.1)).Nodup
 | .set S n=>h.SetOf (intKind P w) a S n
 | .ins C dx fs=>H dx=some (.own a)/\fs.length<=1000/\dx≠a/\h.get? a=some (PySem.W.instObj C dx)/\
   ∃mA,h.Ns1 dx mA/\(∀f,RelO (fs.lookup f) (mA f))/\PySem.Within mA (fs.map (·.1))
 | .own _=>∃o,h.get? a=some o
 | .xd fs=>∃mA,h.Ns1 a mA/\∀f,RelO (fs.lookup f) (mA f)
 | .rng lo hi=>∃t u v,h.get? a=some {cls:= .type "range",data:= .fields #[.int lo t,.int hi u,.int 1 v]}
 | .frz o u=>h.get? a=some o/\q0j H h a u
 | .tbl ps=>h.get? a=some {cls:= .none,data:= .fields ps}
 | .met f x=>h.get? a=some (PySem.W.methodObj (.ref f) (.ref x))
 | .ext φ=>φ h/\(∃o,h.get? a=some o)/\∀h1 h2:Heap,φ h1->(∀o,h1.get? a=some o->h2.get? a=some o)->φ h2
def HOk (H:Hp)(h:Heap):Prop:=∀a o,H a=some o->q0j P w H h a o
end
section
variable {P:Program}{w:World}{H H':Hp}{h h':Heap}{a:Addr}{o:HO}
theorem q0j.lt (x:q0j P w H h a o):a<h.objs.size:=by
 cases o with
 |lst xs=>obtain⟨_,_,_,_,e⟩:=x;exact zD e
 |tup xs=>obtain⟨_,_,_,p⟩:=x;exact p.lt
 |dK kvs=>obtain⟨_,_,_,_,o,_,_,e,_⟩:=x;exact zD e
 |dT kvs=>obtain⟨_,_,_,_,o,_,_,e,_⟩:=x;exact zD e
 |set S n=>obtain⟨o,_,_,_,e,_⟩:=x;exact zD e
 |ins C dx fs=>obtain⟨_,_,_,e,_⟩:=x;exact zD e
 |own y=>obtain⟨_,e⟩:=x;exact zD e
 |xd fs=>obtain⟨_,⟨_,_,_,e,_⟩,_⟩:=x;exact zD e
 |rng lo hi=>obtain⟨_,_,_,e⟩:=x;exact zD e
 |frz ob u=>obtain⟨e,_⟩:=x;exact zD e
 |tbl ps=>exact zD (show h.get? a=some _ from x)
 |met f y=>exact zD (show h.get? a=some _ from x)
 |ext φ=>obtain⟨_,⟨_,e⟩,_⟩:=x;exact zD e
theorem Paired.mapP {α β:Type}{F G:α->β->Prop}:∀{l₁:List α} {l₂:List β},Paired F l₁ l₂->(∀a b,F a b->G a b)->Paired G l₁ l₂
 |_,_,.nil,_=> .nil
 |_,_,.cons r t,f=> .cons (f _ _ r) (Paired.mapP t f)
theorem q0j.stay (x:q0j P w H h a o)(k:∀b u,(b=a\/H b=some (.own a))->h.get? b=some u->h'.get? b=some u)
  (ho:∀b,H b=some (.own a)->H' b=some (.own a))(ht:∀b xs,H b=some (.tup xs)->H' b=some (.tup xs)):q0j P w H' h' a o:=by
 induction o with
 |lst xs=>obtain⟨z,its,n,r,e⟩:=x;exact⟨z,its,n,r,k _ _ (.inl rfl) e⟩
 |tup xs=>obtain⟨z,its,r,ob,e,c⟩:=x;exact⟨z,its,r,ob,k _ _ (.inl rfl) e,c⟩
 |dK kvs=>obtain⟨z,y,vs,r,ob,es,ep,e,c⟩:=x;exact⟨z,y,vs,r,ob,es,ep,k _ _ (.inl rfl) e,c⟩
 |dT kvs=>
  obtain⟨z,y,xs,r,ob,es,ep,e,c⟩:=x
  exact⟨z,y,xs,Paired.mapP r fun p q z=>⟨z.1,ht _ _ z.2.1,z.2.2⟩,ob,es,ep,k _ _ (.inl rfl) e,c⟩
 |set S n=>obtain⟨ob,es,ep,t,e,c⟩:=x;exact⟨ob,es,ep,t,k _ _ (.inl rfl) e,c⟩
 |ins C dx fs=>
  obtain⟨d,z,ne,e,mA,⟨od,es,ep,e2,c⟩,r⟩:=x
  exact⟨ho _ d,z,ne,k _ _ (.inl rfl) e,mA,⟨od,es,ep,k _ _ (.inr d) e2,c⟩,r⟩
 |own y=>obtain⟨ob,e⟩:=x;exact⟨ob,k _ _ (.inl rfl) e⟩
 |xd fs=>obtain⟨mA,⟨od,es,ep,e,c⟩,r⟩:=x;exact⟨mA,⟨od,es,ep,k _ _ (.inl rfl) e,c⟩,r⟩
 |rng lo hi=>obtain⟨t,u,v,e⟩:=x;exact⟨t,u,v,k _ _ (.inl rfl) e⟩
 |frz ob u ih=>obtain⟨e,q⟩:=x;exact⟨k _ _ (.inl rfl) e,ih q⟩
 |tbl ps=>
  have e:h.get? a=some {cls:= .none,data:= .fields ps}:=x
  show h'.get? a=some {cls:= .none,data:= .fields ps}
  exact k a _ (.inl rfl) e
 |met f y=>
  have e:h.get? a=some (PySem.W.methodObj (.ref f) (.ref y)):=x
  show h'.get? a=some (PySem.W.methodObj (.ref f) (.ref y))
  exact k a _ (.inl rfl) e
 |ext φ=>obtain⟨p,⟨o,e⟩,st⟩:=x;exact⟨st _ _ p fun o q=>k _ _ (.inl rfl) q,⟨o,k _ _ (.inl rfl) e⟩,st⟩
theorem HOk.lt (x:HOk P w H h)(e:H a=some o):a<h.objs.size:=(x a o e).lt
theorem HOk.fresh (x:HOk P w H h)(e:h.objs.size<=a):H a=none:=by
 cases q:H a with
 |none=>rfl
 |some u=>exact absurd (zR (x.lt q) e) (zbn _)
theorem HOk.kept (x:HOk P w H h)(k:∀b u,h.get? b=some u->h'.get? b=some u):HOk P w H h':=fun a o e=>
 (x a o e).stay (fun b u _ q=>k b u q) (fun _ q=>q) fun _ _ q=>q
theorem HOk.laid (x:HOk P w H h)(k:∀b u,h.get? b=some u->h'.get? b=some u)(hp:h.objs.size<=a)(new:q0j P w (upd H a o) h' a o):HOk P w (upd H a o) h':=fun b u e=>by
 have hn:=x.fresh hp
 by_cases hb:b=a
 ·subst hb;rw[qh] at e;cases e;exact new
 ·rw [qm hb] at e
  exact(x b u e).stay (fun c v _ q=>k c v q) (fun c q=>by rw[qm (ql q hn)];exact q) fun c xs q=>by rw[qm (ql q hn)];exact q
end
def Rd (H:Hp)(a:Addr)(u:HO):Prop:=H a=some u\/∃o,H a=some (.frz o u)
theorem Rd.ok {P:Program}{w:World}{H:Hp}{h:Heap}{a:Addr}{u:HO}(r:Rd H a u)(x:HOk P w H h):q0j P w H h a u:=by
 rcases r with r|⟨o,r⟩
 ·exact x a u r
 ·obtain ⟨_,q⟩:=x a _ r
  exact q
def Mut:Option HO->Prop
 |some (.lst _)=>True
 |some (.dK _)=>True
 |some (.dT _)=>True
 |some (.set _ _)=>True
 |some (.ins _ _ _)=>True
 |some (.ext _)=>True
 |_=>False
section
variable {P:Program}{w:World}{H:Hp}{h h':Heap}{x e:Addr}{o':HO}
theorem HOk.write (ok:HOk P w H h)(mu:Mut (H x))(he:e=x\/H e=some (.own x))(k:∀b u,b≠e->h.get? b=some u->h'.get? b=some u)(heo:∃u,h'.get? e=some u)
  (new:q0j P w (upd H x o') h' x o'):HOk P w (upd H x o') h':=fun b u q=>by
 have nown:∀c y,H c=some (.own y)->c≠x:=fun c y r z=>by subst z;rw[r] at mu;exact mu
 have ntup:∀c xs,H c=some (.tup xs)->c≠x:=fun c xs r z=>by subst z;rw[r] at mu;exact mu
 by_cases hb:b=x
 ·subst hb;rw[qh] at q;cases q;exact new
 ·rw [qm hb] at q
  by_cases hbe:b=e
  ·have q':H b=some (.own x):=by
    rcases he with z|z
    ·exact absurd (hbe.trans z) hb
    ·rw [hbe];exact z
   rw[q] at q';cases q'
   obtain⟨v,hv⟩:=heo
   exact⟨v,by rw[hbe];exact hv⟩
  ·refine (ok b u q).stay (fun c v hc r=>k c v ?_ r) (fun c r=>by rw[qm (nown c b r)];exact r) fun c xs r=>by rw[qm (ntup c xs r)];exact r
   rcases hc with rfl|hc
   ·exact hbe
   ·rintro rfl
    rcases he with z|z
    ·exact nown c b hc z
    ·rw [hc] at z;cases z;exact hb rfl
end
structure Un (fs ex:List Addr)(H H':Hp)(h h':Heap):Prop where
 keep:∀b o,h.get? b=some o->H b=none->b∉fs->b∉ex->h'.get? b=some o
 slot:∀b o,h.get? b=some o->H b=none->b∈fs->b∉ex->∃sl,h'.get? b=some {o with slots:=sl}
 free:∀b o,h.get? b=some o->H b=none->b∉ex->H' b=none
 there:∀b o,h.get? b=some o->b∉ex->∃o',h'.get? b=some o'
 tups:∀b xs,H b=some (.tup xs)->H' b=some (.tup xs)
 frzs:∀b o u,H b=some (.frz o u)->H' b=some (.frz o u)
 tbls:∀b ps,H b=some (.tbl ps)->∃more,H' b=some (.tbl (ps++more))
section
variable {fs fs' ex ex':List Addr}{H H1 H2:Hp}{h h1 h2 h':Heap}{a x e:Addr}{o:HO}
theorem Un.any (u:Un fs ex H H1 h h1){b:Addr}{ob:Obj}(q:h.get? b=some ob)(n:H b=none)(hx:b∉ex):∃sl,h1.get? b=some {ob with slots:=sl}:=by
 by_cases hb:b∈fs
 ·exact u.slot b ob q n hb hx
 ·exact ⟨ob.slots,u.keep b ob q n hb hx⟩
theorem Un.kept (k:∀b u,h.get? b=some u->h'.get? b=some u):Un fs ex H H h h':=
 ⟨fun b ob q _ _ _=>k b ob q,fun b ob q _ _ _=>⟨ob.slots,k b ob q⟩,fun _ _ _ n _=>n,fun b ob q _=>⟨ob,k b ob q⟩,fun _ _ q=>q,fun _ _ _ q=>q,fun _ ps q=>⟨#[],by rw[q];simp⟩⟩
theorem Un.refl:Un fs ex H H h h:=Un.kept fun _ _ q=>q
theorem Un.laid (k:∀b u,h.get? b=some u->h'.get? b=some u)(hp:h.objs.size<=a)(hn:H a=none):Un fs ex H (upd H a o) h h' where
 keep:=fun b u q _ _ _=>k b u q
 slot:=fun b u q _ _ _=>⟨u.slots,k b u q⟩
 free:=fun b u q n _=>by rw[qm (zP (zR (zD q) hp))];exact n
 there:=fun b u q _=>⟨u,k b u q⟩
 tups:=fun b xs q=>by rw[qm (ql q hn)];exact q
 frzs:=fun b u xs q=>by rw[qm (ql q hn)];exact q
 tbls:=fun b ps q=>⟨#[],by rw[qm (ql q hn),q];simp⟩
theorem Un.write (mu:Mut (H x))(he:e=x\/H e=some (.own x))(k:∀b u,b≠e->h.get? b=some u->h'.get? b=some u)(heo:∃u,h'.get? e=some u):Un fs ex H (upd H x o) h h':=by
 have hx:∀b,H b=none->b≠x:=fun b n z=>by subst z;rw[n] at mu;exact mu
 have hb:∀b,H b=none->b≠e:=fun b n z=>by
  subst z
  rcases he with r|r
  ·exact hx b n r
  ·rw [n] at r;cases r
 have hm:∀b u,H b=some u->¬Mut (some u)->b≠x:=fun b u q nm z=>by subst z;rw[q] at mu;exact nm mu
 refine⟨fun b u q n _ _=>k b u (hb b n) q,fun b u q n _ _=>⟨u.slots,k b u (hb b n) q⟩,fun b u q n _=>by rw[qm (hx b n)];exact n,fun b u q _=>?_,
  fun b xs q=>by rw[qm (hm b _ q fun z=>z)];exact q,fun b u xs q=>by rw[qm (hm b _ q fun z=>z)];exact q,fun b ps q=>⟨#[],by rw[qm (hm b _ q fun z=>z),q];simp⟩⟩
 by_cases hbe:b=e
 ·subst hbe;exact heo
 ·exact ⟨u,k b u hbe q⟩
end
def trk (h:Heap)(H:Hp):List Addr:=(List.range h.objs.size).filter fun a=>(H a).isSome
def hidT (h:Heap)(H:Hp):Heap:=PySem.W.hideAll h (trk h H)
theorem q8v (h:Heap)(H:Hp):(hidT h H).objs.size=h.objs.size:=PySem.W.hideAll_size _ _
theorem q9I {h:Heap}{H:Hp}{b:Addr}{o:Obj}(e:h.get? b=some o)(n:H b=none):(hidT h H).get? b=some o:=
 zaO _ e fun hm=>by
  have q:(H b).isSome=true:=(zbM.mp hm).2
  rw[n] at q;simp at q
theorem qbl {h:Heap}{H:Hp}{b:Addr}{o:Obj}(e:(hidT h H).get? b=some o):h.get? b=some o/\H b=none:=by
 have e':h.get? b=some o:=zbt (trk h H) e
 refine⟨e',?_⟩
 cases q:H b with
 |none=>rfl
 |some x=>
  have hm:b∈trk h H:=zbM.mpr ⟨List.mem_range.mpr (zD e'),by simp[q]⟩
  have z:(hidT h H).get? b=none:=zaS (trk h H) hm
  rw[z] at e;cases e
def qbZ (g h:Heap)(L:Addr):List (Addr×Obj):=(List.range h.objs.size).filterMap fun a=>if a=L\/(g.get? a).isSome=true then none else(h.get? a).map fun o=>(a,o)
def rest (g h:Heap)(L d:Addr):List (Addr×Obj):=(qbZ g h L).filter fun p=>decide (p.1≠d)
structure Mod (K:W.Frag)(mg:Str->Option Value)(base:Heap):Prop where
 kin:K.In base
 glob:base.Ns mainGlobals mg
 blt:∃mb,base.Ns builtinsNs mb/\∀x:Str,x≠"__name__"->mb x=bootBuiltins x
 nolimit:base.NoLimit
structure Cx where
 prog:Program
 w:World
 K:W.Frag
 mg:Str->Option Value
 base:Heap
 A:Around
 N:List Str
 s₀:Shared
 H₀:Hp
 env:Env
 outer:List Env
 stack:List Env
 ex:List Addr
 fn:Str->Bool
 calm:Bool
 pn:List (Addr×Obj)
 xe:Value->Shared->Prop
def frs (l:List Env):List Addr:=l.filterMap (·.frame)
abbrev Cx.fs (X:Cx):List Addr:=frs X.outer
def Vis (sc:Scope)(x:Str):Prop:=sc.names.lookup x=some .local\/sc.names.lookup x=some .cell\/sc.names.lookup x=some .free
def Loc (sc:Scope)(x:Str):Prop:=sc.names.lookup x=some .local\/sc.names.lookup x=some .cell
def Look (env:Env)(h:Heap)(m:Str->Option Value)(x:Str)(u:Value):Prop:=
 (env.kindOf x=some .local/\m x=some u)\/((env.kindOf x=some .cell\/env.kindOf x=some .free)/\∃c,env.cells.lookup x=some c/\h.IsCell c (some u))
structure Cx.Ok (X:Cx):Prop where
 mod:Mod X.K X.mg X.base
 kind:X.env.scope.kind= .function
 glob:X.env.globals=mainGlobals
 blt:X.env.builtins=builtinsNs
 above:X.s₀.heap.objs.size<=X.env.locals
 inj:∀x y c,X.env.cells.lookup x=some c->X.env.cells.lookup y=some c->x=y
 has:∀x,(X.env.kindOf x=some .cell\/X.env.kindOf x=some .free)->∃c,X.env.cells.lookup x=some c
 cab:∀x c,X.fn x=true->X.env.cells.lookup x=some c->X.s₀.heap.objs.size<=c
 hd:X.calm=true->X.A.handled=none
 frames:X.A.frames=some X.stack
 stk:X.stack=X.outer\/(X.stack=X.env::X.outer/\X.env.frame=some X.env.locals)
 exf:∀b∈X.ex,b≠X.env.locals/\∀x c,X.env.cells.lookup x=some c->c≠b
 bs:∀b o,X.base.get? b=some o->X.s₀.heap.get? b=some o/\X.H₀ b=none
 bsz:X.base.objs.size<=X.s₀.heap.objs.size
 noex:∀b o,X.base.get? b=some o->b∉X.ex
 exfs:∀b∈X.ex,b∉X.fs
 funs:X.s₀.heap.FunFrames X.base X.outer
 frf:∀b∈X.fs,X.H₀ b=none
structure Inv (X:Cx)(pins:List (Addr×Obj))(σ:List (Option V))(H:Hp)(s:Shared):Prop where
 ok:X.Ok
 os:s.os=X.s₀.os
 bare:AllBare s.gens
 base:Un X.fs X.ex X.H₀ H X.s₀.heap s.heap
 loc:∃m,s.heap.Ns X.env.locals m/\∀(i:Nat) (x:Str) (v:V),X.N[i]? =some x->σ[i]? =some (some v)->Vis X.env.scope x->∃u,RelV v u/\Look X.env s.heap m x u
 cell:∀x c,X.env.cells.lookup x=some c->∃v,s.heap.IsCell c v
 free:H X.env.locals=none
 freeC:∀x c,X.env.cells.lookup x=some c->H c=none
 pin:∀p∈X.pn++pins,s.heap.get? p.1=some p.2/\H p.1=none/\p.1≠X.env.locals/\p.1∉X.fs/\∀v,p.2.data≠ .cell v
 hok:HOk X.prog X.w H s.heap
 len:σ.length=X.N.length
section
variable {X:Cx}{pins:List (Addr×Obj)}{σ:List (Option V)}{H H':Hp}{s:Shared}{h':Heap}
theorem Cx.Ok.nofr (ok:X.Ok){b:Addr}{o:Obj}(e:X.base.get? b=some o):b∉X.fs:=fun hb=>by
 have:=(ok.funs.mem hb).1
 rw[e] at this;cases this
theorem Inv.bs (I:Inv X pins σ H s):∀b o,X.base.get? b=some o->s.heap.get? b=some o/\H b=none:=fun b o e=>
 ⟨I.base.keep b o (I.ok.bs b o e).1 (I.ok.bs b o e).2 (I.ok.nofr e) (I.ok.noex b o e),I.base.free b o (I.ok.bs b o e).1 (I.ok.bs b o e).2 (I.ok.noex b o e)⟩
theorem Inv.bk (I:Inv X pins σ H s):∀b o,X.base.get? b=some o->s.heap.get? b=some o:=fun b o e=>(I.bs b o e).1
theorem Inv.mod (I:Inv X pins σ H s):Mod X.K X.mg X.base:=I.ok.mod
theorem Inv.kIn (I:Inv X pins σ H s):X.K.In s.heap:=I.ok.mod.kin.keeps I.bk
theorem Inv.lt (I:Inv X pins σ H s):X.env.locals<s.heap.objs.size:=let ⟨_,hn,_⟩:=I.loc;hn.lt
theorem Inv.sz (I:Inv X pins σ H s):X.s₀.heap.objs.size<=s.heap.objs.size:=zap I.ok.above (Nat.le_of_lt I.lt)
theorem Inv.nofs (I:Inv X pins σ H s){a:Addr}(h:s.heap.objs.size<=a):a∉X.fs:=fun hb=>by
 obtain⟨_,o,ho,_⟩:=I.ok.funs.mem hb
 exact absurd (zR (zD ho) (zap I.sz h)) (zbn _)
theorem Inv.cne (I:Inv X pins σ H s):∀x c,X.env.cells.lookup x=some c->c≠X.env.locals:=fun x c e z=>by
 obtain⟨v,o,ho,hd⟩:=I.cell x c e
 obtain⟨m,⟨o',es,ep,ho',hd',_⟩,_⟩:=I.loc
 rw[z,ho'] at ho;cases ho;rw[hd'] at hd;cases hd
theorem Inv.funs (I:Inv X pins σ H s):s.heap.FunFrames X.base X.outer:=by
 have all:∀(l:List Env),(∀b∈frs l,b∈X.fs)->X.s₀.heap.FunFrames X.base l->s.heap.FunFrames X.base l:=by
  intro l
  induction l with
  |nil=>intro _ _;trivial
  |cons env r ih=>
   intro hs hl
   obtain⟨hk,⟨L,o,hf,hn,ho,hd⟩,hr⟩:=hl
   have hL:L∈X.fs:=hs L (by unfold frs;rw[List.filterMap_cons,hf];exact zam)
   obtain⟨sl,e⟩:=I.base.slot L o ho (I.ok.frf L hL) hL fun z=>I.ok.exfs L z hL
   exact⟨hk,⟨L,_,hf,hn,e,hd⟩,ih (fun b hb=>hs b (by unfold frs;rw[List.filterMap_cons,hf];exact zF _ hb)) hr⟩
 exact all X.outer (fun _ hb=>hb) I.ok.funs
theorem Inv.stack (I:Inv X pins σ H s):s.heap.FunFrames X.base X.stack:=by
 rcases I.ok.stk with e|⟨e,hf⟩
 ·rw [e];exact I.funs
 ·rw [e]
  obtain⟨m,hn,_⟩:=I.loc
  refine .cons (by rw[I.ok.kind];decide) hf hn ?_ I.funs
  exact zbN (zap I.ok.bsz I.ok.above)
theorem Inv.stkSub (I:Inv X pins σ H s):∀b∈frs X.stack,b∈X.env.locals::X.fs:=fun b hb=>by
 rcases I.ok.stk with e|⟨e,hf⟩
 ·rw [e] at hb;exact zF _ hb
 ·rw [e] at hb
  unfold frs at hb
  rw[List.filterMap_cons,hf] at hb
  exact hb
theorem Inv.stkFree (I:Inv X pins σ H s):∀b∈frs X.stack,H b=none:=fun b hb=>by
 rcases zJ.mp (I.stkSub b hb) with e|hb
 ·rw [e];exact I.free
 ·obtain ⟨_,o,ho,_⟩:=I.ok.funs.mem hb
  exact I.base.free b o ho (I.ok.frf b hb) fun z=>I.ok.exfs b z hb
theorem Inv.step {g':Array GenState}{t':Nat}{d':Drawn}{ch:List Addr}(I:Inv X pins σ H s)
  (hch:∀b∈ch,(b∈X.ex\/X.s₀.heap.objs.size<=b)/\b≠X.env.locals/\(∀x c,X.env.cells.lookup x=some c->c≠b)/\∀p∈X.pn++pins,p.1≠b)
  (keep:∀b o,b≠X.env.locals->b∉X.fs->b∉ch->s.heap.get? b=some o->H b=none->h'.get? b=some o)
  (slot:∀b o,b≠X.env.locals->b∈X.fs->b∉ch->s.heap.get? b=some o->H b=none->∃sl,h'.get? b=some {o with slots:=sl})(free:∀b o,b∉ch->s.heap.get? b=some o->H b=none->H' b=none)
  (there:∀b o,b∉ch->s.heap.get? b=some o->∃o',h'.get? b=some o')
  (tups:∀b xs,H b=some (.tup xs)->H' b=some (.tup xs))(frzs:∀b o u,H b=some (.frz o u)->H' b=some (.frz o u))(tbls:∀b ps,H b=some (.tbl ps)->∃more,H' b=some (.tbl (ps++more)))
  (ns:∀m,s.heap.Ns X.env.locals m->h'.Ns X.env.locals m)(hok:HOk X.prog X.w H' h')(hg:AllBare g'):
  Inv X pins σ H' {s with heap:=h',gens:=g',drawn:=d',toks:=t'}:=by
 have neL:∀b o,X.s₀.heap.get? b=some o->b≠X.env.locals:=fun b o e=>zP (zR (zD e) I.ok.above)
 have neC:∀b o,X.s₀.heap.get? b=some o->b∉X.ex->b∉ch:=fun b o e hx hb=>by
  rcases(hch b hb).1 with z|z
  ·exact hx z
  ·exact absurd (zR (zD e) z) (zbn _)
 have cellK:∀x c,X.env.cells.lookup x=some c->∀v,s.heap.IsCell c v->h'.IsCell c v:=fun x c e v ⟨o,ho,hd⟩=>by
  have nch:c∉ch:=fun z=>(hch c z).2.2.1 x c e rfl
  by_cases hc:c∈X.fs
  ·obtain ⟨sl,q⟩:=slot c o (I.cne x c e) hc nch ho (I.freeC x c e)
   exact⟨_,q,hd⟩
  ·exact ⟨o,keep c o (I.cne x c e) hc nch ho (I.freeC x c e),hd⟩
 refine⟨I.ok,I.os,hg,⟨fun b o e n hb hx=>?_,fun b o e n hb hx=>?_,fun b o e n hx=>?_,fun b o e hx=>?_,fun b xs e=>tups b xs (I.base.tups b xs e),fun b o xs e=>frzs b o xs (I.base.frzs b o xs e),fun b ps e=>?_⟩,?_,fun x c e=>?_,?_,fun x c e=>?_,fun p hp=>?_,hok,I.len⟩
 ·exact keep b o (neL b o e) hb (neC b o e hx) (I.base.keep b o e n hb hx) (I.base.free b o e n hx)
 ·obtain ⟨sl,e1⟩:=I.base.slot b o e n hb hx
  obtain⟨sl',e2⟩:=slot b _ (neL b o e) hb (neC b o e hx) e1 (I.base.free b o e n hx)
  exact⟨sl',e2⟩
 ·obtain ⟨o',e1⟩:=I.base.there b o e hx
  exact free b o' (neC b o e hx) e1 (I.base.free b o e n hx)
 ·obtain ⟨o',e1⟩:=I.base.there b o e hx
  exact there b o' (neC b o e hx) e1
 ·obtain ⟨m1,e1⟩:=I.base.tbls b ps e
  obtain⟨m2,e2⟩:=tbls b _ e1
  exact⟨m1++m2,by rw[e2,Array.append_assoc]⟩
 ·obtain ⟨m,hn,hl⟩:=I.loc
  refine⟨m,ns m hn,fun i x v e1 e2 e3=>?_⟩
  obtain⟨u,r,l⟩:=hl i x v e1 e2 e3
  refine⟨u,r,?_⟩
  rcases l with l|⟨k,c,e,z⟩
  ·exact .inl l
  ·exact .inr ⟨k,c,e,cellK x c e _ z⟩
 ·obtain ⟨v,z⟩:=I.cell x c e
  exact⟨v,cellK x c e v z⟩
 ·obtain ⟨m,⟨o,_,_,ho,_⟩,_⟩:=I.loc
  exact free _ o (fun z=>(hch _ z).2.1 rfl) ho I.free
 ·obtain ⟨v,o,ho,hd⟩:=I.cell x c e
  exact free c o (fun z=>(hch c z).2.2.1 x c e rfl) ho (I.freeC x c e)
 ·obtain ⟨e,n,ne,nf,d⟩:=I.pin p hp
  have nch:p.1∉ch:=fun z=>(hch p.1 z).2.2.2 p hp rfl
  exact⟨keep p.1 p.2 ne nf nch e n,free p.1 p.2 nch e n,ne,nf,d⟩
theorem Inv.un {t':Nat}(I:Inv X pins σ H s)(u:Un X.fs [] H H' s.heap h')(hok:HOk X.prog X.w H' h'):Inv X pins σ H' {s with heap:=h',toks:=t'}:=by
 obtain⟨m,⟨o,es,ep,ho,r⟩,_⟩:=id I.loc
 obtain⟨sl,hL⟩:=u.any ho I.free (by simp)
 exact I.step (g':=s.gens) (d':=s.drawn) (ch:=[]) (fun _ z=>nomatch z) (fun b o _ hb _ e n=>u.keep b o e n hb (by simp)) (fun b o _ hb _ e n=>u.slot b o e n hb (by simp)) (fun b o _ e n=>u.free b o e n (by simp)) (fun b o _ e=>u.there b o e (by simp)) u.tups u.frzs u.tbls (fun m' hm=>by
  obtain⟨o',es',ep',ho',r'⟩:=hm
  rw[ho] at ho';cases ho'
  exact⟨_,es',ep',hL,r'⟩) hok I.bare
theorem Inv.call {g':Array GenState}{t':Nat}{d':Drawn}{ch:List Addr}(I:Inv X pins σ H s)(u:Un (frs X.stack) ch H H' s.heap h')(hok:HOk X.prog X.w H' h')(hg:AllBare g')
  (hch:∀b∈ch,(b∈X.ex\/X.s₀.heap.objs.size<=b)/\b≠X.env.locals/\(∀x c,X.env.cells.lookup x=some c->c≠b)/\∀p∈X.pn++pins,p.1≠b):
  Inv X pins σ H' {s with heap:=h',gens:=g',drawn:=d',toks:=t'}:=by
 obtain⟨m,⟨o,es,ep,ho,r⟩,_⟩:=id I.loc
 obtain⟨sl,hL⟩:=u.any ho I.free fun z=>(hch _ z).2.1 rfl
 exact I.step (ch:=ch) hch (fun b o hL hb hc e n=>u.keep b o e n (fun z=>(zJ.mp (I.stkSub b z)).elim hL hb) hc) (fun b o _ _ hc e n=>u.any e n hc) (fun b o hc e n=>u.free b o e n hc) (fun b o hc e=>u.there b o e hc) u.tups u.frzs u.tbls (fun m' hm=>by
  obtain⟨o',es',ep',ho',r'⟩:=hm
  rw[ho] at ho';cases ho'
  exact⟨_,es',ep',hL,r'⟩) hok hg
theorem Inv.turned {t':Nat}{it:Addr}(I:Inv X pins σ H s)(k:∀b o,b≠it->s.heap.get? b=some o->h'.get? b=some o)(hn:H it=none)(hL:it≠X.env.locals)
  (h1:it∈X.ex\/X.s₀.heap.objs.size<=it)(h2:∀x c,X.env.cells.lookup x=some c->c≠it)(h3:∀p∈X.pn++pins,p.1≠it):Inv X pins σ H {s with heap:=h',toks:=t'}:=by
 have nit:∀b u,H b=some u->b≠it:=fun b u e z=>by rw[z,hn] at e;cases e
 refine I.step (g':=s.gens) (d':=s.drawn) (ch:=[it]) (fun b hb=>?_) (fun b o _ _ hc e _=>k b o (fun z=>hc (by simp[z])) e) (fun b o _ _ hc e _=>⟨o.slots,k b o (fun z=>hc (by simp[z])) e⟩) (fun _ _ _ _ n=>n)
  (fun b o hc e=>⟨o,k b o (fun z=>hc (by simp[z])) e⟩) (fun _ _ e=>e) (fun _ _ _ e=>e) (fun b ps e=>⟨#[],by rw[e];simp⟩) (fun m hm=>?_) (fun b u e=>?_) I.bare
 ·have e:b=it:=by simpa using hb
  subst e
  exact⟨h1,hL,h2,h3⟩
 ·obtain ⟨o,es,ep,ho,r⟩:=hm
  exact⟨o,es,ep,k _ o (Ne.symm hL) ho,r⟩
 ·refine (I.hok b u e).stay (fun c v hc q=>k c v ?_ q) (fun _ q=>q) fun _ _ q=>q
  rcases hc with z|z
  ·rw [z];exact nit b u e
  ·exact nit c _ z
theorem Inv.tok (I:Inv X pins σ H s)(t:Nat):Inv X pins σ H {s with toks:=t}:=I.un (h':=s.heap) (t':=t) Un.refl I.hok
theorem Inv.kept {t':Nat}(I:Inv X pins σ H s)(k:∀b u,s.heap.get? b=some u->h'.get? b=some u):Inv X pins σ H {s with heap:=h',toks:=t'}:=I.un (Un.kept k) (I.hok.kept k)
theorem Inv.laid {a:Addr}{o:HO}{t':Nat}(I:Inv X pins σ H s)(k:∀b u,s.heap.get? b=some u->h'.get? b=some u)(hp:s.heap.objs.size<=a)(new:q0j X.prog X.w (upd H a o) h' a o):
  Inv X pins σ (upd H a o) {s with heap:=h',toks:=t'}:=I.un (Un.laid k hp (I.hok.fresh hp)) (I.hok.laid k hp new)
theorem Inv.write {x e:Addr}{o:HO}{t':Nat}(I:Inv X pins σ H s)(mu:Mut (H x))(he:e=x\/H e=some (.own x))(k:∀b u,b≠e->s.heap.get? b=some u->h'.get? b=some u)(heo:∃u,h'.get? e=some u)
  (new:q0j X.prog X.w (upd H x o) h' x o):Inv X pins σ (upd H x o) {s with heap:=h',toks:=t'}:=I.un (Un.write mu he k heo) (I.hok.write mu he k heo new)
theorem Inv.pins_of {pins':List (Addr×Obj)}(I:Inv X pins σ H s)(h:∀p∈pins',s.heap.get? p.1=some p.2/\H p.1=none/\p.1≠X.env.locals/\p.1∉X.fs/\∀v,p.2.data≠ .cell v):Inv X pins' σ H s:=
 ⟨I.ok,I.os,I.bare,I.base,I.loc,I.cell,I.free,I.freeC,fun p hp=>(zad.mp hp).elim (fun z=>I.pin p (List.mem_append_left _ z)) (h p),I.hok,I.len⟩
theorem q4z {N:List Str}(hN:N.Nodup){i j:Nat}{x:Str}(a:N[i]? =some x)(b:N[j]? =some x):i=j:=by
 obtain⟨h1,e1⟩:=yA a
 obtain⟨h2,e2⟩:=yA b
 exact(List.getElem_inj hN).mp (e1.trans e2.symm)
theorem q4Z {M:Model}{A:Around}{E:Value->Shared->Prop}{i:Nat}{x:Str}{v:V}{u:Value}{Q:Unit->Shared->Prop}(I:Inv X pins σ H s)(hN:X.N.Nodup)(hi:X.N[i]? =some x)(hx:Loc X.env.scope x)(r:RelV v u)
  (h:∀s',Inv X pins (σ.set i (some v)) H s'->(∃a,Heap.SameBut a s.heap s'.heap/\(a=X.env.locals\/X.env.cells.lookup x=some a))->Q () s')(hf:X.fn x=true\/X.env.scope.names.lookup x=some .local:=by first|exact .inl rfl|exact .inr rfl|assumption):wpAny M A (storeName X.env x u) Q E s:=by
 obtain⟨m,hn,hl⟩:=id I.loc
 have hcls:(X.env.scope.kind== .class||(X.env.scope.kind== .module&&X.env.locals != X.env.globals))=false:=by rw[I.ok.kind];rfl
 have hiσ:i<σ.length:=by rw[I.len];exact(yA hi).1
 have cne:=I.cne
 have tracked:∀{a:Addr} {h':Heap},(∃o,s.heap.get? a=some o/\H a=none)->Heap.SameBut a s.heap h'->HOk X.prog X.w H h':=fun {a h'} ha hs b ob e=>by
  obtain⟨_,_,hfree⟩:=ha
  refine(I.hok b ob e).stay (fun c w' hc q=>(hs.2 c ?_).trans q) (fun _ q=>q) fun _ _ q=>q
  rintro rfl
  rcases hc with rfl|hc
  ·rw [hfree] at e;cases e
  ·rw [hfree] at hc;cases hc
 rcases hx with hk|hk
 ·refine wpAny_storeName_local hk hn (fun h' hn' hs=>?_) hcls
  obtain⟨oL,_,_,hoL,_⟩:=id hn
  refine h _ ⟨I.ok,I.os,I.bare,⟨fun b o e n hb hx=>?_,fun b o e n hb hx=>?_,I.base.free,fun b o e hx=>?_,I.base.tups,I.base.frzs,I.base.tbls⟩,⟨_,hn',fun j y v' e1 e2 e3=>?_⟩,fun y c e=>?_,I.free,I.freeC,fun p hp=>?_,tracked ⟨oL,hoL,I.free⟩ hs,by simpa using I.len⟩ ⟨_,hs,.inl rfl⟩
  ·exact (hs.2 b (zP (zR (zD e) I.ok.above))).trans (I.base.keep b o e n hb hx)
  ·obtain ⟨sl,e1⟩:=I.base.slot b o e n hb hx
   exact⟨sl,(hs.2 b (zP (zR (zD e) I.ok.above))).trans e1⟩
  ·obtain ⟨o',e1⟩:=I.base.there b o e hx
   exact⟨o',(hs.2 b (zP (zR (zD e) I.ok.above))).trans e1⟩
  ·by_cases hj:j=i
   ·subst hj
    rw[hi] at e1;cases e1
    rw[zbi hiσ] at e2
    cases e2
    exact⟨u,r,.inl ⟨hk,by simp⟩⟩
   ·rw [zbO (Ne.symm hj)] at e2
    obtain⟨u',r',q⟩:=hl j y v' e1 e2 e3
    refine⟨u',r',?_⟩
    rcases q with⟨k,e⟩|⟨k,c,e,z⟩
    ·refine .inl ⟨k,?_⟩
     have:y≠x:=fun e=>hj (q4z hN e1 (e▸hi))
     simp[this,e]
    ·exact .inr ⟨k,c,e,z.sameBut hs (cne y c e)⟩
  ·obtain ⟨w',z⟩:=I.cell y c e
   exact⟨w',z.sameBut hs (cne y c e)⟩
  ·obtain ⟨e,n,ne,nf,d⟩:=I.pin p hp
   exact⟨(hs.2 p.1 ne).trans e,n,ne,nf,d⟩
 ·have hfn:X.fn x=true:=by
   rcases hf with z|z
   ·exact z
   ·rw [z] at hk;cases hk
  obtain⟨c,hc⟩:=I.ok.has x (.inl hk)
  obtain⟨w',z⟩:=I.cell x c hc
  refine wpAny_storeName_cell I.ok.kind hk hc z (fun h' hc' hs=>?_)
  obtain⟨oc,hoc,hocd⟩:=id z
  refine h {s with heap:=h'} ⟨I.ok,I.os,I.bare,⟨fun b o e n hb hx=>?_,fun b o e n hb hx=>?_,I.base.free,fun b o e hx=>?_,I.base.tups,I.base.frzs,I.base.tbls⟩,⟨m,hn.sameBut hs (Ne.symm (cne x c hc)),fun j y v' e1 e2 e3=>?_⟩,fun y c' e=>?_,I.free,I.freeC,fun p hp=>?_,tracked ⟨oc,hoc,I.freeC x c hc⟩ hs,by simpa using I.len⟩ ⟨c,hs,.inr hc⟩
  ·exact (hs.2 b (zP (zR (zD e) (I.ok.cab x c hfn hc)))).trans (I.base.keep b o e n hb hx)
  ·obtain ⟨sl,e1⟩:=I.base.slot b o e n hb hx
   exact⟨sl,(hs.2 b (zP (zR (zD e) (I.ok.cab x c hfn hc)))).trans e1⟩
  ·obtain ⟨o',e1⟩:=I.base.there b o e hx
   exact⟨o',(hs.2 b (zP (zR (zD e) (I.ok.cab x c hfn hc)))).trans e1⟩
  ·by_cases hj:j=i
   ·subst hj
    rw[hi] at e1;cases e1
    rw[zbi hiσ] at e2
    cases e2
    exact⟨u,r,.inr ⟨.inl hk,c,hc,hc'⟩⟩
   ·rw [zbO (Ne.symm hj)] at e2
    obtain⟨u',r',q⟩:=hl j y v' e1 e2 e3
    refine⟨u',r',?_⟩
    rcases q with q|⟨k,c',e,z'⟩
    ·exact .inl q
    ·refine .inr ⟨k,c',e,z'.sameBut hs ?_⟩
     rintro rfl
     exact hj (q4z hN e1 (I.ok.inj _ _ _ e hc▸hi))
  ·by_cases hcc:c'=c
   ·subst hcc;exact⟨_,hc'⟩
   ·obtain ⟨w2,z2⟩:=I.cell y c' e
    exact⟨w2,z2.sameBut hs hcc⟩
  ·obtain ⟨e,n,ne,nf,d⟩:=I.pin p hp
   refine⟨(hs.2 p.1 ?_).trans e,n,ne,nf,d⟩
   intro q
   rw[q,hoc] at e
   have q':oc=p.2:=zE e
   exact d w' (by rw[<-q'];exact hocd)
theorem q3j {M:Model}{A:Around}{E:Value->Shared->Prop}{i:Nat}{x:Str}{v:V}{u:Value}{Q:Unit->Shared->Prop}(I:Inv X pins σ H s)(hN:X.N.Nodup)(hi:X.N[i]? =some x)(hx:Loc X.env.scope x)(r:RelV v u)
  (h:∀s',Inv X pins (σ.set i (some v)) H s'->Q () s')(hf:X.fn x=true\/X.env.scope.names.lookup x=some .local:=by first|exact .inl rfl|exact .inr rfl|assumption):wpAny M A (storeName X.env x u) Q E s:=
 q4Z I hN hi hx r (fun s' I' _=>h s' I') hf
theorem Inv.call' {s':Shared}{ch:List Addr}(I:Inv X pins σ H s)(ho:s'.os=s.os)(u:Un (frs X.stack) ch H H' s.heap s'.heap)(hok:HOk X.prog X.w H' s'.heap)(hg:AllBare s'.gens)
  (hch:∀b∈ch,(b∈X.ex\/X.s₀.heap.objs.size<=b)/\b≠X.env.locals/\(∀x c,X.env.cells.lookup x=some c->c≠b)/\∀p∈X.pn++pins,p.1≠b):Inv X pins σ H' s':=by
 obtain⟨h',g',d',t',o'⟩:=s'
 have e:o'=s.os:=ho
 subst e
 exact I.call (g':=g') (t':=t') (d':=d') u hok hg hch
end
abbrev XK:=Value->Option Addr->Hp->Prop
abbrev St:=List (Option V)
abbrev VK:=V->Hp->Prop
abbrev TE:=St->Hp->VK->Prop
abbrev TT:=St->Hp->(Bool->Hp->Prop)->Prop
abbrev TA:=St->Hp->(List V->Hp->Prop)->Prop
structure Ends where
 nx:St->Hp->Prop
 rt:VK
 bk:St->Hp->Prop:=fun _ _=>False
 ct:St->Hp->Prop:=fun _ _=>False
abbrev TS:=Ends->St->Hp->Prop
def EP (X:Cx)(pins:List (Addr×Obj))(σ:St)(Q:VK)(u:Value)(s':Shared):Prop:=∃v H',Inv X pins σ H' s'/\RelV v u/\Q v H'
def TP (X:Cx)(pins:List (Addr×Obj))(σ:St)(Q:Bool->Hp->Prop)(b:Bool)(s':Shared):Prop:=∃H',Inv X pins σ H' s'/\Q b H'
def AP (X:Cx)(pins:List (Addr×Obj))(σ:St)(Q:List V->Hp->Prop)(us:List Value)(s':Shared):Prop:=∃vs H',Inv X pins σ H' s'/\Vals vs us/\Q vs H'
def SP (X:Cx)(pins:List (Addr×Obj))(D:Ends)(f:Flow)(s':Shared):Prop:=
 match f with
 | .next=>∃σ' H',Inv X pins σ' H' s'/\D.nx σ' H'
 | .brk=>∃σ' H',Inv X pins σ' H' s'/\D.bk σ' H'
 | .cont=>∃σ' H',Inv X pins σ' H' s'/\D.ct σ' H'
 | .ret u=>∃v σ' H',Inv X pins σ' H' s'/\RelV v u/\D.rt v H'
def PE (X:Cx)(e:Expr)(t:TE):Prop:=
 ∀(pins:List (Addr×Obj)) (s:Shared) (σ:St) (H:Hp) (Q:VK),Inv X pins σ H s->t σ H Q->wpAny (model X.prog X.w) X.A (eval e X.env) (EP X pins σ Q) X.xe s
def PT (X:Cx)(e:Expr)(t:TT):Prop:=
 ∀(pins:List (Addr×Obj)) (s:Shared) (σ:St) (H:Hp) (Q:Bool->Hp->Prop),Inv X pins σ H s->t σ H Q->wpAny (model X.prog X.w) X.A (isTrue e X.env (eval e X.env)) (TP X pins σ Q) X.xe s
def PW (X:Cx)(e:Expr)(t:TT):Prop:=
 ∀(whole:Sem Value) (pins:List (Addr×Obj)) (s:Shared) (σ:St) (H:Hp) (Q:Bool->Hp->Prop),Inv X pins σ H s->t σ H Q->wpAny (model X.prog X.w) X.A (isTrue e X.env whole) (TP X pins σ Q) X.xe s
theorem PW.pt {X:Cx}{e:Expr}{t:TT}(h:PW X e t):PT X e t:=h _
def PA (X:Cx)(es:List Expr)(t:TA):Prop:=
 ∀(pos:Pos) (pins:List (Addr×Obj)) (s:Shared) (σ:St) (H:Hp) (Q:List V->Hp->Prop),Inv X pins σ H s->t σ H Q->wpAny (model X.prog X.w) X.A (spliced (backTo pos (starEach es X.env))) (AP X pins σ Q) X.xe s
def PS (X:Cx)(st:Stmt)(t:TS):Prop:=
 ∀(pins:List (Addr×Obj)) (s:Shared) (σ:St) (H:Hp) (D:Ends),Inv X pins σ H s->t D σ H->wpAny (model X.prog X.w) X.A (exec st X.env) (SP X pins D) X.xe s
def PSs (X:Cx)(st:List Stmt)(t:TS):Prop:=
 ∀(pins:List (Addr×Obj)) (s:Shared) (σ:St) (H:Hp) (D:Ends),Inv X pins σ H s->t D σ H->wpAny (model X.prog X.w) X.A (execs st X.env) (SP X pins D) X.xe s
theorem thn {α:Type}{t:Sem α}{Q Q':α->Shared->Prop}{M:Model}{A:Around}{E:Value->Shared->Prop}{s:Shared}(h:wpAny M A t Q E s)(hQ:∀a s,Q a s->Q' a s):wpAny M A t Q' E s:=zZ h hQ fun _ _ x=>x
section
variable {X:Cx}
def tVar (i:Nat):TE:=fun σ H Q=>∃v,σ[i]? =some (some v)/\Q v H
def tC (v:V):TE:=fun _ H Q=>Q v H
theorem pe_var {i:Nat}{x:Str}{pos:Pos}(hN:X.N[i]? =some x)(hv:Vis X.env.scope x)(hd:(x==("__debug__":Str))=false:=by decide)(hcd:(x==("__classdict__":Str))=false:=by decide):PE X (.Name x pos) (tVar i):=by
 intro pins s σ H Q I h
 obtain⟨v,e,h⟩:=h
 obtain⟨m,hn,hl⟩:=I.loc
 obtain⟨u,r,l⟩:=hl i x v hN e hv
 have fin:EP X pins σ Q u s:=⟨v,H,I,r,h⟩
 rcases l with⟨hk,hm⟩|⟨hk,c,hc,hcell⟩
 ·exact wpAny_Name (wpAny_loadName_local I.ok.kind hk hn hm fin) hd
 ·rcases hk with hk|hk
  ·exact wpAny_Name (wpAny_loadName_cell I.ok.kind hk hc hcell fin) hd
  ·exact wpAny_Name (wpAny_loadName_free I.ok.kind hk hc hcell fin hcd) hd
theorem qd {i j pos}:PE X (.Constant (.int i) j pos) (tC (.int i)):=fun _ _ _ H _ I h=>wpAny_Constant_int ⟨.int i,H,I.tok _,⟨_,rfl⟩,h⟩
theorem q2F {b j pos}:PE X (.Constant (.bool b) j pos) (tC (.bl b)):=fun _ _ _ H _ I h=>Constant_bool ⟨.bl b,H,I,rfl,h⟩
theorem q3C {j pos}:PE X (.Constant .none j pos) (tC .non):=fun _ _ _ H _ I h=>Constant_none ⟨.non,H,I,rfl,h⟩
theorem qk {x j pos}:PE X (.Constant (.str x) j pos) (tC (.str x)):=fun _ _ _ H _ I h=>Calls.Constant_str ⟨.str x,H,I.tok _,⟨_,rfl⟩,h⟩
def Gl (X:Cx)(x:Str):Prop:=X.env.kindOf x=some .globalImplicit
theorem q1g {E:Value->Shared->Prop}{pins:List (Addr×Obj)}{s:Shared}{σ:St}{H:Hp}{x:Str}{u:Value}{pos:Pos}{Q:Value->Shared->Prop}(I:Inv X pins σ H s)(hg:Gl X x)(hm:X.mg x=some u)(h:Q u s)
  (hd:(x==("__debug__":Str))=false:=by decide):wpAny (model X.prog X.w) X.A (eval (.Name x pos) X.env) Q E s:=
 zcc I.ok.kind hg (Calls.loadGlobal_global (by rw[I.ok.glob];exact I.mod.glob.keeps I.bk) hm h) hd
theorem q3J {E:Value->Shared->Prop}{pins:List (Addr×Obj)}{s:Shared}{σ:St}{H:Hp}{x:Str}{u:Value}{pos:Pos}{Q:Value->Shared->Prop}(I:Inv X pins σ H s)(hg:Gl X x)(hm:X.mg x=none)(hv:bootBuiltins x=some u)(h:Q u s)
  (hn:x≠"__name__":=by decide)(hd:(x==("__debug__":Str))=false:=by decide):wpAny (model X.prog X.w) X.A (eval (.Name x pos) X.env) Q E s:=by
 obtain⟨mb,h1,h2⟩:=I.mod.blt
 exact zcc I.ok.kind hg (Calls.loadGlobal_builtin (by rw[I.ok.glob];exact I.mod.glob.keeps I.bk) hm (by rw[I.ok.blt];exact h1.keeps I.bk) ((h2 x hn).trans hv) h) hd
theorem qz {x:Str}{v:V}{u:Value}{pos:Pos}(hg:Gl X x)(hm:X.mg x=some u)(r:RelV v u)(hd:(x==("__debug__":Str))=false:=by decide):PE X (.Name x pos) (tC v):=
 fun _ _ _ H _ I h=>q1g I hg hm ⟨v,H,I,r,h⟩ hd
theorem q3D {x:Str}{v:V}{u:Value}{pos:Pos}(hg:Gl X x)(hm:X.mg x=none)(hv:bootBuiltins x=some u)(r:RelV v u)(hn:x≠"__name__":=by decide)(hd:(x==("__debug__":Str))=false:=by decide):PE X (.Name x pos) (tC v):=
 fun _ _ _ H _ I h=>q3J I hg hm hv ⟨v,H,I,r,h⟩ hn hd
variable {a b:Expr}{ta tb:TE}{pos:Pos}
def PC (X:Cx)(op:CmpOp)(a b:Expr)(t:TE):Prop:=
 ∀(pins:List (Addr×Obj)) (s:Shared) (σ:St) (H:Hp) (Q:VK),Inv X pins σ H s->t σ H Q->
  wpAny (model X.prog X.w) X.A (eval a X.env) (fun v s₁=>wpAny (model X.prog X.w) X.A (eval b X.env) (fun u s₂=>wpAny (model X.prog X.w) X.A (compareOp op v u) (EP X pins σ Q) X.xe s₂) X.xe s₁) X.xe s
theorem q6r (b:Expr){op:CmpOp}(h:op≠ .In)(h2:op≠ .NotIn):behindInMarks op b=false:=by
 have e1:(op==CmpOp.In)=false:=by cases op<;>first|rfl|exact absurd rfl h
 have e2:(op==CmpOp.NotIn)=false:=by cases op<;>first|rfl|exact absurd rfl h2
 cases b<;>simp[behindInMarks,e1,e2]
def tIsN (ta:TE):TE:=fun σ H Q=>ta σ H fun x H1=>Q (.bl (decide (x= .non))) H1
def tNotN (ta:TE):TE:=fun σ H Q=>ta σ H fun x H1=>Q (.bl (!decide (x= .non))) H1
theorem RelV.none_iff {x:V}{v:Value}(r:RelV x v):(v==Value.none)=decide (x= .non):=by
 cases x with
 |non=>cases r;rfl
 |bl _=>cases r;rfl
 |int _=>obtain⟨t,rfl⟩:=r;rfl
 |str _=>obtain⟨t,rfl⟩:=r;rfl
 |byt _=>obtain⟨t,rfl⟩:=r;rfl
 |flt _=>obtain⟨t,rfl⟩:=r;rfl
 |ref _=>cases r;rfl
 |ty _=>cases r;rfl
theorem q5j {j pos'}(ha:PE X a ta):PC X .Is a (.Constant .none j pos') (tIsN ta):=by
 intro pins s σ H Q I h
 refine thn (ha pins s σ H _ I h) fun v s1 ⟨x,H1,I1,r1,q1⟩=>?_
 exact Constant_none (is_none_gen ⟨.bl _,H1,I1,by rw[r1.none_iff];rfl,q1⟩)
theorem q80 {j pos'}(ha:PE X a ta):PC X .IsNot a (.Constant .none j pos') (tNotN ta):=by
 intro pins s σ H Q I h
 refine thn (ha pins s σ H _ I h) fun v s1 ⟨x,H1,I1,r1,q1⟩=>?_
 exact Constant_none (isnot_none_gen ⟨.bl _,H1,I1,by rw[r1.none_iff];rfl,q1⟩)
def tB (t:TE):TT:=fun σ H Q=>t σ H fun x H1=>∃c,x= .bl c/\Q c H1
theorem qab {op:CmpOp}{t:TE}(h:PC X op a b t)(h1:behindInMarks op b=false:=by first|exact q6r _ (by decide) (by decide)|rfl):PE X (.Compare a [op] [b] pos) t:=fun pins s σ H Q I hw=>wpAny_Compare1 (h pins s σ H Q I hw) h1
theorem q2p {op:CmpOp}{t:TE}(h:PC X op a b t)(h1:behindInMarks op b=false:=by first|exact q6r _ (by decide) (by decide)|rfl):PT X (.Compare a [op] [b] pos) (tB t):=by
 intro pins s σ H Q I hw
 refine wpAny_isTrue_Compare1 (thn (h pins s σ H _ I hw) fun v s1 h1=>thn h1 fun u s2 h2=>thn h2 fun c s3 ⟨x,H1,I1,r1,q1⟩=>?_) h1
 obtain⟨d,rfl,q⟩:=q1
 cases r1
 exact za6 ⟨H1,I1,q⟩
theorem q1a {e:Expr}{t:TE}(h:PE X e t)(he:∀whole,isTrue e X.env whole=(do let v<-whole;standAt e.pos;holding [v] (truthy v)):=by intro _;rfl):PT X e (tB t):=by
 intro pins s σ H Q I hw
 refine isTrue_plain (thn (h pins s σ H _ I hw) fun v s1 ⟨x,H1,I1,r1,q1⟩=>?_) (he _)
 obtain⟨d,rfl,q⟩:=q1
 cases r1
 exact za6 ⟨H1,I1,q⟩
variable {tA tB':TT}{rest:List Expr}
def tAnd (t u:TT):TT:=fun σ H Q=>t σ H fun c H1=>if c=true then u σ H1 Q else Q false H1
def tOr (t u:TT):TT:=fun σ H Q=>t σ H fun c H1=>if c=true then Q true H1 else u σ H1 Q
def tNot (t:TT):TT:=fun σ H Q=>t σ H fun c H1=>Q (!c) H1
theorem q2x (ha:PT X a tA):PW X (.BoolOp .And [a] pos) tA:=by
 intro wh pins s σ H Q I h
 refine isTrue_and (thn (ha pins s σ H Q I h) fun c s1 e=>?_)
 cases c with
 |true=>exact isTrue_and_nil e
 |false=>exact e
theorem q1i (ha:PT X a tA):PW X (.BoolOp .Or [a] pos) tA:=by
 intro wh pins s σ H Q I h
 refine isTrue_or (thn (ha pins s σ H Q I h) fun c s1 e=>?_)
 cases c with
 |false=>exact isTrue_or_nil e
 |true=>exact e
theorem q3c (ha:PT X a tA)(hb:PW X (.BoolOp .And (b::rest) pos) tB'):PW X (.BoolOp .And (a::b::rest) pos) (tAnd tA tB'):=by
 intro wh pins s σ H Q I h
 refine isTrue_and (thn (ha pins s σ H _ I h) fun c s1 ⟨H1,I1,q1⟩=>?_)
 cases c with
 |true=>exact hb wh pins s1 σ H1 Q I1 q1
 |false=>exact⟨H1,I1,q1⟩
theorem q23 (ha:PT X a tA)(hb:PW X (.BoolOp .Or (b::rest) pos) tB'):PW X (.BoolOp .Or (a::b::rest) pos) (tOr tA tB'):=by
 intro wh pins s σ H Q I h
 refine isTrue_or (thn (ha pins s σ H _ I h) fun c s1 ⟨H1,I1,q1⟩=>?_)
 cases c with
 |true=>exact⟨H1,I1,q1⟩
 |false=>exact hb wh pins s1 σ H1 Q I1 q1
theorem q1S (ha:PT X a tA):PT X (.UnaryOp .Not a pos) (tNot tA):=by
 intro pins s σ H Q I h
 exact isTrue_not (ha pins s σ H (fun c H1=>Q (!c) H1) I h)
def tAndV (ta tb:TE):TE:=fun σ H Q=>ta σ H fun x H1=>∃c,x= .bl c/\if c=true then tb σ H1 Q else Q (.bl false) H1
def tOrV (ta tb:TE):TE:=fun σ H Q=>ta σ H fun x H1=>∃c,x= .bl c/\if c=true then Q (.bl true) H1 else tb σ H1 Q
theorem q46 {op}{t:TE}(h:PE X a t):PE X (.BoolOp op [a] pos) t:=fun pins s σ H Q I hw=>BoolOp_one (h pins s σ H Q I hw)
theorem q6n (ha:PE X a ta)(hb:PE X (.BoolOp .And (b::rest) pos) tb):PE X (.BoolOp .And (a::b::rest) pos) (tAndV ta tb):=by
 intro pins s σ H Q I h
 refine BoolOp_and (thn (ha pins s σ H _ I h) fun v s1 ⟨x,H1,I1,r1,q1⟩=>?_)
 obtain⟨c,rfl,q1⟩:=q1
 cases r1
 refine za6 ?_
 cases c with
 |true=>exact hb pins s1 σ H1 Q I1 q1
 |false=>exact⟨.bl false,H1,I1,rfl,q1⟩
theorem pe_or (ha:PE X a ta)(hb:PE X (.BoolOp .Or (b::rest) pos) tb):PE X (.BoolOp .Or (a::b::rest) pos) (tOrV ta tb):=by
 intro pins s σ H Q I h
 refine BoolOp_or (thn (ha pins s σ H _ I h) fun v s1 ⟨x,H1,I1,r1,q1⟩=>?_)
 obtain⟨c,rfl,q1⟩:=q1
 cases r1
 refine za6 ?_
 cases c with
 |false=>exact hb pins s1 σ H1 Q I1 q1
 |true=>exact⟨.bl true,H1,I1,rfl,q1⟩
def tIf (t:TT)(ta tb:TE):TE:=fun σ H Q=>t σ H fun c H1=>if c=true then ta σ H1 Q else tb σ H1 Q
theorem q4w {c:Expr}(hc:PT X c tA)(ha:PE X a ta)(hb:PE X b tb):PE X (.IfExp c a b pos) (tIf tA ta tb):=by
 intro pins s σ H Q I h
 refine wpAny_IfExp (thn (hc pins s σ H _ I h) fun d s1 ⟨H1,I1,q1⟩=>?_)
 cases d with
 |true=>exact ha pins s1 σ H1 Q I1 q1
 |false=>exact hb pins s1 σ H1 Q I1 q1
end
def SqL (K:W.Frag)(H:Hp)(a:Addr)(xs:List V):Prop:=
 Rd H a (.lst xs)\/
  ∃(o:Obj) (its:Array Value) (n:Nat),K.lookup a=some o/\o.cls= .type "list"/\o.dict=none/\o.data= .seq its n/\its.size<=sizeLine/\Vals xs its.toList
def SqT (K:W.Frag)(H:Hp)(a:Addr)(xs:List V):Prop:=
 Rd H a (.tup xs)\/
  ∃(o:Obj) (its:Array Value) (n:Nat),K.lookup a=some o/\o.cls= .type "tuple"/\o.data= .seq its n/\its.size<=sizeLine/\Vals xs its.toList
def absV:Value->Option V
 | .none=>some .non
 | .bool b=>some (.bl b)
 | .int i _=>some (.int i)
 | .str x _=>some (.str x)
 | .bytes b _=>some (.byt b)
 | .float b _=>some (.flt b)
 | .ref a=>some (.ref a)
 | .type n=>some (.ty n)
 |_=>none
theorem RelV.abs {x:V}{u:Value}(r:RelV x u):absV u=some x:=by
 cases x with
 |non=>cases r;rfl
 |bl _=>cases r;rfl
 |int _=>obtain⟨t,rfl⟩:=r;rfl
 |str _=>obtain⟨t,rfl⟩:=r;rfl
 |byt _=>obtain⟨t,rfl⟩:=r;rfl
 |flt _=>obtain⟨t,rfl⟩:=r;rfl
 |ref _=>cases r;rfl
 |ty _=>cases r;rfl
theorem RelV.inj {x y:V}{u:Value}(r:RelV x u)(q:RelV y u):x=y:=zE (r.abs.symm.trans q.abs)
theorem Vals.inj:∀{xs ys:List V} {us:List Value},Vals xs us->Vals ys us->xs=ys
 |_,_,_,.nil,.nil=>rfl
 |_,_,_,.cons r t,.cons r' t'=>by rw[r.inj r',Vals.inj t t']
section
variable {X:Cx}{pins:List (Addr×Obj)}{σ:St}{H:Hp}{s:Shared}{a:Addr}{xs ys:List V}
theorem SqL.of {K:W.Frag}(h:H a=some (.lst xs)):SqL K H a xs:= .inl (.inl h)
theorem SqT.of {K:W.Frag}(h:H a=some (.tup xs)):SqT K H a xs:= .inl (.inl h)
theorem Inv.list (I:Inv X pins σ H s)(h:SqL X.K H a xs):∃its:List Value,Vals xs its/\PlainL s.heap a its.toArray/\xs.length<=sizeLine:=by
 rcases h with h|⟨o,its,n,hk,hc,hd,hs,hz,r⟩
 ·obtain ⟨z,its,n,r,e⟩:=h.ok I.hok
  exact⟨its,r,⟨_,n,e,rfl,rfl,rfl⟩,z⟩
 ·refine ⟨its.toList,r,⟨o,n,I.kIn a o hk,hc,hd,by simpa using hs⟩,?_⟩
  have e:=r.length
  simp only[Array.length_toList] at e
  omega
theorem Inv.tuple (I:Inv X pins σ H s)(h:SqT X.K H a xs):∃its:List Value,Vals xs its/\IsTup s.heap a its.toArray/\xs.length<=sizeLine:=by
 rcases h with h|⟨o,its,n,hk,hc,hs,hz,r⟩
 ·obtain ⟨z,its,r,p⟩:=h.ok I.hok
  exact⟨its,r,p,z⟩
 ·refine ⟨its.toList,r,⟨o,I.kIn a o hk,hc,n,by simpa using hs⟩,?_⟩
  have e:=r.length
  simp only[Array.length_toList] at e
  omega
theorem Inv.list_inj (I:Inv X pins σ H s)(h:SqL X.K H a xs)(h':SqL X.K H a ys):xs=ys:=by
 obtain⟨its,r,⟨o,n,e,_,_,d⟩,_⟩:=I.list h
 obtain⟨its',r',⟨o',n',e',_,_,d'⟩,_⟩:=I.list h'
 rw[e] at e';cases e'
 rw[d] at d'
 injection d' with d1 _
 have:its=its':=by simpa using zbj Array.toList d1
 subst this
 exact r.inj r'
theorem Inv.tuple_inj (I:Inv X pins σ H s)(h:SqT X.K H a xs)(h':SqT X.K H a ys):xs=ys:=by
 obtain⟨its,r,⟨o,e,_,n,d⟩,_⟩:=I.tuple h
 obtain⟨its',r',⟨o',e',_,n',d'⟩,_⟩:=I.tuple h'
 rw[e] at e';cases e'
 rw[d] at d'
 injection d' with d1 _
 have:its=its':=by simpa using zbj Array.toList d1
 subst this
 exact r.inj r'
end
abbrev Cx.wish (X:Cx)(E:Value->Shared->Prop):Cx:={X with xe:=E}
abbrev Cx.nox (X:Cx):Cx:=X.wish fun _ _=>False
theorem Cx.Ok.wish {X:Cx}(ok:X.Ok)(E:Value->Shared->Prop):(X.wish E).Ok:=
 ⟨ok.mod,ok.kind,ok.glob,ok.blt,ok.above,ok.inj,ok.has,ok.cab,ok.hd,ok.frames,ok.stk,ok.exf,ok.bs,ok.bsz,ok.noex,ok.exfs,ok.funs,ok.frf⟩
theorem Cx.Ok.unwish {X:Cx}{E:Value->Shared->Prop}(ok:(X.wish E).Ok):X.Ok:=
 ⟨ok.mod,ok.kind,ok.glob,ok.blt,ok.above,ok.inj,ok.has,ok.cab,ok.hd,ok.frames,ok.stk,ok.exf,ok.bs,ok.bsz,ok.noex,ok.exfs,ok.funs,ok.frf⟩
section
variable {X:Cx}{pins:List (Addr×Obj)}{σ:St}{H:Hp}{s:Shared}{E:Value->Shared->Prop}
theorem Inv.wish (I:Inv X pins σ H s)(E:Value->Shared->Prop):Inv (X.wish E) pins σ H s:=⟨I.ok.wish E,I.os,I.bare,I.base,I.loc,I.cell,I.free,I.freeC,I.pin,I.hok,I.len⟩
theorem Inv.unwish (I:Inv (X.wish E) pins σ H s):Inv X pins σ H s:=⟨I.ok.unwish,I.os,I.bare,I.base,I.loc,I.cell,I.free,I.freeC,I.pin,I.hok,I.len⟩
theorem SP.unwish {D:Ends}{f:Flow}{s':Shared}(h:SP (X.wish E) pins D f s'):SP X pins D f s':=by
 cases f with
 |next=>obtain⟨σ',H',I,q⟩:=h;exact⟨σ',H',I.unwish,q⟩
 |brk=>obtain⟨σ',H',I,q⟩:=h;exact⟨σ',H',I.unwish,q⟩
 |cont=>obtain⟨σ',H',I,q⟩:=h;exact⟨σ',H',I.unwish,q⟩
 |ret u=>obtain⟨v,σ',H',I,r,q⟩:=h;exact⟨v,σ',H',I.unwish,r,q⟩
theorem PSs.nox {st:List Stmt}{t:TS}(h:PSs X.nox st t):PSs X st t:=fun pins s σ H D I hw=>
 zZ (h pins s σ H D (I.wish _) hw) (fun _ _ q=>q.unwish) fun _ _ z=>False.elim z
end
section
variable {X:Cx}{st:Stmt}{rest:List Stmt}{t u:TS}{e:Expr}{te:TE}{pos:Pos}
def tNext:TS:=fun D σ H=>D.nx σ H
def tSeq (t u:TS):TS:=fun D σ H=>t {D with nx:=u D} σ H
theorem qy:PSs X [] tNext:=fun _ _ σ H _ I h=>zbq ⟨σ,H,I,h⟩
theorem qg (h1:PS X st t)(h2:PSs X rest u):PSs X (st::rest) (tSeq t u):=by
 intro pins s σ H D I h
 refine zbH (thn (h1 pins s σ H {D with nx:=u D} I h) fun f s1 q=>?_)
 cases f with
 |next=>
  obtain⟨σ',H',I',q⟩:=q
  exact h2 pins s1 σ' H' D I' q
 |ret v=>exact q
 |brk=>exact q
 |cont=>exact q
theorem qj (h1:PS X st t):PSs X [st] t:=by
 intro pins s σ H D I h
 refine zbH (thn (h1 pins s σ H D I h) fun f s1 q=>?_)
 cases f with
 |next=>exact zbq q
 |ret v=>exact q
 |brk=>exact q
 |cont=>exact q
theorem Inv.quiet {pins:List (Addr×Obj)}{σ:St}{H:Hp}{s:Shared}(I:Inv X pins σ H s):interactive X.env=false:=by simp[interactive,I.ok.kind]
def tDrop (te:TE):TS:=fun D σ H=>te σ H fun _ H1=>D.nx σ H1
theorem qT (he:PE X e te)(hs:swapsWith e none pos.line X.env=pure false:=by rfl):PS X (.Expr e pos) (tDrop te):=by
 intro pins s σ H D I h
 exact wpAny_Expr_any (thn (he pins s σ H _ I h) fun v s1 ⟨x,H1,I1,r1,q1⟩=>⟨σ,H1,I1,q1⟩) I.quiet hs
def tRet (te:TE):TS:=fun D σ H=>te σ H D.rt
theorem qw (he:PE X e te):PS X (.Return (some e) pos) (tRet te):=by
 intro pins s σ H D I h
 exact wpAny_Return_some (thn (he pins s σ H _ I h) fun v s1 ⟨x,H1,I1,r1,q1⟩=>⟨x,σ,H1,I1,r1,q1⟩)
def tIfS (c:TT)(t u:TS):TS:=fun D σ H=>c σ H fun b H1=>if b=true then t D σ H1 else u D σ H1
theorem qQ {c:Expr}{a b:List Stmt}{tc:TT}(hc:PT X c tc)(ha:PSs X a t)(hb:PSs X b u):PS X (.If c a b pos) (tIfS tc t u):=by
 intro pins s σ H D I h
 refine wpAny_If (thn (hc pins s σ H _ I h) fun d s1 ⟨H1,I1,q1⟩=>?_)
 cases d with
 |true=>exact ha pins s1 σ H1 D I1 q1
 |false=>exact hb pins s1 σ H1 D I1 q1
def tNever:TS:=fun _ _ _=>False
theorem q9h:PS X st tNever:=fun _ _ _ _ _ _ h=>h.elim
end
abbrev TG:=V->St->Hp->(St->Hp->Prop)->Prop
abbrev TGs:=List V->St->Hp->(St->Hp->Prop)->Prop
def PG (X:Cx)(target:Expr)(t:TG):Prop:=
 ∀(pins:List (Addr×Obj)) (s:Shared) (σ:St) (H:Hp) (v:V) (u:Value) (Q:St->Hp->Prop),Inv X pins σ H s->RelV v u->t v σ H Q->
  wpAny (model X.prog X.w) X.A (assign target X.env u) (fun _ s'=>∃σ' H',Inv X pins σ' H' s'/\Q σ' H') X.xe s
def PGs (X:Cx)(ts:List Expr)(t:TGs):Prop:=
 ∀(pins:List (Addr×Obj)) (s:Shared) (σ:St) (H:Hp) (vs:List V) (us:List Value) (Q:St->Hp->Prop),Inv X pins σ H s->Vals vs us->t vs σ H Q->
  wpAny (model X.prog X.w) X.A (assignInOrder ((assignEach ts X.env).map (·.2)) us) (fun _ s'=>∃σ' H',Inv X pins σ' H' s'/\Q σ' H') X.xe s
abbrev TSet:=V->V->V->Hp->(Hp->Prop)->Prop
def PSet (X:Cx)(t:TSet):Prop:=
 ∀(pins:List (Addr×Obj)) (s:Shared) (σ:St) (H:Hp) (o i v:V) (ov iv u:Value) (Q:Hp->Prop),Inv X pins σ H s->RelV o ov->RelV i iv->RelV v u->t o i v H Q->
  wpAny (model X.prog X.w) X.A (setItem ov iv u) (fun _ s'=>∃H',Inv X pins σ H' s'/\Q H') X.xe s
section
variable {X:Cx}{pos:Pos}
def q9K (i:Nat):TG:=fun v σ H Q=>Q (σ.set i (some v)) H
theorem qM {i:Nat}{x:Str}(hN:X.N.Nodup)(hi:X.N[i]? =some x)(hx:Loc X.env.scope x)(hf:X.fn x=true\/X.env.scope.names.lookup x=some .local:=by first|exact .inl rfl|exact .inr rfl|assumption):PG X (.Name x pos) (q9K i):=by
 intro pins s σ H v u Q I r h
 exact wpAny_assign_Name (q3j I hN hi hx r (fun s' I'=>⟨_,H,I',h⟩) hf)
def gNil:TGs:=fun vs σ H Q=>vs=[]/\Q σ H
def gCons (t:TG)(u:TGs):TGs:=fun vs σ H Q=>∃v r,vs=v::r/\t v σ H fun σ' H'=>u r σ' H' Q
theorem q30:PGs X [] gNil:=by
 intro pins s σ H vs us Q I r h
 obtain⟨e,h⟩:=h
 subst e
 cases r
 exact assignInOrder_nil ⟨σ,H,I,h⟩
theorem q0l {e:Expr}{es:List Expr}{t:TG}{u:TGs}(h1:PG X e t)(h2:PGs X es u)
  (hs:(assignEach (e::es) X.env).map (·.2)=assign e X.env::(assignEach es X.env).map (·.2):=by rfl):PGs X (e::es) (gCons t u):=by
 intro pins s σ H vs us Q I r h
 obtain⟨v,vr,e1,h⟩:=h
 subst e1
 cases r with
 |cons r rr=>
  rw[hs]
  refine assignInOrder_cons (thn (h1 pins s σ H _ _ _ I r h) fun _ s1 ⟨σ1,H1,I1,q1⟩=>?_)
  exact h2 pins s1 σ1 H1 _ _ Q I1 rr q1
def gTup (K:W.Frag)(n:Nat)(t:TGs):TG:=fun v σ H Q=>∃a xs,v= .ref a/\SqT K H a xs/\xs.length=n/\t xs σ H Q
theorem pg_tup {es:List Expr}{k:Nat}{t:TGs}{n:Nat}(hc:X.calm=true)(h:PGs X es t)
  (hn:(assignEach es X.env).length=n:=by rfl)(hst:(assignEach es X.env).findIdx? (·.1)=none:=by rfl):PG X (.Tuple es k pos) (gTup X.K n t):=by
 intro pins s σ H v u Q I r hw
 obtain⟨a,xs,e1,hq,hl,hw⟩:=hw
 subst e1
 cases r
 obtain⟨its,rv,ht,hz⟩:=I.tuple hq
 refine assign_Tuple_tuple (I.ok.hd hc) ht (by simp[hn,<-hl,rv.length]) hst fun h' hx=>?_
 have I1:Inv X pins σ H {s with heap:=h'}:=I.kept (t':=s.toks) fun b o e=>hx b o (zP (zD e)) e
 exact h pins _ σ H xs _ Q I1 (by simpa using rv) hw
def gSub (to ti:TE)(t:TSet):TG:=fun v σ H Q=>to σ H fun o H1=>ti σ H1 fun i H2=>t o i v H2 fun H3=>Q σ H3
theorem q6k {o i:Expr}{to ti:TE}{t:TSet}(ho:PE X o to)(hi:PE X i ti)(hs:PSet X t)
  (ha:∀v,assign (.Subscript o i pos) X.env v=(do
   let ov<-holding [v] (eval o X.env)
   let iv<-holding [v,ov] (eval i X.env)
   standAt pos
   holding [v,ov,iv] (setItem ov iv v)
   release [v,ov,iv] []):=by intro _;rfl):PG X (.Subscript o i pos) (gSub to ti t):=by
 intro pins s σ H v u Q I r h
 rw[ha]
 refine yD (zar (thn (ho pins s σ H _ I h) fun ov s1 ⟨x,H1,I1,r1,q1⟩=>?_))
 refine yD (zar (thn (hi pins s1 σ H1 _ I1 q1) fun iv s2 ⟨y,H2,I2,r2,q2⟩=>?_))
 refine yD (zaW (yD (zar (thn (hs pins s2 σ H2 x y v ov iv u _ I2 r1 r2 r q2) fun _ s3 ⟨H3,I3,q3⟩=>?_))))
 exact wpAny_release ⟨σ,H3,I3,q3⟩
def tAsg (te:TE)(g:TG):TS:=fun D σ H=>te σ H fun x H1=>g x σ H1 D.nx
theorem q45 {tg e:Expr}{te:TE}{g:TG}(he:PE X e te)(hg:PG X tg g)(hs:swapsWithSole [tg] e pos.line X.env=pure false:=by rfl)(hw:swappedStores [tg] e X.env=pure none:=by rfl)
  (h1:(assignEach [tg] X.env).map (·.2)=[assign tg X.env]:=by rfl):PS X (.Assign [tg] e pos) (tAsg te g):=by
 intro pins s σ H D I h
 refine wpAny_Assign_stores (thn (he pins s σ H _ I h) fun v s1 ⟨x,H1,I1,r1,q1⟩=>?_) hs hw
 rw[h1]
 exact thn (hg pins s1 σ H1 x v _ I1 r1 q1) fun _ s2 q=>q
theorem qI {i:Nat}{x:Str}{e:Expr}{te:TE}{pos':Pos}(hN:X.N.Nodup)(hi:X.N[i]? =some x)(hx:Loc X.env.scope x)(he:PE X e te)(hs:swapsWith e (some (.Name x pos')) pos.line X.env=pure false:=by rfl)(hf:X.fn x=true\/X.env.scope.names.lookup x=some .local:=by first|exact .inl rfl|exact .inr rfl|assumption):
  PS X (.Assign [.Name x pos'] e pos) (tAsg te (q9K i)):=by
 intro pins s σ H D I h
 refine wpAny_Assign_Name (thn (he pins s σ H _ I h) fun v s1 ⟨y,H1,I1,r1,q1⟩=>?_) hs
 exact q3j I1 hN hi hx r1 (fun s2 I2=>⟨_,H1,I2,q1⟩) hf
end
structure It where
 go:Nat->Hp->Prop
 yld:Nat->Hp->V->Hp->Prop
 stop:Nat->Hp->Prop
def FpOk (X:Cx)(pins:List (Addr×Obj))(H:Hp)(b:Addr):Prop:=
 H b=none/\b≠X.env.locals/\b∉X.fs/\(b∈X.ex\/X.s₀.heap.objs.size<=b)/\(∀x c,X.env.cells.lookup x=some c->c≠b)/\∀p∈X.pn++pins,p.1≠b
theorem Inv.fpOk {X:Cx}{pins:List (Addr×Obj)}{σ:St}{H H':Hp}{s:Shared}{b:Addr}(I:Inv X pins σ H s)(hb:s.heap.objs.size<=b)(hn:H' b=none):FpOk X pins H' b:=by
 refine⟨hn,zbu (zR I.lt hb),I.nofs hb,.inr (zap I.sz hb),fun x c e z=>?_,fun p hp z=>?_⟩
 ·obtain ⟨v,q⟩:=I.cell x c e
  exact absurd (zR q.lt (by rw[z];exact hb)) (zbn _)
 ·exact absurd (zR (zD (I.pin p hp).1) (by rw[z];exact hb)) (zbn _)
structure Turn (P:Program)(w:World)(K:W.Frag)(tg:Expr)(J:It)(fp:List Addr)(it:Addr)(tn:Nat->Heap->Prop):Prop where
 mem:it∈fp
 obj:∀i h,tn i h->∀b∈fp,∃o,h.get? b=some o/\∀v,o.data≠ .cell v
 keep:∀i h h',tn i h->(∀b∈fp,∀o,h.get? b=some o->h'.get? b=some o)->tn i h'
 item:∀(X:Cx),X.prog=P->X.w=w->X.K=K->X.calm=true->∀(i:Nat) (pins:List (Addr×Obj)) (s:Shared) (σ:St) (H:Hp) (E:Value->Shared->Prop),Inv X pins σ H s->(∀b∈fp,FpOk X pins H b)->tn i s.heap->J.go i H->
  wpAny (model P w) X.A (pyNext (.ref it)) (fun r s1=>∃u,r=some u/\
   wpAny (model P w) X.A (letOwnedTupleGo tg (.ref it) u) (fun _ s2=>∃x H',Inv X pins σ H' s2/\RelV x u/\J.yld i H x H'/\tn (i+1) s2.heap/\∀b∈fp,H' b=none) E s1) E s
 done:∀(X:Cx),X.prog=P->X.w=w->X.K=K->X.calm=true->∀(i:Nat) (pins:List (Addr×Obj)) (s:Shared) (σ:St) (H:Hp) (E:Value->Shared->Prop),Inv X pins σ H s->(∀b∈fp,FpOk X pins H b)->tn i s.heap->J.stop i H->
  wpAny (model P w) X.A (pyNext (.ref it)) (fun r s1=>r=none/\Inv X pins σ H s1) E s
 self:∀(A:Around) (i:Nat) (s:Shared) (Q:Value->Shared->Prop) (E:Value->Shared->Prop),tn i s.heap->Q (.ref it) s->wpAny (model P w) A (pyIter (.ref it)) Q E s
abbrev TI:=St->Hp->(It->Hp->Prop)->Prop
def PIE (X:Cx)(pins:List (Addr×Obj))(σ:St)(tg:Expr)(R:It->Hp->Prop)(itv:Value)(s2:Shared):Prop:=
 ∃(it:Addr) (fp:List Addr) (tn:Nat->Heap->Prop) (J:It) (H':Hp),itv= .ref it/\Inv X pins σ H' s2/\Turn X.prog X.w X.K tg J fp it tn/\tn 0 s2.heap/\(∀b∈fp,FpOk X pins H' b)/\R J H'
def PI (X:Cx)(tg iter:Expr)(wi:TI):Prop:=
 ∀(pins:List (Addr×Obj)) (s:Shared) (σ:St) (H:Hp) (R:It->Hp->Prop),Inv X pins σ H s->wi σ H R->
  wpAny (model X.prog X.w) X.A (eval iter X.env) (fun v s1=>wpAny (model X.prog X.w) X.A (pyIter v) (PIE X pins σ tg R) X.xe s1) X.xe s
theorem go_of {M:Model}{A:Around}{E:Value->Shared->Prop}{s:Shared}{tg:Expr}{it:Addr}{u:Value}{o:Obj}{n:String}{vs:Array Value}{Q:Unit->Shared->Prop}(ho:s.heap.get? it=some o)(hc:o.cls= .type n)(hd:o.data= .fields vs)
  (hn:["enumerate","zip","dict_itemiterator","dict_reverseitemiterator","odict_iterator","itertools.zip_longest","itertools.pairwise"].contains n=false)(hQ:Q () s):wpAny M A (letOwnedTupleGo tg (.ref it) u) Q E s:=by
 unfold letOwnedTupleGo
 cases tg<;>first
  |exact zA hQ
  |(cases u<;>first
    |exact zA hQ
    |(refine yD (wpAny_load ho ?_)
      rw[hc,hd]
      show wpAny M A (if (["enumerate","zip","dict_itemiterator","dict_reverseitemiterator","odict_iterator","itertools.zip_longest","itertools.pairwise"].contains n&&vs[0]? ==some (rawInt _))=true then _ else _) Q E s
      rw[zI (by intro h;rw[hn,zcs] at h;cases h)]
      exact zA hQ))
def Itl (K:W.Frag)(a:Addr):It:=
 ⟨fun i H=>∃xs x,SqL K H a xs/\xs[i]? =some x,fun i H x H'=>H'=H/\∀xs,SqL K H a xs->xs[i]? =some x,fun i H=>∃xs,SqL K H a xs/\xs.length<=i⟩
def Itt (K:W.Frag)(a:Addr):It:=
 ⟨fun i H=>∃xs x,SqT K H a xs/\xs[i]? =some x,fun i H x H'=>H'=H/\∀xs,SqT K H a xs->xs[i]? =some x,fun i H=>∃xs,SqT K H a xs/\xs.length<=i⟩
def Itr (lo:Int)(n:Nat):It:=⟨fun i _=>i<n,fun i H x H'=>H'=H/\x= .int (lo+i),fun i _=>n<=i⟩
theorem q7k {P:Program}{w:World}{K:W.Frag}{tg:Expr}(a it:Addr):Turn P w K tg (Itl K a) [it] it (fun i h=>h.IsListIter it a i) where
 mem:=by simp
 obj:=fun i h st b hb=>by
  have e:b=it:=by simpa using hb
  subst e
  obtain⟨o,e,c,d⟩:=st
  exact⟨o,e,fun v z=>by rw[d] at z;cases z⟩
 keep:=fun i h h' st k=>st.at fun o e=>k it (by simp) o e
 item:=by
  intro X hP hw hK hc i pins s σ H E I hf st hg
  subst hP hw hK
  obtain⟨xs,x,hq,hx⟩:=hg
  obtain⟨its,rv,p,hz⟩:=I.list hq
  obtain⟨u,hu,ru⟩:=rv.get hx
  obtain⟨f0,f1,f2,f3,f4,f5⟩:=hf it (by simp)
  refine wpAny_pyNext_list_item st p.isList (x:=u) (by simpa using hu) fun h' st' sb=>?_
  have I1:Inv X pins σ H {s with heap:=h'}:=I.turned (t':=s.toks) (fun b o hb e=>(sb.2 b hb).trans e) f0 f1 f3 f4 f5
  obtain⟨o,e,c,d⟩:=id st'
  exact⟨u,rfl,go_of (s:={s with heap:=h'}) e c d (by decide) ⟨x,H,I1,ru,⟨rfl,fun ys hy=>by rw[I.list_inj hy hq];exact hx⟩,st',fun b hb=>(hf b hb).1⟩⟩
 done:=by
  intro X hP hw hK hc i pins s σ H E I hf st hg
  subst hP hw hK
  obtain⟨xs,hq,hx⟩:=hg
  obtain⟨its,rv,p,hz⟩:=I.list hq
  obtain⟨f0,f1,f2,f3,f4,f5⟩:=hf it (by simp)
  have hl:=rv.length
  exact wpAny_pyNext_list_end (I.ok.hd hc) st p.isList (by simp;omega) fun h' eb=>⟨rfl,I.turned (t':=s.toks) (fun b o hb e=>eb b o hb e) f0 f1 f3 f4 f5⟩
 self:=fun _ _ _ _ _ st h=>wpAny_pyIter_listiter st h
theorem q6L {P:Program}{w:World}{K:W.Frag}{tg:Expr}(a it:Addr):Turn P w K tg (Itt K a) [it] it (fun i h=>h.IsTupleIter it a i) where
 mem:=by simp
 obj:=fun i h st b hb=>by
  have e:b=it:=by simpa using hb
  subst e
  obtain⟨o,e,c,d⟩:=st
  exact⟨o,e,fun v z=>by rw[d] at z;cases z⟩
 keep:=fun i h h' st k=>st.at fun o e=>k it (by simp) o e
 item:=by
  intro X hP hw hK hc i pins s σ H E I hf st hg
  subst hP hw hK
  obtain⟨xs,x,hq,hx⟩:=hg
  obtain⟨its,rv,p,hz⟩:=I.tuple hq
  obtain⟨u,hu,ru⟩:=rv.get hx
  obtain⟨f0,f1,f2,f3,f4,f5⟩:=hf it (by simp)
  refine wpAny_pyNext_tuple_item st (show s.heap.IsTuple a its.toArray from p) (x:=u) (by simpa using hu) fun h' st' sb=>?_
  have I1:Inv X pins σ H {s with heap:=h'}:=I.turned (t':=s.toks) (fun b o hb e=>(sb.2 b hb).trans e) f0 f1 f3 f4 f5
  obtain⟨o,e,c,d⟩:=id st'
  exact⟨u,rfl,go_of (s:={s with heap:=h'}) e c d (by decide) ⟨x,H,I1,ru,⟨rfl,fun ys hy=>by rw[I.tuple_inj hy hq];exact hx⟩,st',fun b hb=>(hf b hb).1⟩⟩
 done:=by
  intro X hP hw hK hc i pins s σ H E I hf st hg
  subst hP hw hK
  obtain⟨xs,hq,hx⟩:=hg
  obtain⟨its,rv,p,hz⟩:=I.tuple hq
  obtain⟨f0,f1,f2,f3,f4,f5⟩:=hf it (by simp)
  have hl:=rv.length
  exact wpAny_pyNext_tuple_end (I.ok.hd hc) st (show s.heap.IsTuple a its.toArray from p) (by simp;omega) fun h' eb=>⟨rfl,I.turned (t':=s.toks) (fun b o hb e=>eb b o hb e) f0 f1 f3 f4 f5⟩
 self:=fun _ _ _ _ _ st h=>wpAny_pyIter_tupleiter st h
theorem q6M {P:Program}{w:World}{K:W.Frag}{tg:Expr}(it:Addr)(lo:Int)(n:Nat):Turn P w K tg (Itr lo n) [it] it (fun i h=>IsRangeIter h it (lo+(i:Nat)*1) ((n:Int) - (i:Nat)) 1) where
 mem:=by simp
 obj:=fun i h st b hb=>by
  have e:b=it:=by simpa using hb
  subst e
  exact⟨_,st,fun v z=>by
   have z':Data.fields _=Data.cell v:=z
   cases z'⟩
 keep:=fun i h h' st k=>k it (by simp) _ st
 item:=by
  intro X hP hw hK hc i pins s σ H E I hf st hg
  subst hP hw hK
  obtain⟨f0,f1,f2,f3,f4,f5⟩:=hf it (by simp)
  have W:=Walks.range (prog:=X.prog) (w:=X.w) (I.ok.hd hc) it lo 1 n
  refine W.item i s _ _ hg st fun v h' tk hv st' kk=>?_
  obtain⟨t,rfl⟩:=hv
  have I1:Inv X pins σ H {s with heap:=h',toks:=tk}:=I.turned (fun b o hb e=>kk b o (by simpa using hb) e) f0 f1 f3 f4 f5
  refine⟨_,rfl,go_of (s:={s with heap:=h',toks:=tk}) (n:="range_iterator") st' rfl rfl (by decide) ⟨.int (lo+i),H,I1,⟨t,?_⟩,⟨rfl,rfl⟩,st',fun b hb=>(hf b hb).1⟩⟩
  rw[Int.mul_one]
 done:=by
  intro X hP hw hK hc i pins s σ H E I hf st hg
  subst hP hw hK
  obtain⟨f0,f1,f2,f3,f4,f5⟩:=hf it (by simp)
  exact wpAny_pyNext_range_end (I.ok.hd hc) st (by have:n<=i:=hg;omega) fun h' eb=>⟨rfl,I.turned (t':=s.toks) (fun b o hb e=>eb b o hb e) f0 f1 f3 f4 f5⟩
 self:=fun _ _ _ _ _ st h=>wpAny_pyIter_rangeiter st h
section
variable {X:Cx}{tg:Expr}
def qbE (K:W.Frag)(tl:TE):TI:=fun σ H R=>tl σ H fun x H1=>∃a,x= .ref a/\(∃xs,SqL K H1 a xs)/\R (Itl K a) H1
def iTup (K:W.Frag)(tl:TE):TI:=fun σ H R=>tl σ H fun x H1=>∃a,x= .ref a/\(∃xs,SqT K H1 a xs)/\R (Itt K a) H1
theorem qb6 {l:Expr}{tl:TE}(hl:PE X l tl):PI X tg l (qbE X.K tl):=by
 intro pins s σ H R I h
 refine thn (hl pins s σ H _ I h) fun v s1 ⟨x,H1,I1,r1,q1⟩=>?_
 obtain⟨a,e,⟨xs,hq⟩,q⟩:=q1
 subst e
 cases r1
 obtain⟨its,rv,p,hz⟩:=I1.list hq
 refine zcg p.isList ?_
 refine⟨s1.heap.objs.size,[s1.heap.objs.size],_,_,H1,rfl,I1.kept (t':=s1.toks) fun b o e=>zB _ e,q7k a _,⟨_,zO _ rfl,rfl,rfl⟩,fun b hb=>?_,q⟩
 have e:b=s1.heap.objs.size:=by simpa using hb
 subst e
 exact I1.fpOk (zC _) (I1.hok.fresh (zC _))
theorem pi_tup {l:Expr}{tl:TE}(hl:PE X l tl):PI X tg l (iTup X.K tl):=by
 intro pins s σ H R I h
 refine thn (hl pins s σ H _ I h) fun v s1 ⟨x,H1,I1,r1,q1⟩=>?_
 obtain⟨a,e,⟨xs,hq⟩,q⟩:=q1
 subst e
 cases r1
 obtain⟨its,rv,p,hz⟩:=I1.tuple hq
 refine zb5 (show s1.heap.IsTuple a its.toArray from p) ?_
 refine⟨s1.heap.objs.size,[s1.heap.objs.size],_,_,H1,rfl,I1.kept (t':=s1.toks) fun b o e=>zB _ e,q6L a _,⟨_,zO _ rfl,rfl,rfl⟩,fun b hb=>?_,q⟩
 have e:b=s1.heap.objs.size:=by simpa using hb
 subst e
 exact I1.fpOk (zC _) (I1.hok.fresh (zC _))
theorem q6i {pins:List (Addr×Obj)}{σ:St}{H:Hp}{s:Shared}{R:It->Hp->Prop}{E:Value->Shared->Prop}{lo hi:Int}{t u v:Tok}{tk:Nat}(I:Inv X pins σ H s)(h1: -(2 ^ 62)<=lo)(h2:lo<2 ^ 62)(h3: -(2 ^ 62)<=hi)(h4:hi<2 ^ 62)
  (q:R (Itr lo (hi - lo).toNat) H):wpAny (model X.prog X.w) X.A (pyIter (.ref s.heap.objs.size)) (PIE X pins σ tg R) E {s with heap:=s.heap.push {cls:= .type "range",data:= .fields #[.int lo t,.int hi u,.int 1 v]},toks:=tk}:=by
 refine wpAny_pyIter_range (IsRange.new ..) (small_one h1 h2 h3 h4) ?_
 have I1:Inv X pins σ H {s with heap:=s.heap.push {cls:= .type "range",data:= .fields #[.int lo t,.int hi u,.int 1 v]},toks:=tk}:=I.kept fun b o e=>zB _ e
 refine⟨(s.heap.push {cls:= .type "range",data:= .fields #[.int lo t,.int hi u,.int 1 v]}).objs.size,[(s.heap.push {cls:= .type "range",data:= .fields #[.int lo t,.int hi u,.int 1 v]}).objs.size],_,_,H,rfl,
  I1.kept (t':=tk) fun b o e=>zB _ e,q6M _ lo (hi - lo).toNat,?_,fun b hb=>?_,q⟩
 ·have e1:lo+((0:Nat):Int)*1=lo:=by simp
  have e2:(((hi - lo).toNat:Nat):Int) - ((0:Nat):Int)=Builtin.Range.rangeSize lo hi 1:=by rw[rangeSize_one];split<;>omega
  show IsRangeIter _ _ (lo+((0:Nat):Int)*1) ((((hi - lo).toNat:Nat):Int) - ((0:Nat):Int)) 1
  rw[e1,e2]
  exact zO _ rfl
 ·have e:b=(s.heap.push {cls:= .type "range",data:= .fields #[.int lo t,.int hi u,.int 1 v]}).objs.size:=by simpa using hb
  subst e
  exact I1.fpOk (zC _) (I1.hok.fresh (zC _))
def iRng1 (ta:TA):TI:=fun σ H R=>ta σ H fun vs H1=>∃j:Int,vs=[.int j]/\ -(2 ^ 62)<=j/\j<2 ^ 62/\R (Itr 0 j.toNat) H1
def iRng2 (ta:TA):TI:=fun σ H R=>ta σ H fun vs H1=>∃i j:Int,vs=[.int i,.int j]/\(-(2 ^ 62)<=i/\i<2 ^ 62/\ -(2 ^ 62)<=j/\j<2 ^ 62)/\R (Itr i (j - i).toNat) H1
theorem q29 {a:Expr}{ta:TA}{p pos:Pos}(hg:Gl X "range")(hm:X.mg "range"=none)(ha:PA X [a] ta)(hs:starEach [a] X.env=[(false,eval a X.env)]:=by rfl):PI X tg (.Call (.Name "range" p) [a] [] pos) (iRng1 ta):=by
 intro pins s σ H R I h
 refine Call_ (q3J I hg hm boot_range (zaN (thn (ha pos pins s σ H _ I h) fun us s1 ⟨vs,H1,I1,r1,q1⟩=>?_) hs rfl))
 obtain⟨j,e,q1,q2,q⟩:=q1
 subst e
 cases r1 with
 |cons r rr=>
  cases rr
  obtain⟨t,rfl⟩:=r
  exact call_range_1 (q6i I1 (by omega) (by omega) q1 q2 (by simpa using q))
theorem q7V {a b:Expr}{ta:TA}{p pos:Pos}(hg:Gl X "range")(hm:X.mg "range"=none)(ha:PA X [a,b] ta)(hs:starEach [a,b] X.env=[(false,eval a X.env),(false,eval b X.env)]:=by rfl)(hs2:starEach [b] X.env=[(false,eval b X.env)]:=by rfl):
  PI X tg (.Call (.Name "range" p) [a,b] [] pos) (iRng2 ta):=by
 intro pins s σ H R I h
 refine Call_ (q3J I hg hm boot_range (zaN (thn (ha pos pins s σ H _ I h) fun us s1 ⟨vs,H1,I1,r1,q1⟩=>?_) (by rw[hs,hs2]) (by rw[hs2];rfl)))
 obtain⟨i,j,e,⟨q1,q2,q3,q4⟩,q⟩:=q1
 subst e
 cases r1 with
 |cons r rr=>
  cases rr with
  |cons r' rr=>
   cases rr
   obtain⟨t,rfl⟩:=r
   obtain⟨t',rfl⟩:=r'
   exact call_range_2 (q6i I1 q1 q2 q3 q4 q)
def tFor (wi:TI)(g:TG)(tb:TS):TS:=fun D σ H=>wi σ H fun J H1=>∃W:Nat->Nat->St->Hp->Prop,(∃m,W 0 m σ H1)/\∀i m σ H,W i m σ H->
 (J.stop i H/\D.nx σ H)\/(J.go i H/\∃N:St->Hp->Prop,(∀σ' H',N σ' H'->∃m',m'<m/\W (i+1) m' σ' H')/\∀x H',J.yld i H x H'->g x σ H' fun σ2 H2=>tb {D with nx:=N,ct:=N,bk:=D.nx} σ2 H2)
def q5h (fp:List Addr)(h:Heap):List (Addr×Obj):=fp.filterMap fun b=>(h.get? b).map fun o=>(b,o)
theorem q2i {fp:List Addr}{h:Heap}{b:Addr}{o:Obj}(hb:b∈fp)(e:h.get? b=some o):(b,o)∈q5h fp h:=zbe.mpr ⟨b,hb,by rw[e];rfl⟩
theorem q87 {fp:List Addr}{h:Heap}{p:Addr×Obj}(hp:p∈q5h fp h):p.1∈fp/\h.get? p.1=some p.2:=by
 obtain⟨b,hb,e⟩:=zbe.mp hp
 cases q:h.get? b with
 |none=>rw[q] at e;cases e
 |some o=>
  rw[q] at e
  have e':(b,o)=p:=zE e
  subst e'
  exact⟨hb,q⟩
theorem Inv.pinned {pins:List (Addr×Obj)}{σ:St}{H:Hp}{s:Shared}{fp:List Addr}(I:Inv X pins σ H s)(hf:∀b∈fp,FpOk X pins H b)(ho:∀b∈fp,∃o,s.heap.get? b=some o/\∀v,o.data≠ .cell v):Inv X (pins++q5h fp s.heap) σ H s:=
 I.pins_of fun p hp=>(zad.mp hp).elim (fun z=>I.pin p (zan _ z)) fun z=>by
  obtain⟨hb,e⟩:=q87 z
  obtain⟨f0,f1,f2,_⟩:=hf p.1 hb
  obtain⟨o,e',d⟩:=ho p.1 hb
  rw[e] at e';cases e'
  exact⟨e,f0,f1,f2,d⟩
theorem Inv.unpinned {pins pl:List (Addr×Obj)}{σ:St}{H:Hp}{s:Shared}(I:Inv X (pins++pl) σ H s):Inv X pins σ H s:=I.pins_of fun p hp=>I.pin p (zan _ (List.mem_append_left _ hp))
theorem q28 {iter:Expr}{body:List Stmt}{wi:TI}{g:TG}{tb:TS}{pos:Pos}(hp:PassesOwn (model X.prog X.w) X.A X.env X.xe)(hc:X.calm=true)(hi:PI X tg iter wi)(hg:PG X tg g)(hb:PSs X body tb)
  (hs:∀x,foldedSetIterable iter X.env x=pure x:=by intro _;rfl):PS X (.For tg iter body [] pos) (tFor wi g tb):=by
 intro pins s σ H D I h
 refine wpAny_For (thn (hi pins s σ H _ I h) fun v s1 h1=>thn h1 fun itv s2 h2=>?_) hs
 obtain⟨it,fp,tn,J,H2,e,I2,T,st2,f2,W,⟨m0,w0⟩,turn⟩:=h2
 subst e
 -- what stays true of the iterator's objects through the loop
 have stat:∀{H':Hp},(∀b∈fp,H' b=none)->∀b∈fp,FpOk X pins H' b:=fun hn b hb=>⟨hn b hb,(f2 b hb).2⟩
 refine codeAny_forLoop_any (fun n s'=>∃i σ' H',Inv X pins σ' H' s'/\tn i s'.heap/\(∀b∈fp,H' b=none)/\W i n σ' H') ?_ m0 ⟨0,σ,H2,I2,st2,fun b hb=>(f2 b hb).1,w0⟩
 rintro n s3 ⟨i,σ3,H3,I3,st3,fr3,w3⟩
 rcases turn i n σ3 H3 w3 with⟨stop,qn⟩|⟨go,N,hN,step⟩
 ·refine zbr hp (thn (T.done X rfl rfl rfl hc i pins s3 σ3 H3 X.xe I3 (stat fr3) st3 stop) fun r s4 ⟨hr,I4⟩=>?_)
  subst hr
  exact zbq ⟨σ3,H3,I4,qn⟩
 ·refine zbr hp (thn (T.item X rfl rfl rfl hc i pins s3 σ3 H3 X.xe I3 (stat fr3) st3 go) fun r s4 ⟨u,hr,h4⟩=>?_)
  subst hr
  refine zbr hp (thn h4 fun _ s5 ⟨x,H5,I5,r5,y5,st5,fr5⟩=>?_)
  have I5':=I5.pinned (stat fr5) (T.obj _ _ st5)
  refine zbr hp (thn (hg _ s5 σ3 H5 x u _ I5' r5 (step x H5 y5)) fun _ s6 ⟨σ6,H6,I6,q6⟩=>?_)
  refine zbr hp (thn (hb _ s6 σ6 H6 _ I6 q6) fun f s7 q7=>?_)
  have again:∀{σ7:St} {H7:Hp},Inv X (pins++q5h fp s5.heap) σ7 H7 s7->N σ7 H7->∃m,m<n/\∃i σ' H',Inv X pins σ' H' s7/\tn i s7.heap/\(∀b∈fp,H' b=none)/\W i m σ' H':=fun {σ7 H7} I7 n7=>by
   obtain⟨m',hm,w7⟩:=hN σ7 H7 n7
   refine⟨m',hm,i+1,σ7,H7,I7.unpinned,T.keep _ _ _ st5 fun b hb o e=>(I7.pin (b,o) (zan _ (zan _ (q2i hb e)))).1,fun b hb=>?_,w7⟩
   obtain⟨o,e,d⟩:=T.obj _ _ st5 b hb
   exact(I7.pin (b,o) (zan _ (zan _ (q2i hb e)))).2.1
  cases f with
  |next=>obtain⟨σ7,H7,I7,n7⟩:=q7;exact again I7 n7
  |cont=>obtain⟨σ7,H7,I7,n7⟩:=q7;exact again I7 n7
  |brk=>obtain⟨σ7,H7,I7,q7⟩:=q7;exact⟨σ7,H7,I7.unpinned,q7⟩
  |ret v=>obtain⟨x7,σ7,H7,I7,r7,q7⟩:=q7;exact⟨x7,σ7,H7,I7.unpinned,r7,q7⟩
end
abbrev R2:=V->V->Hp->VK->Prop
def OpR (X:Cx)(f:Value->Value->Sem Value)(r:R2):Prop:=
 ∀(pins:List (Addr×Obj)) (s:Shared) (σ:St) (H:Hp) (x y:V) (v u:Value) (Q:VK),Inv X pins σ H s->RelV x v->RelV y u->r x y H Q->
  wpAny (model X.prog X.w) X.A (f v u) (EP X pins σ Q) X.xe s
def UnR (X:Cx)(f:Value->Sem Value)(r:V->Hp->VK->Prop):Prop:=
 ∀(pins:List (Addr×Obj)) (s:Shared) (σ:St) (H:Hp) (x:V) (v:Value) (Q:VK),Inv X pins σ H s->RelV x v->r x H Q->
  wpAny (model X.prog X.w) X.A (f v) (EP X pins σ Q) X.xe s
def q1d (X:Cx)(f:Value)(r:List V->Hp->VK->Prop):Prop:=
 ∀(pins:List (Addr×Obj)) (s:Shared) (σ:St) (H:Hp) (xs:List V) (us:List Value) (Q:VK),Inv X pins σ H s->Vals xs us->r xs H Q->
  wpAny (model X.prog X.w) X.A (call f us) (EP X pins σ Q) X.xe s
def tOp (r:R2)(ta tb:TE):TE:=fun σ H Q=>ta σ H fun x H1=>tb σ H1 fun y H2=>r x y H2 Q
def tUn (r:V->Hp->VK->Prop)(ta:TE):TE:=fun σ H Q=>ta σ H fun x H1=>r x H1 Q
def rI (C:Int->Int->Prop)(g:Int->Int->V):R2:=fun x y H Q=>∃i j,x= .int i/\y= .int j/\C i j/\Q (g i j) H
def rI0 (g:Int->Int->V):R2:=fun x y H Q=>∃i j,x= .int i/\y= .int j/\Q (g i j) H
def rU (g:Int->V):V->Hp->VK->Prop:=fun x H Q=>∃i,x= .int i/\Q (g i) H
section
variable {X:Cx}{a b c:Expr}{ta tb tc:TE}{pos:Pos}
theorem binT (ha:PE X a ta)(hb:PE X b tb){pins:List (Addr×Obj)}{s:Shared}{σ:St}{H:Hp}{R:V->V->Hp->Prop}(I:Inv X pins σ H s)
  (h:ta σ H fun x H1=>tb σ H1 fun y H2=>R x y H2){Q:Value->Shared->Prop}{f:Value->Value->Sem Value}
  (hf:∀v u s2 x y H2,Inv X pins σ H2 s2->RelV x v->RelV y u->R x y H2->wpAny (model X.prog X.w) X.A (f v u) Q X.xe s2):
  wpAny (model X.prog X.w) X.A (eval a X.env) (fun v s₁=>wpAny (model X.prog X.w) X.A (eval b X.env) (fun u s₂=>wpAny (model X.prog X.w) X.A (f v u) Q X.xe s₂) X.xe s₁) X.xe s:=by
 refine thn (ha pins s σ H _ I h) fun v s1 ⟨x,H1,I1,r1,q1⟩=>?_
 refine thn (hb pins s1 σ H1 _ I1 q1) fun u s2 ⟨y,H2,I2,r2,q2⟩=>?_
 exact hf v u s2 x y H2 I2 r1 r2 q2
theorem qv {op:Operator}{r:R2}(ho:OpR X (binaryOp op) r)(ha:PE X a ta)(hb:PE X b tb):PE X (.BinOp a op b pos) (tOp r ta tb):=by
 intro pins s σ H Q I h
 exact wpAny_BinOp (binT ha hb I h fun v u s2 x y H2 I2 rx ry q=>ho pins s2 σ H2 x y v u Q I2 rx ry q)
theorem pe_un {op:UnaryOp}{r:V->Hp->VK->Prop}(ho:UnR X (unaryOp op) r)(ha:PE X a ta):PE X (.UnaryOp op a pos) (tUn r ta):=by
 intro pins s σ H Q I h
 exact UnaryOp_ (thn (ha pins s σ H _ I h) fun v s1 ⟨x,H1,I1,r1,q1⟩=>ho pins s1 σ H1 x v Q I1 r1 q1)
theorem opI {f:Value->Value->Sem Value}{C:Int->Int->Prop}{g:Int->Int->Int}
  (rule:∀(i j:Int) (t u:Tok) (s:Shared) (Q:Value->Shared->Prop) (E:Value->Shared->Prop),C i j->Q (.int (g i j) s.toks) {s with toks:=s.toks+1}->wpAny (model X.prog X.w) X.A (f (.int i t) (.int j u)) Q E s):
  OpR X f (rI C fun i j=> .int (g i j)):=by
 intro pins s σ H x y v u Q I rx ry h
 obtain⟨i,j,rfl,rfl,hc,q⟩:=h
 obtain⟨t,rfl⟩:=rx
 obtain⟨t',rfl⟩:=ry
 exact rule i j t t' s _ _ hc ⟨.int (g i j),H,I.tok _,⟨_,rfl⟩,q⟩
theorem opI0 {f:Value->Value->Sem Value}{g:Int->Int->Int}
  (rule:∀(i j:Int) (t u:Tok) (s:Shared) (Q:Value->Shared->Prop) (E:Value->Shared->Prop),Q (.int (g i j) s.toks) {s with toks:=s.toks+1}->wpAny (model X.prog X.w) X.A (f (.int i t) (.int j u)) Q E s):
  OpR X f (rI0 fun i j=> .int (g i j)):=by
 intro pins s σ H x y v u Q I rx ry h
 obtain⟨i,j,rfl,rfl,q⟩:=h
 obtain⟨t,rfl⟩:=rx
 obtain⟨t',rfl⟩:=ry
 exact rule i j t t' s _ _ ⟨.int (g i j),H,I.tok _,⟨_,rfl⟩,q⟩
theorem opB0 {f:Value->Value->Sem Value}{g:Int->Int->Bool}
  (rule:∀(i j:Int) (t u:Tok) (s:Shared) (Q:Value->Shared->Prop) (E:Value->Shared->Prop),Q (.bool (g i j)) s->wpAny (model X.prog X.w) X.A (f (.int i t) (.int j u)) Q E s):
  OpR X f (rI0 fun i j=> .bl (g i j)):=by
 intro pins s σ H x y v u Q I rx ry h
 obtain⟨i,j,rfl,rfl,q⟩:=h
 obtain⟨t,rfl⟩:=rx
 obtain⟨t',rfl⟩:=ry
 exact rule i j t t' s _ _ ⟨.bl (g i j),H,I,rfl,q⟩
def CDiv (i j:Int):Prop:=0<j/\j<1073741824
def CMul (i j:Int):Prop:=(-(2 ^ 64)<i/\i<2 ^ 64)\/(-(2 ^ 64)<j/\j<2 ^ 64)
theorem CMul.ok {i j:Int}(h:CMul i j):IntMulOk i j:=by
 rcases h with⟨h1,h2⟩|⟨h1,h2⟩
 ·exact .of_left (intBits_le_64 h1 h2)
 ·exact .of_right (intBits_le_64 h1 h2)
theorem q0S:OpR X (binaryOp .Add) (rI0 fun i j=> .int (i+j)):=opI0 fun _ _ _ _ _ _ _ q=>add_int q
theorem q3d:OpR X (binaryOp .Sub) (rI0 fun i j=> .int (i - j)):=opI0 fun _ _ _ _ _ _ _ q=>sub_int q
theorem q3E:OpR X (binaryOp .Mult) (rI CMul fun i j=> .int (i*j)):=opI fun _ _ _ _ _ _ _ hc q=>mul_int q hc.ok
theorem qW:OpR X (binaryOp .FloorDiv) (rI CDiv fun i j=> .int (i / j)):=opI fun i j _ _ _ _ _ hc q=>by
 have h1:(0:Int)<j:=hc.1
 have h2:j<1073741824:=hc.2
 exact floordiv_int (by omega) (by rw[Int.fdiv_eq_ediv_of_nonneg i (by omega)];exact q) (.inl (PyProof.noPylong_small (by omega)))
theorem qX:OpR X (binaryOp .Mod) (rI (fun _ j=>0<j) fun i j=> .int (i % j)):=opI fun i j _ _ _ _ _ hc q=>by
 have h1:(0:Int)<j:=hc
 exact mod_int' (by omega) (by rw[Int.fmod_eq_emod_of_nonneg i (by omega)];exact q)
theorem unI {f:Value->Sem Value}{g:Int->Int}
  (rule:∀(i:Int) (t:Tok) (s:Shared) (Q:Value->Shared->Prop) (E:Value->Shared->Prop),Q (.int (g i) s.toks) {s with toks:=s.toks+1}->wpAny (model X.prog X.w) X.A (f (.int i t)) Q E s):
  UnR X f (rU fun i=> .int (g i)):=by
 intro pins s σ H x v Q I rx h
 obtain⟨i,rfl,q⟩:=h
 obtain⟨t,rfl⟩:=rx
 exact rule i t s _ _ ⟨.int (g i),H,I.tok _,⟨_,rfl⟩,q⟩
theorem un_neg:UnR X (unaryOp .USub) (rU fun i=> .int (-i)):=unI fun _ _ _ _ _ q=>neg_int q
end
def scal:V->V->Bool
 | .non,.non=>true| .non,.int _=>true| .int _,.non=>true| .non,.bl _=>true| .bl _,.non=>true| .non,.str _=>true| .str _,.non=>true
 | .int _,.int _=>true| .bl _,.bl _=>true| .str _,.str _=>true| .byt _,.byt _=>true
 | .int _,.str _=>true| .str _,.int _=>true| .bl _,.str _=>true| .str _,.bl _=>true
 |_,_=>false
def rEq:R2:=fun x y H Q=>scal x y=true/\Q (.bl (decide (x=y))) H
def rNe:R2:=fun x y H Q=>scal x y=true/\Q (.bl (!decide (x=y))) H
theorem q8L {i j:Int}:decide (V.int i=V.int j)=(i==j):=by
 rw[zaT]
 simp
theorem qao {i j:Bool}:decide (V.bl i=V.bl j)=(i==j):=by
 rw[zaT]
 simp
theorem q8K {i j:Str}:decide (V.str i=V.str j)=(i==j):=by
 rw[zaT]
 simp
theorem q8M {i j:Array UInt8}:decide (V.byt i=V.byt j)=(i.toList==j.toList):=by
 rw[zaT]
 cases i
 cases j
 simp
section
variable {X:Cx}{a b c:Expr}{ta tb tc:TE}{pos:Pos}
theorem q0b {pins:List (Addr×Obj)}{σ:St}{H:Hp}{s:Shared}{Q:VK}{k k':Bool}(I:Inv X pins σ H s)(q:Q (.bl k) H)(e:k=k'):EP X pins σ Q (.bool k') s:=by
 subst e
 exact⟨.bl k,H,I,rfl,q⟩
theorem q0i:OpR X (compareOp .Eq) rEq:=by
 intro pins s σ H x y v u Q I rx ry h
 obtain⟨hs,q⟩:=h
 cases x with
 |non=>
  cases rx
  cases y with
  |non=>cases ry;exact PySem.EqNone.eq_none_none (q0b I q (by simp))
  |bl j=>cases ry;exact PySem.EqNone.eq_none_bool (q0b I q (by simp))
  |int j=>obtain⟨t',rfl⟩:=ry;exact PySem.EqNone.eq_none_int (q0b I q (by simp))
  |str j=>obtain⟨t',rfl⟩:=ry;exact PySem.EqNone.eq_none_str (q0b I q (by simp))
  |_=>exact absurd (show false=true from hs) zK
 |bl i=>
  cases rx
  cases y with
  |non=>cases ry;exact PySem.EqNone.eq_bool_none (q0b I q (by simp))
  |bl j=>cases ry;exact eq_bool (q0b I q qao)
  |str j=>obtain⟨t',rfl⟩:=ry;exact PySem.EqMixed.eq_bool_str (q0b I q (by simp))
  |_=>exact absurd (show false=true from hs) zK
 |int i=>
  obtain⟨t,rfl⟩:=rx
  cases y with
  |non=>cases ry;exact PySem.EqNone.eq_int_none (q0b I q (by simp))
  |int j=>obtain⟨t',rfl⟩:=ry;exact eq_int (q0b I q q8L)
  |str j=>obtain⟨t',rfl⟩:=ry;exact PySem.EqMixed.eq_int_str (q0b I q (by simp))
  |_=>exact absurd (show false=true from hs) zK
 |str i=>
  obtain⟨t,rfl⟩:=rx
  cases y with
  |non=>cases ry;exact PySem.EqNone.eq_str_none (q0b I q (by simp))
  |bl j=>cases ry;exact PySem.EqMixed.eq_str_bool (q0b I q (by simp))
  |int j=>obtain⟨t',rfl⟩:=ry;exact PySem.EqMixed.eq_str_int (q0b I q (by simp))
  |str j=>obtain⟨t',rfl⟩:=ry;exact eq_str (q0b I q q8K)
  |_=>exact absurd (show false=true from hs) zK
 |byt i=>
  obtain⟨t,rfl⟩:=rx
  cases y with
  |byt j=>obtain⟨t',rfl⟩:=ry;exact PySem.W.eq_bytes (q0b I q q8M)
  |_=>exact absurd (show false=true from hs) zK
 |_=>cases y<;>exact absurd (show false=true from hs) zK
theorem q4y:OpR X (compareOp .NotEq) rNe:=by
 intro pins s σ H x y v u Q I rx ry h
 obtain⟨hs,q⟩:=h
 cases x with
 |non=>
  cases rx
  cases y with
  |non=>cases ry;exact PySem.EqNone.ne_none_none (q0b I q (by simp))
  |bl j=>cases ry;exact PySem.EqNone.ne_none_bool (q0b I q (by simp))
  |int j=>obtain⟨t',rfl⟩:=ry;exact PySem.EqNone.ne_none_int (q0b I q (by simp))
  |str j=>obtain⟨t',rfl⟩:=ry;exact PySem.EqNone.ne_none_str (q0b I q (by simp))
  |_=>exact absurd (show false=true from hs) zK
 |bl i=>
  cases rx
  cases y with
  |non=>cases ry;exact PySem.EqNone.ne_bool_none (q0b I q (by simp))
  |bl j=>cases ry;exact ne_bool (q0b I q (zbj not qao))
  |str j=>obtain⟨t',rfl⟩:=ry;exact PySem.EqMixed.ne_bool_str (q0b I q (by simp))
  |_=>exact absurd (show false=true from hs) zK
 |int i=>
  obtain⟨t,rfl⟩:=rx
  cases y with
  |non=>cases ry;exact PySem.EqNone.ne_int_none (q0b I q (by simp))
  |int j=>obtain⟨t',rfl⟩:=ry;exact ne_int (q0b I q (zbj not q8L))
  |str j=>obtain⟨t',rfl⟩:=ry;exact PySem.EqMixed.ne_int_str (q0b I q (by simp))
  |_=>exact absurd (show false=true from hs) zK
 |str i=>
  obtain⟨t,rfl⟩:=rx
  cases y with
  |non=>cases ry;exact PySem.EqNone.ne_str_none (q0b I q (by simp))
  |bl j=>cases ry;exact PySem.EqMixed.ne_str_bool (q0b I q (by simp))
  |int j=>obtain⟨t',rfl⟩:=ry;exact PySem.EqMixed.ne_str_int (q0b I q (by simp))
  |str j=>obtain⟨t',rfl⟩:=ry;exact ne_str (q0b I q (zbj not q8K))
  |_=>exact absurd (show false=true from hs) zK
 |byt i=>
  obtain⟨t,rfl⟩:=rx
  cases y with
  |byt j=>obtain⟨t',rfl⟩:=ry;exact PySem.W.ne_bytes (q0b I q (zbj not q8M))
  |_=>exact absurd (show false=true from hs) zK
 |_=>cases y<;>exact absurd (show false=true from hs) zK
theorem q2G:OpR X (compareOp .Lt) (rI0 fun i j=> .bl (decide (i<j))):=opB0 fun _ _ _ _ _ _ _ q=>lt_int q
theorem qbh:OpR X (compareOp .LtE) (rI0 fun i j=> .bl (decide (i<=j))):=opB0 fun _ _ _ _ _ _ _ q=>le_int q
theorem q5l:OpR X (compareOp .Gt) (rI0 fun i j=> .bl (decide (j<i))):=opB0 fun _ _ _ _ _ _ _ q=>gt_int q
theorem qB (b:Expr){op:CmpOp}(h:op≠ .In:=by decide)(h2:op≠ .NotIn:=by decide):behindInMarks op b=false:=by
 have e1:(op==CmpOp.In)=false:=by cases op<;>first|rfl|exact absurd rfl h
 have e2:(op==CmpOp.NotIn)=false:=by cases op<;>first|rfl|exact absurd rfl h2
 cases b<;>simp[behindInMarks,e1,e2]
theorem q1w {op:CmpOp}{r:R2}(ho:OpR X (compareOp op) r)(ha:PE X a ta)(hb:PE X b tb)(hm:behindInMarks op b=false):PE X (.Compare a [op] [b] pos) (tOp r ta tb):=by
 intro pins s σ H Q I h
 exact wpAny_Compare1 (binT ha hb I h fun v u s2 x y H2 I2 rx ry q=>ho pins s2 σ H2 x y v u Q I2 rx ry q) hm
def tTest (t:TE):TT:=fun σ H Q=>t σ H fun x H'=>∃k,x= .bl k/\Q k H'
theorem qr {op:CmpOp}{r:R2}(ho:OpR X (compareOp op) r)(ha:PE X a ta)(hb:PE X b tb)(hm:behindInMarks op b=false):PT X (.Compare a [op] [b] pos) (tTest (tOp r ta tb)):=by
 intro pins s σ H Q I h
 refine wpAny_isTrue_Compare1 (thn (ha pins s σ H _ I h) fun v s1 ⟨x,H1,I1,r1,q1⟩=>thn (hb pins s1 σ H1 _ I1 q1) fun u s2 ⟨y,H2,I2,r2,q2⟩=>
  thn (ho pins s2 σ H2 x y v u _ I2 r1 r2 q2) fun c s3 ⟨z,H3,I3,r3,k,e,q3⟩=>?_) hm
 subst e
 cases r3
 exact za6 ⟨H3,I3,q3⟩
def q7o (r r':R2)(ta tb tc:TE):TE:=fun σ H Q=>ta σ H fun x H1=>tb σ H1 fun y H2=>r x y H2 fun z H3=>∃k,z= .bl k/\
 (if k=true then tc σ H3 fun w' H4=>r' y w' H4 Q else Q (.bl false) H3)
theorem q6m {op op':CmpOp}{r r':R2}(ho:OpR X (compareOp op) r)(ho':OpR X (compareOp op') r')(ha:PE X a ta)(hb:PE X b tb)(hc:PE X c tc)
  (hm:lastMarks [op,op'] [b,c]=false:=by with_unfolding_all rfl):PE X (.Compare a [op,op'] [b,c] pos) (q7o r r' ta tb tc):=by
 intro pins s σ H Q I h
 refine Compare_chain (thn (ha pins s σ H _ I h) fun v s1 ⟨x,H1,I1,r1,q1⟩=>chain_link (thn (hb pins s1 σ H1 _ I1 q1) fun u s2 ⟨y,H2,I2,r2,q2⟩=>
  thn (ho pins s2 σ H2 x y v u _ I2 r1 r2 q2) fun d s3 ⟨z,H3,I3,r3,k,e,q3⟩=>?_)) hm
 subst e
 cases r3
 refine za6 ?_
 cases k with
 |false=>exact ite_ff ⟨.bl false,H3,I3,rfl,q3⟩
 |true=>exact ite_tt (chain_last (thn (hc pins s3 σ H3 _ I3 q3) fun w' s4 ⟨z',H4,I4,r4,q4⟩=>ho' pins s4 σ H4 y z' u w' Q I4 r2 r4 q4))
theorem q3I:(sizeLine:Nat)<2 ^ 63:=by rw[sizeLine_eq];decide
theorem q2u {x:V}{us:List Value}(r:Vals [x] us):∃u,us=[u]/\RelV x u:=by
 cases r with
 |cons r1 r2=>cases r2;exact⟨_,rfl,r1⟩
theorem q7i {x y:V}{us:List Value}(r:Vals [x,y] us):∃u w',us=[u,w']/\RelV x u/\RelV y w':=by
 cases r with
 |cons r1 r2=>
  cases r2 with
  |cons r3 r4=>cases r4;exact⟨_,_,rfl,r1,r3⟩
theorem q8T (hc:X.calm=true):q1d X (.builtin "min") (fun xs H Q=>∃i j,xs=[.int i,.int j]/\Q (.int (if j<i then j else i)) H):=by
 intro pins s σ H xs us Q I r h
 obtain⟨i,j,rfl,q⟩:=h
 obtain⟨u,w',rfl,⟨t,rfl⟩,⟨t',rfl⟩⟩:=q7i r
 refine min_two_ints (I.ok.hd hc) fun h' tk k=>⟨_,H,I.kept k,?_,q⟩
 by_cases hj:j<i
 ·rw [zM hj,zM hj];exact⟨_,rfl⟩
 ·rw [zI hj,zI hj];exact⟨_,rfl⟩
theorem q8W:q1d X (.type "int") (fun xs H Q=>(∃i,xs=[.int i]/\Q (.int i) H)\/∃k,xs=[.bl k]/\Q (.int (if k then 1 else 0)) H):=by
 intro pins s σ H xs us Q I r h
 rcases h with⟨i,rfl,q⟩|⟨k,rfl,q⟩
 ·obtain ⟨u,rfl,t,rfl⟩:=q2u r
  exact call_int_int ⟨.int i,H,I,⟨_,rfl⟩,q⟩
 ·obtain ⟨u,rfl,r1⟩:=q2u r
  cases r1
  exact call_int_bool ⟨.int (if k then 1 else 0),H,I.tok _,⟨_,rfl⟩,q⟩
theorem q5x:q1d X (.type "str") (fun xs H Q=>∃i,xs=[.int i]/\i.natAbs.log2<1920/\Q (.str (toString i)) H):=by
 intro pins s σ H xs us Q I r h
 obtain⟨i,rfl,hz,q⟩:=h
 obtain⟨u,rfl,t,rfl⟩:=q2u r
 exact PySem.P.str_of_int hz ⟨.str _,H,I.tok _,⟨_,rfl⟩,q⟩
end
structure ObjM (h:Heap)(x dx C:Addr)(mA:Str->Option Value):Prop where
 obj:h.get? x=some (PySem.W.instObj C dx)
 ns:h.Ns1 dx mA
 ne:dx≠x
theorem q8e {h:Heap}{dx:Addr}{mA:Str->Option Value}(n:h.Ns1 dx mA):∃od,h.get? dx=some od/\∀name,PySem.W.lookIn name od=some (mA name):=by
 obtain⟨o,es,ep,ho,hd,hk,_,hm⟩:=n
 refine⟨o,ho,fun name=>?_⟩
 have e:=hm name
 unfold nsFind findBy at e
 rw[<-Array.find?_toList] at e
 unfold PySem.W.lookIn
 rw[hd]
 dsimp only
 split
 ·rename_i y q
  rw[q] at e
  exact zbj some e
 ·rename_i q
  rw[q] at e
  have a:es.toList.any (·.refKey)=false:=by
   rw[List.any_eq_false]
   intro y hy
   obtain⟨z,t,hkey⟩:=hk y (Array.mem_toList_iff.mp hy)
   simp[DictEntry.refKey,hkey]
  have a':¬es.toList.any (·.refKey)=true:=by rw[a];exact zK
  rw[zI a']
  exact zbj some e
theorem ObjM.look {h:Heap}{x dx C:Addr}{mA:Str->Option Value}(I:ObjM h x dx C mA):∃od,PySem.W.InstAt h x (PySem.W.instObj C dx) C (some od)/\∀name,PySem.W.lookIn name od=some (mA name):=
 let ⟨od,ho,hl⟩:=q8e I.ns
 ⟨od,⟨I.obj,rfl,rfl,ho⟩,hl⟩
section
variable {prog:Program}{w:World}{A:Around}{E:Value->Shared->Prop}{s:Shared}{K:W.Frag}{x dx C f:Addr}{mA:Str->Option Value}{name:Str}{v:Value}
theorem qbI {expr:Bool}{Q:Value->Shared->Prop}(X:K.In s.heap)(I:ObjM s.heap x dx C mA)(hg:PySem.W.plainGet K C name=true)(hh:PySem.W.hasDictIn K C=true)
  (ha:PySem.W.findIn K (.ref C) name=some none)(hv:mA name=some v)(hv':PySem.W.handedIn v=true)(h:Q v {s with toks:=s.toks+1}):
  wpAny (model prog w) A (getAttr (.ref x) name expr) Q E s:=by
 obtain⟨od,J,hl⟩:=I.look
 exact PySem.W.get_value X J (zbY hg).1 (PySem.W.findObj_own hh ha rfl (by rw[hl,hv])) hv' h
theorem q9J {pl:Sem Bool}{Q:Value×List Value->Shared->Prop}(X:K.In s.heap)(I:ObjM s.heap x dx C mA)(hg:PySem.W.plainGet K C name=true)
  (hf:PySem.W.findIn K (.ref C) name=some (some (.ref f)))(ht:PySem.W.isFn K (.ref f)=true)(hv:mA name=none)(h:Q (.ref f,[.ref x]) s):
  wpAny (model prog w) A (getMethod (.ref x) name pl) Q E s:=by
 obtain⟨od,J,hl⟩:=I.look
 exact PySem.W.method_fn X J (zbY hg).1 (zbY hg).2 hf (beq_iff_eq.mp ht) (by show(PySem.W.lookIn name od).map (·.isSome)=some false;rw[hl,hv];rfl) h
theorem set_map {ns:List Str}{Q:Unit->Shared->Prop}(X:K.In s.heap)(I:ObjM s.heap x dx C mA)
  (hs:PySem.W.findIn K (.ref C) "__setattr__"=some (some (.builtin "object.__setattr__")))(hp:PySem.W.plainOver K C=true)(ht:PySem.W.takerIn K C name=some none)(hh:PySem.W.hasDictIn K C=true)
  (hw:PySem.Within mA ns)(hsz:ns.length<=sizeLine)
  (h:∀h',ObjM h' x dx C (fun y=>if y=name then some v else mA y)->Heap.SameBut dx s.heap h'->Q () {s with heap:=h',toks:=s.toks+2}):
  wpAny (model prog w) A (setAttr (.ref x) name v) Q E s:=by
 obtain⟨od,J,hl⟩:=I.look
 refine PySem.W.set_plain X J hs (PySem.W.osa_open (s:={s with toks:=s.toks+1}) (r:=none) X J hp ht fun b=>?_)
 obtain⟨cd,hc,hd'⟩:=PySem.W.any_some hh
 have hx:s.heap.get? x=some ⟨.ref C,some dx,.plain,#[]⟩:=I.obj
 refine yD (zA (yD (yD (zb1 hx (yD (PySem.W.Looks.here (s:={s with toks:=s.toks+1}) (PySem.W.looks_clsIn X hc) ?_))))))
 rw[hd']
 refine zA (a:=some dx) (yD (zA (yD ?_)))
 refine wpAny_nsSet1 (s:={s with toks:=s.toks+1}) I.ns fun h' hn2 hs2=>?_
 obtain⟨oD,esD,epD,hoD,hdD,hcD⟩:=hn2.count (PySem.Within.cons name v hw)
 refine yD (wpAny_lookBehind hoD (by rw[hdD];exact pastItsLine_dict (zap hcD (by rw[zaf];omega))) ?_)
 exact zA (h _ ⟨(hs2.2 _ (Ne.symm I.ne)).trans I.obj,hn2,I.ne⟩ hs2)
theorem q9w {R:Result->Shared->Prop}{vs:List Value}{kw:List (Str×Value)}(X:K.In s.heap)(hm:PySem.W.makesIn K C=true)
  (hi:PySem.W.findIn K (.ref C) "__init__"=some (some (.ref f)))(hf:PySem.W.typeIn K (.ref f)=some (.type "function"))
  (h:codeAny (model prog w) (A.under (.builtin "type.__call__" ⟨.ref C::vs,kw⟩)) (.call (.ref f) ⟨.ref (s.heap.objs.size+1)::vs,kw⟩) (PySem.W.InitBack (s.heap.objs.size+1) R)
   {s with heap:=(s.heap.push PySem.W.emptyDict).push (PySem.W.instObj C s.heap.objs.size)}):
  codeAny (model prog w) A (.call (.ref C) ⟨vs,kw⟩) R s:=by
 obtain⟨hh,g,d,t,os⟩:=s
 exact PySem.W.make_core (PySem.W.makes_of X hm) (zbP X hi) (fun self=>PySem.W.bind_fn X self hf) (.inl rfl) h
end
def putF (f:Str)(v:V):List (Str×V)->List (Str×V)
 |[]=>[(f,v)]
 |(g,x)::r=>if g=f then(g,v)::r else(g,x)::putF f v r
theorem q0O (f g:Str)(v:V):∀fs:List (Str×V),(putF f v fs).lookup g=if g=f then some v else fs.lookup g
 |[]=>by
  show List.lookup g [(f,v)]=_
  by_cases h:g=f
  ·have hb:(g==f)=true:=beq_iff_eq.mpr h
   simp only[List.lookup,hb,if_pos h]
  ·have hb:(g==f)=false:=beq_eq_false_iff_ne.mpr h
   simp only[List.lookup,hb,if_neg h]
 |(k,x)::r=>by
  have ih:=q0O f g v r
  rw[show putF f v ((k,x)::r)=(if k=f then(k,v)::r else(k,x)::putF f v r) from rfl]
  by_cases hk:k=f
  ·rw [zM hk]
   by_cases h:g=k
   ·have hb:(g==k)=true:=beq_iff_eq.mpr h
    simp only[List.lookup,hb,if_pos (h.trans hk)]
   ·have hb:(g==k)=false:=beq_eq_false_iff_ne.mpr h
    simp only[List.lookup,hb,if_neg (fun e:g=f=>h (e.trans hk.symm))]
  ·rw [zI hk]
   by_cases h:g=k
   ·have hb:(g==k)=true:=beq_iff_eq.mpr h
    simp only[List.lookup,hb,if_neg (fun e:g=f=>hk (h.symm.trans e))]
   ·have hb:(g==k)=false:=beq_eq_false_iff_ne.mpr h
    simp only[List.lookup,hb]
    exact ih
theorem q2b (f:Str)(v:V):∀fs:List (Str×V),f∈(putF f v fs).map (·.1)/\∀g,g∈fs.map (·.1)->g∈(putF f v fs).map (·.1)
 |[]=>⟨by simp[putF],fun g h=>by simp at h⟩
 |(k,x)::r=>by
  obtain⟨i1,i2⟩:=q2b f v r
  rw[show putF f v ((k,x)::r)=(if k=f then(k,v)::r else(k,x)::putF f v r) from rfl]
  by_cases hk:k=f
  ·rw [zM hk]
   subst hk
   exact⟨by simp,fun g h=>by simpa using h⟩
  ·rw [zI hk]
   refine⟨?_,fun g h=>?_⟩
   ·rw [zao]
    exact zF _ i1
   ·rw [zao] at h ⊢
    rcases zJ.mp h with e|e
    ·exact zJ.mpr (.inl e)
    ·exact zF _ (i2 g e)
theorem q2z (f:Str)(v:V):∀fs:List (Str×V),(putF f v fs).length<=fs.length+1
 |[]=>by simp[putF]
 |(k,x)::r=>by
  have ih:=q2z f v r
  rw[show putF f v ((k,x)::r)=(if k=f then(k,v)::r else(k,x)::putF f v r) from rfl]
  by_cases hk:k=f
  ·rw [zM hk,zaf,zaf];omega
  ·rw [zI hk,zaf,zaf];omega
theorem RelO.some_of {v:V}{o:Option Value}(r:RelO (some v) o):∃u,o=some u/\RelV v u:=by
 cases o with
 |none=>exact(show False from r).elim
 |some u=>exact⟨u,rfl,r⟩
theorem RelO.none_of {o:Option Value}(r:RelO none o):o=none:=by
 cases o with
 |none=>rfl
 |some u=>exact(show False from r).elim
theorem q5s {v:V}{u:Value}(r:RelV v u):PySem.W.handedIn u=true:=by
 cases v with
 |non=>cases(show u=Value.none from r);rfl
 |bl b=>cases(show u=Value.bool b from r);rfl
 |int i=>obtain⟨t,e⟩:=(show∃t,u=Value.int i t from r);cases e;rfl
 |str x=>obtain⟨t,e⟩:=(show∃t,u=Value.str x t from r);cases e;rfl
 |byt b=>obtain⟨t,e⟩:=(show∃t,u=Value.bytes b t from r);cases e;rfl
 |flt b=>obtain⟨t,e⟩:=(show∃t,u=Value.float b t from r);cases e;rfl
 |ref a=>cases(show u=Value.ref a from r);rfl
 |ty n=>cases(show u=Value.type n from r);rfl
section
variable {P:Program}{w:World}{H H':Hp}{h h':Heap}{a C dx:Addr}{fs fs':List (Str×V)}
theorem q4D (hok:HOk P w H h)(e:H a=some (.ins C dx fs)):∃mA,ObjM h a dx C mA/\(∀f,RelO (fs.lookup f) (mA f))/\PySem.Within mA (fs.map (·.1))/\fs.length<=1000/\H dx=some (.own a):=by
 obtain⟨d,z,ne,ob,mA,n,r,q⟩:=(show q0j P w H h a (.ins C dx fs) from hok a _ e)
 exact⟨mA,⟨ob,n,ne⟩,r,q,z,d⟩
end
structure Cls (K:W.Frag)(C:Addr):Prop where
 pg:PySem.W.plainGet K C Str.empty=true
 hd:PySem.W.hasDictIn K C=true
 po:PySem.W.plainOver K C=true
 sa:PySem.W.findIn K (.ref C) "__setattr__"=some (some (.builtin "object.__setattr__"))
theorem Cls.get {K:W.Frag}{C:Addr}(c:Cls K C)(f:Str):PySem.W.plainGet K C f=true:=c.pg
def q0a (K:W.Frag)(C:Addr)(f:Str):Prop:=PySem.W.findIn K (.ref C) f=some none
theorem q0a.taker {K:W.Frag}{C:Addr}{f:Str}(n:q0a K C f):PySem.W.takerIn K C f=some none:=by
 unfold PySem.W.takerIn
 rw[show PySem.W.findIn K (.ref C) f=some none from n]
 rfl
structure Meth (K:W.Frag)(C:Addr)(m:Str)(f:Addr):Prop where
 at_:PySem.W.findIn K (.ref C) m=some (some (.ref f))
 fn:PySem.W.isFn K (.ref f)=true
 kp:PySem.W.keepIn K (.ref f)=true
section
variable {X:Cx}{pins:List (Addr×Obj)}{σ:St}{H:Hp}{s:Shared}{a C dx:Addr}{fs:List (Str×V)}{f:Str}{v:V}{A:Around}{E:Value->Shared->Prop}
theorem q77 {b:Bool}{Q:Value->Shared->Prop}(I:Inv X pins σ H s)(e:H a=some (.ins C dx fs))(c:Cls X.K C)(n:q0a X.K C f)(l:fs.lookup f=some v)
  (h:∀u s',Inv X pins σ H s'->RelV v u->Q u s'):wpAny (model X.prog X.w) A (getAttr (.ref a) f b) Q E s:=by
 obtain⟨mA,O,r,_,_,_⟩:=q4D I.hok e
 obtain⟨u,hu,ru⟩:=RelO.some_of (v:=v) (o:=mA f) (by rw[<-l];exact r f)
 exact qbI I.kIn O (c.get f) c.hd n hu (q5s ru) (h u _ (I.tok _) ru)
theorem q76 {m:Str}{g:Addr}{pl:Sem Bool}{Q:Value×List Value->Shared->Prop}(I:Inv X pins σ H s)(e:H a=some (.ins C dx fs))(c:Cls X.K C)(k:Meth X.K C m g)(l:fs.lookup m=none)
  (h:Q (.ref g,[.ref a]) s):wpAny (model X.prog X.w) A (getMethod (.ref a) m pl) Q E s:=by
 obtain⟨mA,O,r,_,_,_⟩:=q4D I.hok e
 have hn:mA m=none:=RelO.none_of (by rw[<-l];exact r m)
 exact q9J I.kIn O (c.get m) k.at_ k.fn hn h
theorem q6R {y:V}{u:Value}{Q:Unit->Shared->Prop}(I:Inv X pins σ H s)(e:H a=some (.ins C dx fs))(c:Cls X.K C)(n:q0a X.K C f)(hl:fs.length<1000)(ry:RelV y u)
  (h:∀s',Inv X pins σ (upd H a (.ins C dx (putF f y fs))) s'->Q () s'):wpAny (model X.prog X.w) A (setAttr (.ref a) f u) Q E s:=by
 obtain⟨mA,O,r,wi,_,ho⟩:=q4D I.hok e
 have hz:(fs.map (·.1)).length<=sizeLine:=by rw[yC,sizeLine_eq];omega
 refine set_map I.kIn O c.sa c.po n.taker c.hd wi hz fun h' O' sb=>h _ ?_
 have hd:∃o,h'.get? dx=some o:=let ⟨o,_,_,e',_⟩:=O'.ns;⟨o,e'⟩
 refine I.write (x:=a) (e:=dx) (by rw[e];exact True.intro) (.inr ho) (fun b q hb z=>(sb.2 b hb).trans z) hd ?_
 refine⟨by rw[qm O.ne];exact ho,?_,O.ne,O'.obj,_,O'.ns,fun g=>?_,fun g hg=>?_⟩
 ·have:=q2z f y fs;omega
 ·show RelO ((putF f y fs).lookup g) (if g=f then some u else mA g)
  rw[q0O]
  by_cases q:g=f
  ·rw [zM q,zM q];exact ry
  ·rw [zI q,zI q];exact r g
 ·by_cases q:g=f
  ·rw [q];exact(q2b f y fs).1
  ·refine (q2b f y fs).2 g (wi g fun z=>hg ?_)
   show(if g=f then some u else mA g)=none
   rw[zI q];exact z
theorem Inv.made (I:Inv X pins σ H s):Inv X pins σ (upd (upd H s.heap.objs.size (.own (s.heap.objs.size+1))) (s.heap.objs.size+1) (.ins C s.heap.objs.size []))
  {s with heap:=(s.heap.push PySem.W.emptyDict).push (PySem.W.instObj C s.heap.objs.size)}:=by
 have e1:(s.heap.push PySem.W.emptyDict).get? s.heap.objs.size=some PySem.W.emptyDict:=zO s.heap rfl
 have e2:((s.heap.push PySem.W.emptyDict).push (PySem.W.instObj C s.heap.objs.size)).get? (s.heap.objs.size+1)=some (PySem.W.instObj C s.heap.objs.size):=by
  have:=zO (s.heap.push PySem.W.emptyDict) (o:=PySem.W.instObj C s.heap.objs.size) rfl
  rwa [za8] at this
 have e3:(s.heap.push PySem.W.emptyDict).Ns s.heap.objs.size (fun _=>none):=⟨PySem.W.emptyDict,#[],_,e1,rfl,(fun e he=>absurd he (by simp)),fun _=>rfl⟩
 have I1:=I.laid (a:=s.heap.objs.size) (o:= .own (s.heap.objs.size+1)) (h':=s.heap.push PySem.W.emptyDict) (t':=s.toks) (fun b u q=>zB _ q) (zC _) ⟨_,e1⟩
 refine I1.laid (a:=s.heap.objs.size+1) (o:= .ins C s.heap.objs.size []) (t':=s.toks) (fun b u q=>zB _ q) (Nat.le_of_eq (za8 _ _)) ?_
 have ne:s.heap.objs.size≠s.heap.objs.size+1:=zP (Nat.lt_succ_self _)
 refine⟨by rw[qm ne,qh],zbC _,ne,e2,fun _=>none,(Heap.Ns1.of_empty e3).at fun o q=>zB _ q,fun _=>True.intro,fun y hy=>absurd rfl hy⟩
theorem q91 {prog:Program}{w:World}{env:Env}{e:Expr}{f:Str}{pos:Pos}{s:Shared}{Q:Value->Shared->Prop}(hb:attributeBase e f env (eval e env)=eval e env)
  (h:wpAny (model prog w) A (eval e env) (fun o s₁=>wpAny (model prog w) A (getAttr o f true) Q E s₁) E s):wpAny (model prog w) A (eval (.Attribute e f pos) env) Q E s:=
 Attribute_any_ h (by rw[arm_eval_Attribute,hb])
end
def tFld (K:W.Frag)(ta:TE)(f:Str):TE:=fun σ H Q=>ta σ H fun x H1=>∃a C dx fs v,x= .ref a/\H1 a=some (.ins C dx fs)/\Cls K C/\q0a K C f/\fs.lookup f=some v/\Q v H1
def sFld (K:W.Frag)(ta tv:TE)(f:Str):TS:=fun D σ H=>tv σ H fun y H1=>ta σ H1 fun x H2=>∃a C dx fs,x= .ref a/\H2 a=some (.ins C dx fs)/\Cls K C/\q0a K C f/\fs.length<1000/\
 D.nx σ (upd H2 a (.ins C dx (putF f y fs)))
section
variable {X:Cx}{o e value:Expr}{f:Str}{pos pos' tpos:Pos}{ta tv:TE}
theorem pe_fld (he:PE X e ta)(hb:attributeBase e f X.env (eval e X.env)=eval e X.env):PE X (.Attribute e f pos) (tFld X.K ta f):=by
 intro pins s σ H Q I h
 refine q91 hb (thn (he pins s σ H _ I h) fun u s1 ⟨x,H1,I1,rx,a,C,dx,fs,v,ex,ea,c,n,l,q⟩=>?_)
 subst ex
 obtain rfl:u=Value.ref a:=rx
 exact q77 I1 ea c n l fun u' s2 I2 ru=>⟨v,H1,I2,ru,q⟩
theorem ps_fld (ha:PE X o ta)(hv:PE X value tv)(hs:swapsWith value (some (.Attribute o f pos')) pos.line X.env=pure false):PS X (.Assign [.Attribute o f pos'] value pos) (sFld X.K ta tv f):=by
 intro pins s σ H D I h
 refine plainObj_wpAny_Assign_Attribute (thn (hv pins s σ H _ I h) fun u s1 ⟨y,H1,I1,ry,q⟩=>thn (ha pins s1 σ H1 _ I1 q) fun ov s2 ⟨x,H2,I2,rx,a,C,dx,fs,ex,ea,c,n,l,q2⟩=>?_) hs
 subst ex
 obtain rfl:ov=Value.ref a:=rx
 exact q6R I2 ea c n l ry fun s3 I3=>⟨σ,_,I3,q2⟩
end
section
variable {X:Cx}{pins:List (Addr×Obj)}{σ:St}{H:Hp}{s:Shared}{A:Around}{E:Value->Shared->Prop}{Q:Value->Shared->Prop}{c:Value}{b:Bool}
inductive TyOf (K:W.Frag)(H:Hp):V->Value->Prop where
 |non:TyOf K H .non (.type "NoneType")
 |bl (x:Bool):TyOf K H (.bl x) (.type "bool")
 |int (i:Int):TyOf K H (.int i) (.type "int")
 |str (x:Str):TyOf K H (.str x) (.type "str")
 |flt (x:UInt64):TyOf K H (.flt x) (.type "float")
 |lst {a:Addr} {xs:List V} (e:H a=some (.lst xs)):TyOf K H (.ref a) (.type "list")
 |frz {a:Addr} {o:Obj} {xs:List V} (e:H a=some (.frz o (.lst xs))):TyOf K H (.ref a) (.type "list")
 |tup {a:Addr} {xs:List V} (e:H a=some (.tup xs)):TyOf K H (.ref a) (.type "tuple")
 |dK {a:Addr} {kvs:List (Key×V)} (e:H a=some (.dK kvs)):TyOf K H (.ref a) (.type "dict")
 |dT {a:Addr} {kvs:List (List Key×V)} (e:H a=some (.dT kvs)):TyOf K H (.ref a) (.type "dict")
 | ins {a C dx:Addr} {fs:List (Str×V)} (e:H a=some (.ins C dx fs)) (cl:Cls K C) (ha:PySem.W.findIn K (.ref C) "__class__"=some (some (.builtin "object.__class__")))
   (hn:PySem.W.specialIn K (.builtin "object.__class__") "__get__"=some (some (.builtin "getset_descriptor.__get__"))) (htk:PySem.W.takesIn K (.builtin "object.__class__")=some true)
   (hm:PySem.W.mroIn K C (.type "object")=some true):TyOf K H (.ref a) (.ref C)
theorem q8t {x:V}{u t:Value}(I:Inv X pins σ H s)(rx:RelV x u)(ty:TyOf X.K H x t)(e:PySem.W.kitOne X.K t c=some b)(h:∀tk,Q (.bool b) {s with toks:=tk}):
  wpAny (model X.prog X.w) A (call (.builtin "isinstance") [u,c]) Q E s:=by
 cases ty with
 |non=>cases(show u=Value.none from rx);exact zaC PySem.W.kitx_none I.kIn True.intro e (fun z=>nomatch z) h
 |bl y=>cases(show u=Value.bool y from rx);exact zaC PySem.W.kitx_bool I.kIn True.intro e (fun z=>nomatch z) h
 |int i=>obtain⟨t,q⟩:=(show∃t,u=Value.int i t from rx);cases q;exact zaC PySem.W.kitx_int I.kIn True.intro e (fun z=>nomatch z) h
 |str y=>obtain⟨t,q⟩:=(show∃t,u=Value.str y t from rx);cases q;exact zaC PySem.W.kitx_str I.kIn True.intro e (fun z=>nomatch z) h
 |flt y=>obtain⟨t,q⟩:=(show∃t,u=Value.float y t from rx);cases q;exact zaC PySem.W.kitx_float I.kIn True.intro e (fun z=>nomatch z) h
 | @lst a xs ea=>
  cases(show u=Value.ref a from rx)
  obtain⟨_,_,n,_,h1⟩:=(show q0j X.prog X.w H s.heap a (.lst xs) from I.hok a _ ea)
  exact zaC PySem.W.kitx_list I.kIn ⟨_,h1,rfl⟩ e (fun z=>nomatch z) h
 | @frz a ob xs ea=>
  cases(show u=Value.ref a from rx)
  obtain⟨_,_,_,n,_,h1⟩:=(show q0j X.prog X.w H s.heap a (.frz ob (.lst xs)) from I.hok a _ ea)
  exact zaC PySem.W.kitx_list I.kIn ⟨_,h1,rfl⟩ e (fun z=>nomatch z) h
 | @tup a xs ea=>
  cases(show u=Value.ref a from rx)
  obtain⟨_,_,_,p⟩:=(show q0j X.prog X.w H s.heap a (.tup xs) from I.hok a _ ea)
  obtain⟨o,h1,h2,_⟩:=p
  exact zaC PySem.W.kitx_tuple I.kIn ⟨o,h1,h2⟩ e (fun z=>nomatch z) h
 | @dK a kvs ea=>
  cases(show u=Value.ref a from rx)
  obtain⟨_,_,vs,_,p⟩:=(show q0j X.prog X.w H s.heap a (.dK kvs) from I.hok a _ ea)
  obtain⟨o,es,ep,h1,h2,_⟩:=p
  exact zaC PySem.W.kitx_dict I.kIn ⟨o,h1,h2.1⟩ e (fun z=>nomatch z) h
 | @dT a kvs ea=>
  cases(show u=Value.ref a from rx)
  obtain⟨_,_,xs,_,o,es,ep,h1,h2,_⟩:=(show q0j X.prog X.w H s.heap a (.dT kvs) from I.hok a _ ea)
  exact zaC PySem.W.kitx_dict I.kIn ⟨o,h1,h2.1⟩ e (fun z=>nomatch z) h
 | @ins a C dx fs ea cl ha hn htk hm=>
  cases(show u=Value.ref a from rx)
  obtain⟨mA,O,_⟩:=q4D I.hok ea
  obtain⟨od,J,_⟩:=O.look
  exact zaC (PySem.W.kitx_own (cl.get _) cl.hd ha hn htk hm) I.kIn J e (fun z=>nomatch z) h
end
structure Room (k:Nat)(A:Around):Prop where
 hd:A.handled=none
 dp:A.depth+3*k+5<recursionLimit
 un:A.units+16*k+200<cLine
 gd:A.guards=some []
theorem Room.mono {j k:Nat}{A:Around}(r:Room k A)(h:j<=k):Room j A:=⟨r.hd,by have:=r.dp;omega,by have:=r.un;omega,r.gd⟩
theorem Room.deeper {k:Nat}{A:Around}(r:Room (k+1) A)(env:Env):Room k (A.deeper env):=
 ⟨r.hd,by have:=r.dp;show A.depth+1+3*k+5<_;omega,by have:=r.un;show A.units+3+16*k+200<_;omega,r.gd⟩
theorem q49 {A:Around}{C:Addr}{us:List Value}{kw:List (Str×Value)}:(A.under (.builtin "type.__call__" ⟨.ref C::us,kw⟩)).depth=A.depth+1:=by
 first|rfl|simp[Around.under,Code.weight,Code.isCreation,Code.isGuard,Code.isCaller,Code.frames,Code.isFrame,guardIds]
theorem q48 {A:Around}{C:Addr}{us:List Value}{kw:List (Str×Value)}:(A.under (.builtin "type.__call__" ⟨.ref C::us,kw⟩)).units=A.units+1:=by
 first|rfl|simp[Around.under,Code.cUnits,Code.frames,Code.isFrame]
theorem Room.make {k:Nat}{A:Around}(r:Room (k+1) A)(C:Addr)(us:List Value)(kw:List (Str×Value)):Room k (A.under (.builtin "type.__call__" ⟨.ref C::us,kw⟩)):=
 ⟨r.hd,by have:=r.dp;rw[q49];omega,by have:=r.un;rw[q48];omega,by simp[Around.under,Code.guards,Code.isGuard,guardIds,pushGuards,r.gd]⟩
theorem Room.depth {k:Nat}{A:Around}(r:Room k A):A.depth<recursionLimit:=by have:=r.dp;omega
theorem Room.units {k:Nat}{A:Around}(r:Room k A):A.units+64<cLine:=by have:=r.un;omega
def tNil:TA:=fun _ H Q=>Q [] H
def q5J (ta:TE)(tr:TA):TA:=fun σ H Q=>ta σ H fun x H1=>tr σ H1 fun xs H2=>Q (x::xs) H2
section
variable {X:Cx}{e:Expr}{es:List Expr}{te:TE}{t:TA}{pos:Pos}
theorem qc:PA X [] tNil:=fun _ _ _ _ H Q I h=>Calls.spliced_nil ⟨[],H,I,.nil,h⟩
theorem qa (ha:PE X e te)(hr:PA X es t)(hs:starEach (e::es) X.env=(false,eval e X.env)::starEach es X.env:=by rfl):PA X (e::es) (q5J te t):=by
 intro pos pins s σ H Q I h
 rw[hs]
 show wpAny _ _ (spliced ((false,eval e X.env)::backTo pos (starEach es X.env))) _ _ s
 refine Calls.spliced_cons (thn (ha pins s σ H _ I h) fun u s1 ⟨x,H1,I1,r1,q1⟩=>?_)
 exact thn (hr pos pins s1 σ H1 _ I1 q1) fun us s2 ⟨xs,H2,I2,r2,q2⟩=>⟨x::xs,H2,I2,.cons r1 r2,q2⟩
def tTup (t:TA):TE:=fun σ H Q=>t σ H fun xs H1=>xs.length<=sizeLine/\∀p,H1 p=none->Q (.ref p) (upd H1 p (.tup xs))
def tLst (t:TA):TE:=fun σ H Q=>t σ H fun xs H1=>xs.length<=sizeLine/\∀p,H1 p=none->Q (.ref p) (upd H1 p (.lst xs))
theorem qJ {x1}(h:PA X es t):PE X (.Tuple es x1 pos) (tTup t):=by
 intro pins s σ H Q I hq
 refine wpAny_Tuple_spliced (thn (h pos pins s σ H _ I hq) fun us s1 ⟨xs,H1,I1,r,z,q⟩=>⟨by rw[<-r.length];exact z,?_⟩)
 have hf:H1 s1.heap.objs.size=none:=I1.hok.fresh (zC _)
 refine⟨.ref s1.heap.objs.size,upd H1 s1.heap.objs.size (.tup xs),I1.laid (t':=s1.toks) (fun b u e=>zB _ e) (zC _) ?_,rfl,q _ hf⟩
 exact⟨z,us,r,⟨_,zO _ rfl,rfl,_,rfl⟩⟩
theorem qK (h:PA X es t):PE X (.List es pos) (tLst t):=by
 intro pins s σ H Q I hq
 refine wpAny_List_spliced (thn (h pos pins s σ H _ I hq) fun us s1 ⟨xs,H1,I1,r,z,q⟩=>⟨by rw[<-r.length];exact z,?_⟩)
 have hf:H1 s1.heap.objs.size=none:=I1.hok.fresh (zC _)
 refine⟨.ref s1.heap.objs.size,upd H1 s1.heap.objs.size (.lst xs),I1.laid (t':=s1.toks) (fun b u e=>zB _ e) (zC _) ?_,rfl,q _ hf⟩
 exact⟨z,us,0,r,zO _ rfl⟩
end
abbrev Sp:=List V->Hp->VK->XK->Prop
abbrev CXT:=List Env->Hp->Shared->XK->Value->Shared->Prop
structure Env0 (P:Program)(w:World)(K:W.Frag)(mg:Str->Option Value)(base:Heap)(A:Around)(outer:List Env)(s:Shared)(H:Hp):Prop where
 frames:A.frames=some outer
 mod:Mod K mg base
 bs:∀b o,base.get? b=some o->s.heap.get? b=some o/\H b=none
 bsz:base.objs.size<=s.heap.objs.size
 funs:s.heap.FunFrames base outer
 frf:∀b∈frs outer,H b=none
 hok:HOk P w H s.heap
 bare:AllBare s.gens
def CE (outer:List Env)(P:Program)(w:World)(H:Hp)(s:Shared)(Q:VK)(u:Value)(s':Shared):Prop:=
 ∃v H',s'.os=s.os/\AllBare s'.gens/\Un (frs outer) [] H H' s.heap s'.heap/\HOk P w H' s'.heap/\RelV v u/\Q v H'
def CR (CX:CXT)(outer:List Env)(P:Program)(w:World)(H:Hp)(s:Shared)(Q:VK)(E:XK)(r:Result)(s':Shared):Prop:=
 match r with
 | .ok (.ret u)=>CE outer P w H s Q u s'
 | .ok _=>False
 | .error e=>CX outer H s E e s'
structure FnOk (P:Program)(w:World)(K:W.Frag)(mg:Str->Option Value)(base:Heap)(CX:CXT)(k:Nat)(f:Addr)(fd:FuncData)(ps:List Str)(sp:Sp):Prop where
 len:∀vs H Q E,sp vs H Q E->vs.length=ps.length
 run:∀(A:Around) (outer:List Env) (s:Shared) (H:Hp) (args:Args) (us:List Value) (vs:List V) (Q:VK) (E:XK),Room k A->Env0 P w K mg base A outer s H->BindsTo s fd args (ps.zip us)->Vals vs us->sp vs H Q E->
  codeAny (model P w) A (.call (.ref f) args) (CR CX outer P w H s Q E) s
theorem Env0.make {P:Program}{w:World}{K:W.Frag}{mg:Str->Option Value}{base:Heap}{A:Around}{outer:List Env}{s:Shared}{H:Hp}(e:Env0 P w K mg base A outer s H)(C:Addr)(us:List Value)(kw:List (Str×Value)):
  Env0 P w K mg base (A.under (.builtin "type.__call__" ⟨.ref C::us,kw⟩)) outer s H:=⟨by first|exact e.frames|(simpa[Around.under,Code.envs,Code.isFrame,pushEnvs] using e.frames),e.mod,e.bs,e.bsz,e.funs,e.frf,e.hok,e.bare⟩
section
variable {X:Cx}{pins:List (Addr×Obj)}{σ:St}{H:Hp}{s s':Shared}
theorem Inv.env0 (I:Inv X pins σ H s):Env0 X.prog X.w X.K X.mg X.base X.A X.stack s H:=
 ⟨I.ok.frames,I.ok.mod,I.bs,zap I.ok.bsz I.sz,I.stack,I.stkFree,I.hok,I.bare⟩
theorem Inv.after {Q:VK}{u:Value}(I:Inv X pins σ H s)(h:CE X.stack X.prog X.w H s Q u s'):EP X pins σ Q u s':=by
 obtain⟨v,H',os,bare,un,hok,r,q⟩:=h
 obtain⟨hh,g,d,t,os'⟩:=s'
 obtain rfl:os'=s.os:=os
 exact⟨v,H',I.call (h':=hh) (g':=g) (d':=d) (t':=t) (ch:=[]) un hok bare (fun b z=>absurd z (by simp)),r,q⟩
end
def q6O (sp:Sp)(dvs:List V)(E:XK)(t:TA):TE:=fun σ H Q=>t σ H fun vs H1=>sp (vs++dvs) H1 Q E
def q7n (C:Addr)(sp:Sp)(dvs:List V)(E:XK)(t:TA):TE:=fun σ H Q=>t σ H fun vs H1=>∀x dx,H1 x=none->H1 dx=none->dx≠x->
 sp (.ref x::(vs++dvs)) (upd (upd H1 dx (.own x)) x (.ins C dx [])) (fun v H2=>v= .non/\Q (.ref x) H2) E
def q1h (K:W.Frag)(fd:FuncData)(ps:List Str)(ds:List Value):Prop:=
 ∀(s:Shared) (us:List Value),K.In s.heap->(us++ds).length=ps.length->BindsTo s fd ⟨us,[]⟩ (ps.zip (us++ds))
theorem q1h.all {K:W.Frag}{fd:FuncData}{ps:List Str}(h:∀us:List Value,us.length=ps.length->bindArgs fd ⟨us,[]⟩=pure (ps.zip us)):q1h K fd ps []:=fun s us _ hl=>by
 rw[zaU] at hl ⊢
 exact .of_eq (h us hl)
def q2R (CX:CXT)(X:Cx)(E:XK):Prop:=∀(pins:List (Addr×Obj)) (σ:St) (H:Hp) (s:Shared) (e:Value) (s':Shared),Inv X pins σ H s->CX X.stack H s E e s'->X.xe e s'
section
variable {X:Cx}{CX:CXT}{k:Nat}{f C:Addr}{fd:FuncData}{ps:List Str}{sp:Sp}{dvs:List V}{ds:List Value}{E:XK}{x m:Str}{p pos apos:Pos}{e o:Expr}{es:List Expr}{ta:TE}{t:TA}
theorem q7E {pins:List (Addr×Obj)}{σ:St}{H:Hp}{s:Shared}{Q:VK}{us:List Value}{vs:List V}(F:FnOk X.prog X.w X.K X.mg X.base CX k f fd ps sp)(hr:Room k X.A)(hb:q1h X.K fd ps ds)(hd:Vals dvs ds)(hx:q2R CX X E)
  (I:Inv X pins σ H s)(r:Vals vs us)(h:sp (vs++dvs) H Q E):wpAny (model X.prog X.w) X.A (call (.ref f) us) (EP X pins σ Q) X.xe s:=by
 have r2:Vals (vs++dvs) (us++ds):=r.append hd
 have hl:(us++ds).length=ps.length:=by rw[<-r2.length];exact F.len _ _ _ _ h
 refine zbf (zbk (F.run X.A X.stack s H ⟨us,[]⟩ (us++ds) (vs++dvs) Q E hr I.env0 (hb s us I.kIn hl) r2 h) fun r s' hq=>?_)
 cases r with
 |error e=>exact hx pins σ H s e s' I hq
 |ok fl=>
  cases fl with
  |ret u=>exact I.after hq
  |next=>exact False.elim hq
  |brk=>exact False.elim hq
  |cont=>exact False.elim hq
theorem q5L (F:FnOk X.prog X.w X.K X.mg X.base CX k f fd ps sp)(hr:Room k X.A)(hg:Gl X x)(hm:X.mg x=some (.ref f))(hk:PySem.W.keepIn X.K (.ref f)=true)(hb:q1h X.K fd ps ds)(hd:Vals dvs ds)(hx:q2R CX X E)
  (ha:PA X (e::es) t)(hdb:(x==("__debug__":Str))=false:=by decide)(he:starEach (e::es) X.env=(false,eval e X.env)::starEach es X.env:=by rfl)(hpl:(backTo pos (starEach es X.env)).any (·.1)=false:=by rfl):
  PE X (.Call (.Name x p) (e::es) [] pos) (q6O sp dvs E t):=by
 intro pins s σ H Q I h
 refine zaH (q1g I hg hm ?_ hdb)
 refine za0 (h₀:=X.base) I.ok.mod.kin hk (thn (ha pos pins s σ H _ I h) fun us s1 ⟨vs,H1,I1,r,q⟩=>⟨I1.kIn,?_⟩) he hpl
 exact q7E F hr hb hd hx I1 r q
structure Mk (K:W.Frag)(C f:Addr):Prop where
 makes:PySem.W.makesIn K C=true
 init:PySem.W.findIn K (.ref C) "__init__"=some (some (.ref f))
 fn:PySem.W.isFn K (.ref f)=true
 kp:PySem.W.keepIn K (.ref C)=true
theorem q6g {pins:List (Addr×Obj)}{σ:St}{H:Hp}{s:Shared}{Q:VK}{us:List Value}{vs:List V}(M:Mk X.K C f)(F:FnOk X.prog X.w X.K X.mg X.base CX k f fd ps sp)(hr:Room (k+1) X.A)(hb:q1h X.K fd ps ds)(hd:Vals dvs ds)
  (hx:q2R CX X E)(I:Inv X pins σ H s)(r:Vals vs us)
  (h:∀x dx,H x=none->H dx=none->dx≠x->sp (.ref x::(vs++dvs)) (upd (upd H dx (.own x)) x (.ins C dx [])) (fun v H2=>v= .non/\Q (.ref x) H2) E):
  wpAny (model X.prog X.w) X.A (call (.ref C) us) (EP X pins σ Q) X.xe s:=by
 have hq:=h (s.heap.objs.size+1) s.heap.objs.size (I.hok.fresh (zb4 _)) (I.hok.fresh (zC _)) (zP (Nat.lt_succ_self _))
 have I2:=Inv.made (C:=C) I
 have r2:Vals (V.ref (s.heap.objs.size+1)::(vs++dvs)) (Value.ref (s.heap.objs.size+1)::(us++ds)):= .cons rfl (r.append hd)
 have hl:(Value.ref (s.heap.objs.size+1)::us++ds).length=ps.length:=by
  have e:=r2.length
  rw[F.len _ _ _ _ hq] at e
  exact e.symm
 refine zbf (q9w (f:=f) I.kIn M.makes M.init (beq_iff_eq.mp M.fn) (zbk (F.run _ X.stack _ _ ⟨Value.ref (s.heap.objs.size+1)::us,[]⟩ (Value.ref (s.heap.objs.size+1)::(us++ds)) _ _ E (hr.make C us [])
  (I2.env0.make C us []) (hb _ (Value.ref (s.heap.objs.size+1)::us) I2.kIn hl) r2 hq) fun r s' hq'=>?_))
 cases r with
 |error e=>exact hx pins σ _ _ e s' I2 hq'
 |ok fl=>
  cases fl with
  |ret u=>
   obtain⟨v,H',I3,rv,ev,q3⟩:=I2.after hq'
   subst ev
   exact⟨rv,⟨V.ref (s.heap.objs.size+1),H',I3,rfl,q3⟩⟩
  |next=>exact False.elim hq'
  |brk=>exact False.elim hq'
  |cont=>exact False.elim hq'
theorem qb9 (M:Mk X.K C f)(F:FnOk X.prog X.w X.K X.mg X.base CX k f fd ps sp)(hr:Room (k+1) X.A)(hg:Gl X x)(hm:X.mg x=some (.ref C))(hb:q1h X.K fd ps ds)(hd:Vals dvs ds)(hx:q2R CX X E)
  (ha:PA X (e::es) t)(hdb:(x==("__debug__":Str))=false:=by decide)(he:starEach (e::es) X.env=(false,eval e X.env)::starEach es X.env:=by rfl)(hpl:(backTo pos (starEach es X.env)).any (·.1)=false:=by rfl):
  PE X (.Call (.Name x p) (e::es) [] pos) (q7n C sp dvs E t):=by
 intro pins s σ H Q I h
 refine zaH (q1g I hg hm ?_ hdb)
 refine za0 (h₀:=X.base) I.ok.mod.kin M.kp (thn (ha pos pins s σ H _ I h) fun us s1 ⟨vs,H1,I1,r,q⟩=>⟨I1.kIn,?_⟩) he hpl
 exact q6g M F hr hb hd hx I1 r q
theorem q9n (M:Mk X.K C f)(F:FnOk X.prog X.w X.K X.mg X.base CX k f fd ps sp)(hr:Room (k+1) X.A)(hg:Gl X x)(hm:X.mg x=some (.ref C))(hb:q1h X.K fd ps ds)(hd:Vals dvs ds)(hx:q2R CX X E)
  (hdb:(x==("__debug__":Str))=false:=by decide):PE X (.Call (.Name x p) [] [] pos) (q7n C sp dvs E tNil):=by
 intro pins s σ H Q I h
 refine zaH (q1g I hg hm ?_ hdb)
 exact PySem.W.callWith_K0 I.kIn M.kp (q6g (us:=[]) M F hr hb hd hx I .nil h)
end
structure FnScope (N P:List Str)(sc:Scope):Prop where
 kind:sc.kind= .function
 co:sc.isCoroutine=false
 gen:sc.isGenerator=false
 nd:N.Nodup
 pre:N.take P.length=P
 par:∀x∈P,sc.names.lookup x=some .local\/sc.names.lookup x=some .cell
 nofree:∀y∈sc.names,y.2≠ .free
theorem q5D {kindOf:Str->Option NameKind}{x:Str}:∀{binds:List (Str×Value)} {m:Str->Option Value},(∀v,(x,v)∉binds)->bindL kindOf binds m x=m x
 |[],_,_=>rfl
 |(n,v)::r,m,h=>by
  unfold bindL
  rw[q5D fun w hw=>h w (zF _ hw)]
  split
  ·have:x≠n:=by rintro rfl;exact h v zam
   simp[this]
  ·rfl
theorem q5F {kindOf:Str->Option NameKind}{x:Str}:∀{binds:List (Str×Value)} {m:Str->Option Value},(∀v,(x,v)∉binds)->bindC kindOf binds m x=m x
 |[],_,_=>rfl
 |(n,v)::r,m,h=>by
  unfold bindC
  rw[q5F fun w hw=>h w (zF _ hw)]
  split
  ·rfl
  ·have:x≠n:=by rintro rfl;exact h v zam
   simp[this]
theorem q5E {kindOf:Str->Option NameKind}{x:Str}{v:Value}:∀{P:List Str} {vs:List Value} {i:Nat} {m:Str->Option Value},P.Nodup->P[i]? =some x->vs[i]? =some v->kindOf x=some .local->
  bindL kindOf (P.zip vs) m x=some v
 |[],_,_,_,_,h,_,_=>by simp at h
 |_::_,[],_,_,_,_,h,_=>by simp at h
 |p::P,w::vs,0,m,nd,h1,h2,hk=>by
  simp at h1 h2;subst h1;subst h2
  show bindL kindOf ((p,w)::P.zip vs) m p=_
  unfold bindL
  rw[q5D fun v hv=>(zbQ.mp nd).1 (zbR hv).1,zM hk]
  simp
 |p::P,w::vs,i+1,m,nd,h1,h2,hk=>by
  show bindL kindOf ((p,w)::P.zip vs) m x=_
  unfold bindL
  exact q5E (i:=i) (zbQ.mp nd).2 (by simpa using h1) (by simpa using h2) hk
theorem q5G {kindOf:Str->Option NameKind}{x:Str}{v:Value}:∀{P:List Str} {vs:List Value} {i:Nat} {m:Str->Option Value},P.Nodup->P[i]? =some x->vs[i]? =some v->kindOf x≠some .local->
  bindC kindOf (P.zip vs) m x=some v
 |[],_,_,_,_,h,_,_=>by simp at h
 |_::_,[],_,_,_,_,h,_=>by simp at h
 |p::P,w::vs,0,m,nd,h1,h2,hk=>by
  simp at h1 h2;subst h1;subst h2
  show bindC kindOf ((p,w)::P.zip vs) m p=_
  unfold bindC
  rw[q5F fun v hv=>(zbQ.mp nd).1 (zbR hv).1,zI hk]
  simp
 |p::P,w::vs,i+1,m,nd,h1,h2,hk=>by
  show bindC kindOf ((p,w)::P.zip vs) m x=_
  unfold bindC
  exact q5G (i:=i) (zbQ.mp nd).2 (by simpa using h1) (by simpa using h2) hk
def q1P (N:List Str)(vs:List V):St:=vs.map some++List.replicate (N.length - vs.length) none
def cxOf (CX:CXT)(P:Program)(w:World)(K:W.Frag)(mg:Str->Option Value)(base:Heap)(N:List Str)(qual:Str)(scope:Scope)(f:Addr)(cd:Value)(A:Around)(outer:List Env)(s:Shared)(H:Hp)(E:XK):Cx where
 prog:=P
 w:=w
 K:=K
 mg:=mg
 base:=base
 A:=A.deeper (envOfC qual scope s.heap.objs.size f cd)
 N:=N
 s₀:=s
 H₀:=H
 env:=envOfC qual scope s.heap.objs.size f cd
 outer:=outer
 stack:=envOfC qual scope s.heap.objs.size f cd::outer
 ex:=[]
 calm:=true
 fn:=fun _=>true
 pn:=[]
 xe:=fun e s'=>wpAny (model P w) (A.deeper (envOfC qual scope s.heap.objs.size f cd)) (leaving (envOfC qual scope s.heap.objs.size f cd) e) (fun _ s''=>CX outer H s E e s'') (fun e' s''=>CX outer H s E e' s'') s'
theorem q6G {sc:Scope}{n:Nat}{x:Str}(h:sc.names.lookup x=some .cell):∃c,(cellsFrom n sc.names []).lookup x=some c:=by
 have q:=zbD sc.names n [] (.inl h)
 exact Option.isSome_iff_exists.mp q
theorem q5r {CX:CXT}{P:Program}{w:World}{K:W.Frag}{mg:Str->Option Value}{base:Heap}{N ps:List Str}{qual:Str}{scope:Scope}{f:Addr}{cd:Value}{A:Around}{outer:List Env}{s s1:Shared}{H:Hp}{E:XK}{us:List Value}{vs:List V}
  (S:FnScope N ps scope)(hd:A.handled=none)(e0:Env0 P w K mg base A outer s H)(hl:vs.length=ps.length)(r:Vals vs us)
  (x:InCallC s s.heap.objs.size (bindL (envOfC qual scope s.heap.objs.size f cd).kindOf (ps.zip us) fun _=>none) (cellsFrom (s.heap.objs.size+1) scope.names []) (bindC (envOfC qual scope s.heap.objs.size f cd).kindOf (ps.zip us) fun _=>none) s1):
  Inv (cxOf CX P w K mg base N qual scope f cd A outer s H E) [] (q1P N vs) H s1:=by
 have hpl:ps.length<=N.length:=by have:=zbj List.length S.pre;rw[zW] at this;omega
 obtain⟨h1,tk,rfl,hk⟩:=x.done
 have noA:∀b:Addr,b∉(cxOf CX P w K mg base N qual scope f cd A outer s H E).ex:=fun b z=>absurd (show b∈([]:List Addr) from z) (by simp)
 refine⟨⟨e0.mod,S.kind,rfl,rfl,zC _,fun y z c h1 h2=>?_,fun y hy=>?_,fun y c _ h=>?_,fun _=>hd,Around.frames_deeper e0.frames,.inr ⟨rfl,rfl⟩,fun b z=>absurd z (noA b),e0.bs,e0.bsz,fun b _ _=>noA b,fun b z=>absurd z (noA b),e0.funs,e0.frf⟩,
  rfl,e0.bare,Un.kept hk,⟨_,x.toInCall.ns,fun i y v h1 h2 h3=>?_⟩,fun y c h=>⟨_,x.cell y c h⟩,e0.hok.fresh (zC _),fun y c h=>?_,fun p hp=>absurd (show p∈([]:List (Addr×Obj)) from hp) (by simp),e0.hok.kept hk,?_⟩
 ·exact name_of_addr x.apart (zaP h1) (zaP h2)
 ·have hy:scope.names.lookup y=some .cell\/scope.names.lookup y=some .free:=hy
  rcases hy with hy|hy
  ·exact q6G hy
  ·exact absurd rfl (S.nofree _ (zaP hy))
 ·exact Nat.le_of_lt (x.above y c (zaP h))
 ·have hi:i<vs.length:=by
   unfold q1P at h2
   by_cases hi:i<vs.length
   ·exact hi
   ·rw [zah (by simpa using hi)] at h2
    rw[List.getElem?_replicate] at h2
    split at h2<;>cases h2
  have ha:vs[i]? =some v:=by
   unfold q1P at h2
   rw[zak (by simpa using hi),zaq] at h2
   cases e:vs[i]? with
   |none=>rw[e] at h2;cases h2
   |some a=>rw[e] at h2;cases h2;rfl
  obtain⟨u,hu,rv⟩:=r.get ha
  have hp:ps[i]? =some y:=by
   rw[<-S.pre,List.getElem?_take_of_lt (by omega)];exact h1
  have ndP:ps.Nodup:=by rw[<-S.pre];exact S.nd.sublist (List.take_sublist _ _)
  refine⟨u,rv,?_⟩
  rcases S.par y (zaD hp) with k|k
  ·exact .inl ⟨k,q5E ndP hp hu k⟩
  ·obtain ⟨c,e⟩:=q6G (n:=s.heap.objs.size+1) k
   refine .inr ⟨.inl k,c,e,?_⟩
   have q:=x.cell y c e
   rw[q5G ndP hp hu (by show scope.names.lookup y≠_;rw[k];decide)] at q
   exact q
 ·exact e0.hok.fresh (Nat.le_of_lt (x.above y c (zaP h)))
 ·unfold q1P
  show _=N.length
  rw[zai,yC,zbK]
  omega
theorem qbL {CX:CXT}{P:Program}{w:World}{K:W.Frag}{mg:Str->Option Value}{base:Heap}{k:Nat}{f:Addr}{name qual:Str}{params:Arguments}{body:List Stmt}{scope:Scope}{dV kV doc pm cdv ct oc:Value}{an od:Option Addr}
  {osl:Array (Option Value)}{N ps:List Str}{sp:Sp}(lk:K.lookup f=some ⟨oc,od,.func (PySem.W.fnOf name qual params body scope dV kV doc pm an cdv ct),osl⟩)(hcd:PySem.W.codeIn K cdv qual=true)(S:FnScope N ps scope)
  (len:∀vs H Q E,sp vs H Q E->vs.length=ps.length)
  (hbody:∀(A:Around) (outer:List Env) (s:Shared) (H:Hp) (vs:List V) (Q:VK) (E:XK),Room k (A.deeper (envOfC qual scope s.heap.objs.size f cdv))->sp vs H Q E->
   ∃t,PSs (cxOf CX P w K mg base N qual scope f cdv A outer s H E) body t/\t {nx:=fun _ H'=>Q .non H',rt:=Q} (q1P N vs) H):
  FnOk P w K mg base CX (k+1) f (PySem.W.fnOf name qual params body scope dV kV doc pm an cdv ct) ps sp:=by
 refine⟨len,fun A outer s H args us vs Q E hr e0 hb r hsp=>?_⟩
 have hl:=len _ _ _ _ hsp
 have KX:K.In s.heap:=e0.mod.kin.keeps fun b o e=>(e0.bs b o e).1
 have lim:s.heap.NoLimit:=e0.mod.nolimit.keeps fun b o e=>(e0.bs b o e).1
 have hkind:∀y∈ps.zip us,scope.names.lookup y.1=some .local\/(scope.names.lookup y.1=some .cell/\((cellsFrom (s.heap.objs.size+1) scope.names []).lookup y.1).isSome=true):=fun⟨n,v⟩ hy=>by
  rcases S.par n (zbR hy).1 with q|q
  ·exact .inl q
  ·exact .inr ⟨q,zbD _ _ _ (.inl q)⟩
 refine codeAny_call_function hr.depth (KX _ _ lk) rfl S.co S.gen rfl (PySem.W.codeRec_of KX hcd) (hb _ _ _ _ ?_)
 refine zcd S.kind hkind fun env he s1 x=>?_
 subst he
 refine⟨lim.keeps x.toInCall.keep,codeAny_func ?_⟩
 obtain⟨t,ht,hq⟩:=hbody A outer s H vs Q E (hr.deeper _) hsp
 have I:Inv (cxOf CX P w K mg base N qual scope f cdv A outer s H E) [] (q1P N vs) H s1:=q5r S hr.hd e0 hl r x
 refine zZ (ht [] s1 (q1P N vs) H _ I hq) (fun fl s' hs=>?_) fun e s' hs=>hs
 have fin:∀{σ':St} {H':Hp} {v:V} {u:Value},Inv (cxOf CX P w K mg base N qual scope f cdv A outer s H E) [] σ' H' s'->RelV v u->Q v H'->CE outer P w H s Q u s':=
  fun {σ' H' v u} J rv q=>⟨v,H',J.os,J.bare,J.base,J.hok,rv,q⟩
 cases fl with
 |ret u=>
  obtain⟨v,σ',H',J,rv,q⟩:=hs
  exact fin J rv q
 |next=>
  obtain⟨σ',H',J,q⟩:=hs
  exact fin (v:=V.non) (u:=Value.none) J rfl q
 |brk=>
  obtain⟨_,_,_,q⟩:=hs
  exact False.elim q
 |cont=>
  obtain⟨_,_,_,q⟩:=hs
  exact False.elim q
section
variable {X:Cx}{x:Str}{p pos:Pos}{e:Expr}{es:List Expr}{t:TA}{id T:String}{r:List V->Hp->VK->Prop}
def tCB (r:List V->Hp->VK->Prop)(t:TA):TE:=fun σ H Q=>t σ H fun vs H1=>r vs H1 Q
theorem qx (hc:q1d X (.builtin id) r)(hg:Gl X x)(hm:X.mg x=none)(hv:bootBuiltins x=some (.builtin id))(ha:PA X (e::es) t)(hn:x≠"__name__":=by decide)(hdb:(x==("__debug__":Str))=false:=by decide)
  (he:starEach (e::es) X.env=(false,eval e X.env)::starEach es X.env:=by rfl)(hpl:(backTo pos (starEach es X.env)).any (·.1)=false:=by rfl):PE X (.Call (.Name x p) (e::es) [] pos) (tCB r t):=by
 intro pins s σ H Q I h
 refine zaH (q3J I hg hm hv ?_ hn hdb)
 exact PyProof.Rows.callWith_builtin1 (thn (ha pos pins s σ H _ I h) fun us s1 ⟨vs,H1,I1,r1,q1⟩=>hc pins s1 σ H1 vs us Q I1 r1 q1) he hpl
theorem q09 (hc:q1d X (.type T) r)(hg:Gl X x)(hm:X.mg x=none)(hv:bootBuiltins x=some (.type T))(ha:PA X (e::es) t)(hn:x≠"__name__":=by decide)(hdb:(x==("__debug__":Str))=false:=by decide)
  (he:starEach (e::es) X.env=(false,eval e X.env)::starEach es X.env:=by rfl)(hpl:(backTo pos (starEach es X.env)).any (·.1)=false:=by rfl):PE X (.Call (.Name x p) (e::es) [] pos) (tCB r t):=by
 intro pins s σ H Q I h
 refine zaH (q3J I hg hm hv ?_ hn hdb)
 exact zaN (thn (ha pos pins s σ H _ I h) fun us s1 ⟨vs,H1,I1,r1,q1⟩=>hc pins s1 σ H1 vs us Q I1 r1 q1) he hpl
end
end L2
namespace HT
open PySem PyProof.Rows
section
variable {prog:Program}{w:World}{A:Around}{E:Value->Shared->Prop}{s:Shared}
theorem qbV {t b:Addr}{vs ws:List Value}{Q:Value->Shared->Prop}(ht:IsTup s.heap t vs.toArray)(hb:IsTup s.heap b ws.toArray)(hv:vs≠[])
  (h1:ws=[]->Q (.ref t) s)(h2:ws≠[]->Q (.ref s.heap.objs.size) {s with heap:=s.heap.push {cls:= .type "tuple",data:= .seq (vs++ws).toArray}})
  (hsz:vs.length+ws.length<=sizeLine):wpAny (model prog w) A (binaryOp .Add (.ref t) (.ref b)) Q E s:=by
 obtain⟨⟨cls,dd,data,sl⟩,ho,hc,n,hd⟩:=id ht
 obtain⟨⟨cls2,dd2,data2,sl2⟩,ho2,hc2,n2,hd2⟩:=id hb
 simp only at hc hd hc2 hd2
 subst hc hd hc2 hd2
 have e:vs.toArray++ws.toArray=(vs++ws).toArray:=by simp
 by_cases hw:ws=[]
 ·exact concat_meets ⟨_,ho,rfl⟩ ⟨_,ho2,rfl⟩ noFill_tuple_add seq_tuple_add zbE zby (zbv _ _)
   (tuple_addW1 t b vs.toArray ws.toArray n n2 dd dd2 sl sl2 (by simpa using hv) (by simp[hw])) ⟨ho,ho2,h1 hw⟩
 ·refine concat_meets ⟨_,ho,rfl⟩ ⟨_,ho2,rfl⟩ noFill_tuple_add seq_tuple_add zbE zby (zbv _ _)
   (tuple_addW2 t b vs.toArray ws.toArray n n2 dd dd2 sl sl2 (by simpa using hv) (by simpa using hw) (by rw[List.size_toArray,List.size_toArray];exact hsz)) ⟨ho,ho2,?_⟩
  rw[e]
  exact h2 hw
def sIx (n d:Nat):Option Int->Nat
 |none=>d
 |some v=>if v<0 then(v+(n:Int)).toNat else min v.toNat n
theorem q4r (n d:Nat):sIx n d none=d:=rfl
theorem q3y (n d k:Nat):sIx n d (some (k:Int))=min k n:=by
 show(if (k:Int)<0 then((k:Int)+(n:Int)).toNat else min (k:Int).toNat n)=min k n
 rw[zI (by omega),Int.toNat_natCast]
theorem sIx_le (n d:Nat)(hd:d<=n)(o:Option Int):sIx n d o<=n:=by
 cases o with
 |none=>exact hd
 |some v=>
  show(if v<0 then(v+(n:Int)).toNat else min v.toNat n)<=n
  by_cases hv:v<0
  ·rw [zM hv];omega
  ·rw [zI hv];exact Nat.min_le_right _ _
theorem q8R (v:Int)(n d:Nat):(if v<0 then max (v+(n:Int)) 0 else min v (n:Int))=((sIx n d (some v):Nat):Int):=by
 show(if v<0 then max (v+(n:Int)) 0 else min v (n:Int))=(((if v<0 then(v+(n:Int)).toNat else min v.toNat n):Nat):Int)
 by_cases hv:v<0
 ·simp only[if_pos hv];omega
 ·simp only[if_neg hv];omega
theorem q79 (lo hi:Option Int)(n:Nat):Builtin.Slice.sliceAdjust lo hi 1 (n:Int)=(((sIx n 0 lo:Nat):Int),((sIx n n hi:Nat):Int)):=by
 have h1:¬((1:Int)<0):=by omega
 unfold Builtin.Slice.sliceAdjust
 simp only[h1,if_false]
 refine Prod.ext ?_ ?_
 ·cases lo with
  |none=>rfl
  |some v=>exact q8R v n 0
 ·cases hi with
  |none=>rfl
  |some v=>exact q8R v n n
theorem q6W (i j:Nat):Builtin.Slice.slicePlaces (i:Int) (j:Int) 1=j - i:=by
 unfold Builtin.Slice.slicePlaces
 have h1:(1:Int)>0:=by omega
 simp only[h1,if_true,Int.ediv_one]
 split<;>omega
theorem q42 {v:Value}{o:Option Int}{Q:Option Int->Shared->Prop}(p:IsPart v o)(h:Q o s):wpAny (model prog w) A (Builtin.Slice.slicePartIndex v) Q E s:=by
 cases p with
 |none=>exact slicePart_none h
 |int i t=>exact slicePart_int h
theorem q22 {sl:Addr}{vl vu:Value}{lo hi:Option Int}{n:Nat}{Q:Int×Int×Nat->Shared->Prop}(hs:s.heap.IsSliceOf sl vl vu .none)(pl:IsPart vl lo)(pu:IsPart vu hi)
  (h:Q (((sIx n 0 lo:Nat):Int),1,sIx n n hi - sIx n 0 lo) s):wpAny (model prog w) A (Builtin.Slice.sliceApplied (.ref sl) (pure (n:Int))) Q E s:=by
 obtain⟨os,hos,hcs,hds⟩:=id hs
 unfold Builtin.Slice.sliceApplied Builtin.Slice.sliceFields
 refine yD (yD (zaa hos hds (x:=vl) rfl (yD (zaa hos hds (x:=vu) rfl (yD (zaa hos hds (x:= .none) rfl (zA ?_)))))))
 refine yD (slicePart_none ?_)
 show wpAny _ _ (if ((1:Int)==0)=true then _ else _) _ _ s
 rw[zI (by decide)]
 refine yD (q42 pl (yD (q42 pu (yD (zA ?_)))))
 show wpAny _ _ (match Builtin.Slice.sliceAdjust lo hi 1 (n:Int) with|(lo,hi)=>pure (lo,(1:Int),Builtin.Slice.slicePlaces lo hi 1)) _ _ s
 rw[q79 lo hi n]
 show wpAny _ _ (pure (((sIx n 0 lo:Nat):Int),(1:Int),Builtin.Slice.slicePlaces ((sIx n 0 lo:Nat):Int) ((sIx n n hi:Nat):Int) 1)) _ _ s
 rw[q6W]
 exact zA h
theorem q9i (xs:Array Value)(i k:Nat):((List.range k).filterMap fun(m:Nat)=>xs[((i:Int)+(m:Int)*1).toNat]?).toArray=((xs.toList.drop i).take k).toArray:=by
 have e:(fun(m:Nat)=>xs[((i:Int)+(m:Int)*1).toNat]?)=fun m=>xs[i+m]? :=by
  funext m
  have:((i:Int)+(m:Int)*1).toNat=i+m:=by omega
  rw[this]
 rw[e]
 have:=pick_run xs i k
 rw[List.filterMap_map] at this
 have e2:((fun x=>xs[x]?) ∘ fun x=>i+x)=fun m=>xs[i+m]? :=rfl
 rw[e2] at this
 rw[this]
theorem q33 {t sl:Addr}{items:Array Value}{vl vu:Value}{lo hi:Option Int}{Q:Value->Shared->Prop}(ht:IsTup s.heap t items)(hs:s.heap.IsSliceOf sl vl vu .none)(pl:IsPart vl lo)(pu:IsPart vu hi)
  (hw:¬(sIx items.size 0 lo=0/\sIx items.size items.size hi=items.size))
  (h:Q (.ref s.heap.objs.size) {s with heap:=s.heap.push {cls:= .type "tuple",data:= .seq ((items.toList.drop (sIx items.size 0 lo)).take (sIx items.size items.size hi - sIx items.size 0 lo)).toArray}})
  (hsz:items.size<=sizeLine):wpAny (model prog w) A (getItem (.ref t) (.ref sl)) Q E s:=by
 have htake:sizeOk (.seq ((items.toList.drop (sIx items.size 0 lo)).take (sIx items.size items.size hi - sIx items.size 0 lo)).toArray):=by
  show((items.toList.drop (sIx items.size 0 lo)).take (sIx items.size items.size hi - sIx items.size 0 lo)).toArray.size<=sizeLine
  rw[zQ,zW,zbI,zaY]
  omega
 have hj:sIx items.size items.size hi<=items.size:=sIx_le _ _ (zC _) hi
 obtain⟨os,hos,hcs,hds⟩:=id hs
 have hTs:s.TypeIs (.ref sl) "slice":=⟨os,hos,hcs⟩
 unfold getItem
 try with_reducible refine zar ?_
 first|refine yD (zA ?_)|skip
 refine yD (wpAny_sequenceKey ht.typeIs (by decide) ?_)
 refine yD (zaL (name:=Str.ofString "__getitem__") ht.typeIs zat
  (zba zat ht.typeIs entry_tuple_getitem ?_ (args_tuple_getitem _ _)))
 show wpAny _ _ (Builtin.Tuple.tupleItemsOf (.ref t) >>= _) _ _ s
 refine yD (tupleItemsOf_ ht ?_)
 refine yD (zck hTs ?_)
 rw[zM (by decide)]
 refine yD (q22 hs pl pu ?_)
 have hno:¬((((sIx items.size 0 lo:Nat):Int)==0&&(1:Int)==1&&(sIx items.size items.size hi - sIx items.size 0 lo)==items.size)=true):=by
  intro q
  rw[zS,zS] at q
  have q1:((sIx items.size 0 lo:Nat):Int)=0:=eq_of_beq q.1.1
  have q2:sIx items.size items.size hi - sIx items.size 0 lo=items.size:=eq_of_beq q.2
  exact hw ⟨by omega,by omega⟩
 show wpAny _ _ (if (((sIx items.size 0 lo:Nat):Int)==0&&(1:Int)==1&&(sIx items.size items.size hi - sIx items.size 0 lo)==items.size)=true then _ else _) _ _ s
 rw[zI hno,q9i]
 first
  |exact yD (m:=Builtin.Tuple.tupleExact _) (zaM (zA ⟨_,rfl,zA h⟩) htake)
  |exact yD (m:=Builtin.Tuple.tupleExact _) (zaM (yD (zA (zA ⟨_,rfl,zA h⟩))) htake)
  |exact yD (yD (m:=Builtin.Tuple.tupleExact _) (zaM (zA (zA ⟨_,rfl,zA h⟩)) htake))
  |exact yD (yD (m:=Builtin.Tuple.tupleExact _) (zaM (zA ⟨_,rfl,zA h⟩) htake))
end
end HT
namespace L2
open PySem PySem.Spec PyProof.Rows
abbrev TO:=St->Hp->(Option Int->Hp->Prop)->Prop
def PO (X:Cx)(e:Option Expr)(t:TO):Prop:=
 ∀(pins:List (Addr×Obj)) (s:Shared) (σ:St) (H:Hp) (Q:Option Int->Hp->Prop),Inv X pins σ H s->t σ H Q->
  wpAny (model X.prog X.w) X.A (evalPart e X.env) (fun u s'=>∃o H',Inv X pins σ H' s'/\IsPart u o/\Q o H') X.xe s
def q7m:TO:=fun _ H Q=>Q none H
def tPart (t:TE):TO:=fun σ H Q=>t σ H fun x H1=>∃i,x= .int i/\Q (some i) H1
theorem q74 {ns:List Int}:∀{us:List Value},Vals (ns.map V.int) us->IntsAre us ns:=by
 induction ns with
 |nil=>intro us r;rw[zcl] at r;cases r;exact .nil
 |cons n ns ih=>
  intro us r
  rw[zao] at r
  cases r with
  |cons r1 r2=>
   obtain⟨t,e⟩:=r1
   subst e
   exact .cons n t (ih r2)
section
variable {X:Cx}{e:Expr}{te:TE}{lo hi:Option Expr}{tl th:TO}{pos p2:Pos}
theorem q0s:PO X none q7m:=by
 intro pins s σ H Q I h
 rw[evalPart_none]
 exact zA ⟨none,H,I,.none,h⟩
theorem qY (h:PE X e te):PO X (some e) (tPart te):=by
 intro pins s σ H Q I hw
 rw[evalPart_some]
 refine thn (h pins s σ H _ I hw) fun u s1 ⟨x,H1,I1,r1,q1⟩=>?_
 obtain⟨i,rfl,q⟩:=q1
 obtain⟨t,rfl⟩:=r1
 exact⟨some i,H1,I1,.int i t,q⟩
def SlR (X:Cx)(r:V->Option Int->Option Int->Hp->VK->Prop):Prop:=
 ∀(pins:List (Addr×Obj)) (s:Shared) (σ:St) (H:Hp) (x:V) (v vl vu:Value) (lo hi:Option Int) (sl:Addr) (Q:VK),Inv X pins σ H s->RelV x v->s.heap.IsSliceOf sl vl vu .none->IsPart vl lo->IsPart vu hi->r x lo hi H Q->
  ∃T id,typeLookup (.type T) "__getitem__"=pure (some (.builtin id))/\s.TypeIs v T/\wpAny (model X.prog X.w) X.A (getItem v (.ref sl)) (EP X pins σ Q) X.xe s
def tSl (r:V->Option Int->Option Int->Hp->VK->Prop)(te:TE)(tl th:TO):TE:=fun σ H Q=>te σ H fun x H1=>tl σ H1 fun l H2=>th σ H2 fun u H3=>r x l u H3 Q
theorem qU {r:V->Option Int->Option Int->Hp->VK->Prop}(hr:SlR X r)(he:PE X e te)(hl:PO X lo tl)(hu:PO X hi th):PE X (.Subscript e (.Slice lo hi none p2) pos) (tSl r te tl th):=by
 intro pins s σ H Q I h
 refine Subscript_ (thn (he pins s σ H _ I h) fun v s1 ⟨x,H1,I1,r1,q1⟩=>?_)
 refine wpAny_Slice (thn (hl pins s1 σ H1 _ I1 q1) fun vl s2 ⟨l,H2,I2,pl,q2⟩=>thn (hu pins s2 σ H2 _ I2 q2) fun vu s3 ⟨u,H3,I3,pu,q3⟩=>?_)
 rw[evalPart_none]
 refine zA ?_
 have I4:Inv X pins σ H3 {s3 with heap:=s3.heap.push {cls:= .type "slice",data:= .fields #[vl,vu,.none]}}:=I3.kept (t':=s3.toks) fun b ob q=>zB _ q
 obtain⟨T,id,hT,ht,hg⟩:=hr pins {s3 with heap:=s3.heap.push {cls:= .type "slice",data:= .fields #[vl,vu,.none]}} σ H3 x v vl vu l u s3.heap.objs.size Q I4 r1 (Heap.IsSliceOf.new ..) pl pu q3
 show wpAny (model X.prog X.w) X.A (subscriptTail e (.Slice lo hi none p2) v (.ref s3.heap.objs.size)) (EP X pins σ Q) X.xe {s3 with heap:=s3.heap.push {cls:= .type "slice",data:= .fields #[vl,vu,.none]}}
 exact tail_any (ops:=[.ref s3.heap.objs.size,v]) ht hT hg (by with_unfolding_all rfl)
def cutV (xs:List V)(lo hi:Option Int):List V:=(xs.drop (HT.sIx xs.length 0 lo)).take (HT.sIx xs.length xs.length hi - HT.sIx xs.length 0 lo)
theorem q3M (xs:List V)(lo hi:Option Int):(cutV xs lo hi).length<=xs.length:=by
 unfold cutV
 rw[zW,zbI]
 omega
def rSlT (K:W.Frag):V->Option Int->Option Int->Hp->VK->Prop:=fun x lo hi H Q=>∃a xs,x= .ref a/\SqT K H a xs/\
 ¬(HT.sIx xs.length 0 lo=0/\HT.sIx xs.length xs.length hi=xs.length)/\∀p,H p=none->Q (.ref p) (upd H p (.tup (cutV xs lo hi)))
theorem sl_tup:SlR X (rSlT X.K):=by
 intro pins s σ H x v vl vu lo hi sl Q I rx hs pl pu h
 obtain⟨a,xs,rfl,hx,hw,q⟩:=h
 cases rx
 obtain⟨its,r,ht,hz⟩:=I.tuple hx
 have hlen:its.toArray.size=xs.length:=by rw[zQ];exact r.length.symm
 refine⟨"tuple",_,zat.lookup,ht.typeIs,?_⟩
 refine HT.q33 ht hs pl pu (by rw[hlen];exact hw) ?_ (by rw[hlen];exact hz)
 rw[hlen]
 refine⟨.ref s.heap.objs.size,_,I.laid (t':=s.toks) (o:= .tup (cutV xs lo hi)) (fun b ob q=>zB _ q) (zC _) ?_,rfl,q _ (I.hok.fresh (zC _))⟩
 exact⟨zap (q3M xs lo hi) hz,_,(r.drop (HT.sIx xs.length 0 lo)).take (HT.sIx xs.length xs.length hi - HT.sIx xs.length 0 lo),IsTup.new _ _⟩
def qb0 (K:W.Frag):R2:=fun x y H Q=>∃a b xs ys,x= .ref a/\y= .ref b/\SqT K H a xs/\SqT K H b ys/\xs≠[]/\xs.length+ys.length<=sizeLine/\
 (ys=[]->Q (.ref a) H)/\(ys≠[]->∀p,H p=none->Q (.ref p) (upd H p (.tup (xs++ys))))
theorem Vals.nil_iff {xs:List V}{us:List Value}(r:Vals xs us):us=[]↔xs=[]:=by
 cases r with
 |nil=>simp
 |cons _ _=>simp
theorem q84:OpR X (binaryOp .Add) (qb0 X.K):=by
 intro pins s σ H x y v u Q I rx ry h
 obtain⟨a,b,xs,ys,rfl,rfl,ha,hb,hx,hz,q1,q2⟩:=h
 cases rx
 cases ry
 obtain⟨its,r1,p1,_⟩:=I.tuple ha
 obtain⟨its2,r2,p2,_⟩:=I.tuple hb
 refine HT.qbV p1 p2 (fun z=>hx (r1.nil_iff.mp z)) (fun z=>⟨.ref a,H,I,rfl,q1 (r2.nil_iff.mp z)⟩) (fun z=>?_) (by rw[<-r1.length,<-r2.length];exact hz)
 refine⟨.ref s.heap.objs.size,_,I.laid (t':=s.toks) (o:= .tup (xs++ys)) (fun b ob q=>zB _ q) (zC _) ?_,rfl,q2 (fun w=>z (r2.nil_iff.mpr w)) _ (I.hok.fresh (zC _))⟩
 exact⟨by rw[zai];exact hz,_,r1.append r2,IsTup.new _ _⟩
end
def ixN (n:Nat)(i:Int):Option Nat:=if 0<=i then(if i<n then some i.toNat else none) else if -(n:Int)<=i then some (i+n).toNat else none
def atI {α:Type}(xs:List α)(i:Int):Option α:=(ixN xs.length i).bind fun j=>xs[j]?
theorem q5V {n:Nat}{i:Int}{j:Nat}(h:ixN n i=some j):seqIndex? i n=some j/\j<n/\ -(n:Int)<=i/\i<n:=by
 unfold ixN at h
 by_cases h0:0<=i
 ·rw [zM h0] at h
  by_cases h1:i<n
  ·rw [zM h1] at h
   have e:i.toNat=j:=zE h
   exact⟨by rw[seqIndex_of h0 h1,e],by omega,by omega,h1⟩
  ·rw [zI h1] at h;cases h
 ·rw [zI h0] at h
  by_cases h1: -(n:Int)<=i
  ·rw [zM h1] at h
   have e:(i+n).toNat=j:=zE h
   exact⟨by rw[seqIndex_neg (by omega) h1,e],by omega,h1,by omega⟩
  ·rw [zI h1] at h;cases h
theorem q64 {α:Type}{xs:List α}{i:Int}{v:α}(h:atI xs i=some v):∃j,seqIndex? i xs.length=some j/\xs[j]? =some v/\j<xs.length/\ -(xs.length:Int)<=i/\i<xs.length:=by
 unfold atI at h
 cases e:ixN xs.length i with
 |none=>rw[e] at h;cases h
 |some j=>
  rw[e] at h
  obtain⟨h1,h2,h3,h4⟩:=q5V e
  exact⟨j,h1,h,h2,h3,h4⟩
theorem qE {α:Type}{xs:List α}{j:Nat}{v:α}(h:xs[j]? =some v):atI xs (j:Int)=some v:=by
 have hj:j<xs.length:=(yA h).1
 have e:ixN xs.length (j:Int)=some j:=by
  unfold ixN
  rw[zM (by omega),zM (by omega)];simp
 unfold atI;rw[e];exact h
def qc1 (b:Expr):Prop:=∀o i,subscripted b false o i=operate [o,i] (getItem o i)
def IxR (X:Cx)(r:R2):Prop:=
 ∀(value slice:Expr) (pins:List (Addr×Obj)) (s:Shared) (σ:St) (H:Hp) (x y:V) (v u:Value) (Q:VK),Inv X pins σ H s->RelV x v->RelV y u->r x y H Q->
  subscripted slice false v u=operate [v,u] (getItem v u)->wpAny (model X.prog X.w) X.A (subscriptTail value slice v u) (EP X pins σ Q) X.xe s
def MtR (X:Cx)(id:String)(r:V->List V->Hp->VK->Prop):Prop:=
 ∀(pins:List (Addr×Obj)) (s:Shared) (σ:St) (H:Hp) (x:V) (xs:List V) (v:Value) (us:List Value) (Q:VK),Inv X pins σ H s->RelV x v->Vals xs us->r x xs H Q->
  wpAny (model X.prog X.w) X.A (call (.builtin id) (v::us)) (EP X pins σ Q) X.xe s
section
variable {X:Cx}{a b:Expr}{ta tb:TE}{pos:Pos}
theorem qD {r:R2}(hr:IxR X r)(ha:PE X a ta)(hb:PE X b tb)(hs:qc1 b):PE X (.Subscript a b pos) (tOp r ta tb):=by
 intro pins s σ H Q I h
 exact Subscript_ (binT ha hb I h fun v u s2 x y H2 I2 rx ry q=>hr a b pins s2 σ H2 x y v u Q I2 rx ry q (hs _ _))
def rIxL (K:W.Frag):R2:=fun x y H Q=>∃p xs i v,x= .ref p/\y= .int i/\SqL K H p xs/\atI xs i=some v/\Q v H
def rIxT (K:W.Frag):R2:=fun x y H Q=>∃p xs i v,x= .ref p/\y= .int i/\SqT K H p xs/\atI xs i=some v/\Q v H
def rIxS:R2:=fun x y H Q=>∃z i c,x= .str z/\y= .int i/\z.length<=sizeLine/\atI z.cps.toList i=some c/\Q (.str ⟨#[c]⟩) H
theorem qbB:IxR X (rIxL X.K):=by
 intro value slice pins s σ H x y v u Q I rx ry h hs
 obtain⟨p,xs,i,z,rfl,rfl,hq,he,q⟩:=h
 cases rx
 obtain⟨t,rfl⟩:=ry
 obtain⟨its,r,pl,hz⟩:=I.list hq
 obtain⟨j,h1,h2,h3,h4,h5⟩:=q64 he
 obtain⟨w,ew,rw'⟩:=r.get h2
 have hl:=r.length
 have hn:=q3I
 have fin:EP X pins σ Q w s:=⟨z,H,I,rw',q⟩
 by_cases h0:0<=i
 ·have hj:i.toNat=j:=by
   rw[seqIndex_of h0 h5] at h1
   exact zE h1
  exact item_listR pl.isList h0 (by omega) (by rw[hj];simpa using ew) fin hs
 ·have hj:(i+(its.toArray.size:Int)).toNat=j:=by
   rw[seqIndex_neg (by omega) h4] at h1
   rw[zQ,<-hl]
   exact zE h1
  exact subscriptTail_builtinR (x:=w) pl.isList.typeIs slot_list_getitem.lookup
   (wpAny_getItem_list_neg (Q:=fun r s'=>r=w/\EP X pins σ Q r s') pl.isList (by omega) (by rw[zQ]<;>omega) (by omega) (by rw[hj];simpa using ew) ⟨rfl,fin⟩) hs
theorem ix_tup:IxR X (rIxT X.K):=by
 intro value slice pins s σ H x y v u Q I rx ry h hs
 obtain⟨p,xs,i,z,rfl,rfl,hq,he,q⟩:=h
 cases rx
 obtain⟨t,rfl⟩:=ry
 obtain⟨its,r,pl,hz⟩:=I.tuple hq
 obtain⟨j,h1,h2,h3,h4,h5⟩:=q64 he
 obtain⟨w,ew,rw'⟩:=r.get h2
 have hl:=r.length
 have hn:=q3I
 have fin:EP X pins σ Q w s:=⟨z,H,I,rw',q⟩
 exact subscriptTail_builtinR (x:=w) pl.typeIs slot_tuple_getitem.lookup
  (getItem_tuple (j:=j) (Q:=fun r s'=>r=w/\EP X pins σ Q r s') pl (by omega) (by omega) (by rw[zQ,<-hl];exact h1) (by simpa using ew) ⟨rfl,fin⟩) hs
theorem qah:IxR X rIxS:=by
 intro value slice pins s σ H x y v u Q I rx ry h hs
 obtain⟨z,i,c,rfl,rfl,hz,he,q⟩:=h
 obtain⟨t,rfl⟩:=rx
 obtain⟨t',rfl⟩:=ry
 obtain⟨j,h1,h2,h3,h4,h5⟩:=q64 he
 have hl:z.cps.toList.length=z.length:=by simp[Str.length]
 rw[hl] at h1 h4 h5
 have hn:=q3I
 exact tail_any (typeIs_str s z t) slot_str_getitem.lookup (getItem_str (c:=c) (by
  have e1:decide (i< -(2 ^ 63:Int))=false:=zav (by omega)
  have e2:decide (i≥2 ^ 63)=false:=zav (by omega)
  rw[e1,e2,Bool.or_false]) (by rw[h1];simpa using h2) ⟨.str ⟨#[c]⟩,H,I.tok _,⟨_,rfl⟩,q⟩) hs
theorem q71 (its:List Value)(n j:Nat)(u:Value):Obj.mapSeq (·.setIfInBounds j u) {cls:= .type "list",data:= .seq its.toArray n}={cls:= .type "list",data:= .seq (its.set j u).toArray n}:=by
 simp[Obj.mapSeq]
theorem Inv.lst {pins:List (Addr×Obj)}{σ:St}{H:Hp}{s:Shared}{p:Addr}{xs:List V}(I:Inv X pins σ H s)(h:H p=some (.lst xs)):
  ∃(its:List Value) (n:Nat),Vals xs its/\s.heap.get? p=some {cls:= .type "list",data:= .seq its.toArray n}/\xs.length<=sizeLine:=by
 obtain⟨z,its,n,r,e⟩:=I.hok p _ h
 exact⟨its,n,r,e,z⟩
theorem Inv.lstUpd {pins:List (Addr×Obj)}{σ:St}{H:Hp}{s:Shared}{p:Addr}{xs ys:List V}{its its':List Value}{n n':Nat}{f:Obj->Obj}(I:Inv X pins σ H s)(h:H p=some (.lst xs))
  (ho:s.heap.get? p=some {cls:= .type "list",data:= .seq its.toArray n})(hf:f {cls:= .type "list",data:= .seq its.toArray n}={cls:= .type "list",data:= .seq its'.toArray n'})(r:Vals ys its')(hz:ys.length<=sizeLine)(t:Nat):
  Inv X pins σ (upd H p (.lst ys)) {s with heap:=s.heap.update p f,toks:=t}:=by
 have e:(s.heap.update p f).get? p=some {cls:= .type "list",data:= .seq its'.toArray n'}:=by
  rw[zaj f ho (by rw[hf]<;>rfl),hf]
 refine I.write (x:=p) (e:=p) (by rw[h];trivial) (.inl rfl) (fun b u hb q=>(zab _ _ (Ne.symm hb)).trans q) ⟨_,e⟩ ?_
 exact⟨hz,its',n',r,e⟩
def rSetL:V->V->V->Hp->(Hp->Prop)->Prop:=fun o i v H Q=>∃p xs k j,o= .ref p/\i= .int k/\H p=some (.lst xs)/\ixN xs.length k=some j/\Q (upd H p (.lst (xs.set j v)))
theorem q3l:PSet X rSetL:=by
 intro pins s σ H o i v ov iv u Q I ro ri rv h
 obtain⟨p,xs,k,j,rfl,rfl,hp,hj,q⟩:=h
 cases ro
 obtain⟨t,rfl⟩:=ri
 obtain⟨its,n,r,ho,hz⟩:=I.lst hp
 obtain⟨h1,h2,h3,h4⟩:=q5V hj
 have hl:=r.length
 have hn:=q3I
 have I':Inv X pins σ (upd H p (.lst (xs.set j v))) {s with heap:=s.heap.update p (Obj.mapSeq (·.setIfInBounds j u))}:=
  I.lstUpd hp ho (q71 its n j u) (r.set rv j) (by rw[List.length_set];exact hz) s.toks
 by_cases h0:0<=k
 ·have hk:k.toNat=j:=by
   rw[seqIndex_of h0 h4] at h1
   exact zE h1
  exact PySem.W.ki_setAt ho h0 (by omega) (by rw[zQ,<-hl];exact h4) (by rw[hk];exact⟨_,I',q⟩)
 ·have hk:(k+(its.toArray.size:Int)).toNat=j:=by
   rw[seqIndex_neg (by omega) h3] at h1
   rw[zQ,<-hl]
   exact zE h1
  exact PySem.W.ki_setBack ho (by omega) (by rw[zQ,<-hl];exact h3) (by omega) (by rw[hk];exact⟨_,I',q⟩)
theorem q51 (lo hi:Option Int)(n:Nat):(sliceBounds lo hi none n).1=((HT.sIx n 0 lo:Nat):Int)/\(sliceBounds lo hi none n).2.1=((HT.sIx n n hi:Nat):Int)/\(sliceBounds lo hi none n).2.2=1:=by
 refine⟨?_,?_,rfl⟩
 ·cases lo with
  |none=>simp[sliceBounds,HT.sIx]
  |some i=>
   simp only[sliceBounds,HT.sIx,Option.getD_none,show(1:Int)>0 by decide,if_true]
   by_cases h:i<0
   ·simp only[h,if_true]<;>omega
   ·simp only[h,if_false]<;>omega
 ·cases hi with
  |none=>simp[sliceBounds,HT.sIx]
  |some i=>
   simp only[sliceBounds,HT.sIx,Option.getD_none,show(1:Int)>0 by decide,if_true]
   by_cases h:i<0
   ·simp only[h,if_true]<;>omega
   ·simp only[h,if_false]<;>omega
theorem q4o (its:List Value)(lo hi:Option Int):slicePick its.toArray lo hi none=((its.drop (HT.sIx its.length 0 lo)).take (HT.sIx its.length its.length hi - HT.sIx its.length 0 lo)).toArray:=by
 obtain⟨h1,h2,h3⟩:=q51 lo hi its.toArray.size
 unfold slicePick
 rw[h1,h2,h3]
 simp only[sliceRange_one,pick_run,List.size_toArray]<;>rfl
def rSlL (K:W.Frag):V->Option Int->Option Int->Hp->VK->Prop:=fun x lo hi H Q=>∃a xs,x= .ref a/\SqL K H a xs/\∀p,H p=none->Q (.ref p) (upd H p (.lst (cutV xs lo hi)))
theorem qaI:SlR X (rSlL X.K):=by
 intro pins s σ H x v vl vu lo hi sl Q I rx hs pl pu h
 obtain⟨a,xs,rfl,hx,q⟩:=h
 cases rx
 obtain⟨its,r,ht,hz⟩:=I.list hx
 have hlen:=r.length
 refine⟨"list",_,slot_list_getitem.lookup,ht.isList.typeIs,?_⟩
 refine wpAny_getItem_list_slice ht.isList hs pl pu .none (by simp) ?_ (by rw[List.size_toArray]<;>omega)
 rw[q4o,<-hlen]
 refine⟨.ref s.heap.objs.size,_,I.laid (t':=s.toks) (o:= .lst (cutV xs lo hi)) (fun b ob q=>zB _ q) (zC _) ?_,rfl,q _ (I.hok.fresh (zC _))⟩
 exact⟨zap (q3M xs lo hi) hz,_,0,(r.drop (HT.sIx xs.length 0 lo)).take (HT.sIx xs.length xs.length hi - HT.sIx xs.length 0 lo),zO _ rfl⟩
def q3Y:V->Bool
 | .non=>true
 | .bl _=>true
 | .int _=>true
 | .str _=>true
 |_=>false
def eqV:V->V->Bool
 | .non,.non=>true
 | .bl a,.bl b=>a==b
 | .bl a,.int b=>(if a then 1 else 0)==b
 | .int a,.bl b=>a==(if b then 1 else 0)
 | .int a,.int b=>a==b
 | .str a,.str b=>a==b
 |_,_=>false
theorem qam {A:Around}{s:Shared}{y x:V}{u v:Value}(ry:RelV y u)(rx:RelV x v)(fy:q3Y y=true)(fx:q3Y x=true):SeqAt.EqAt A s u v (eqV y x):=by
 cases y with
 |non=>
  cases ry
  cases x with
  |non=>cases rx;exact SeqAt.EqAt.same _
  |bl b=>cases rx;exact SeqAt.EqAt.none_bool b
  |int b=>obtain⟨t,rfl⟩:=rx;exact SeqAt.EqAt.none_int b t
  |str b=>obtain⟨t,rfl⟩:=rx;exact SeqAt.EqAt.none_str b t
  |_=>exact absurd (show false=true from fx) zK
 |bl a=>
  cases ry
  cases x with
  |non=>cases rx;exact SeqAt.EqAt.bool_none a
  |bl b=>cases rx;exact SeqAt.EqAt.bool_bool a b
  |int b=>obtain⟨t,rfl⟩:=rx;exact SeqAt.EqAt.bool_int a b t
  |str b=>obtain⟨t,rfl⟩:=rx;exact SeqAt.EqAt.bool_str a b t
  |_=>exact absurd (show false=true from fx) zK
 |int a=>
  obtain⟨t',rfl⟩:=ry
  cases x with
  |non=>cases rx;exact SeqAt.EqAt.int_none a t'
  |bl b=>cases rx;exact SeqAt.EqAt.int_bool a t' b
  |int b=>obtain⟨t,rfl⟩:=rx;exact SeqAt.EqAt.int_int a t' b t
  |str b=>obtain⟨t,rfl⟩:=rx;exact SeqAt.EqAt.int_str a t' b t
  |_=>exact absurd (show false=true from fx) zK
 |str a=>
  obtain⟨t',rfl⟩:=ry
  cases x with
  |non=>cases rx;exact SeqAt.EqAt.str_none a t'
  |bl b=>cases rx;exact SeqAt.EqAt.str_bool a t' b
  |int b=>obtain⟨t,rfl⟩:=rx;exact SeqAt.EqAt.str_int a t' b t
  |str b=>obtain⟨t,rfl⟩:=rx;exact SeqAt.EqAt.str_str a t' b t
  |_=>exact absurd (show false=true from fx) zK
 |_=>exact absurd (show false=true from fy) zK
def eqU (x:V)(u:Value):Bool:=match u with
 | .none=>eqV .non x
 | .bool b=>eqV (.bl b) x
 | .int i _=>eqV (.int i) x
 | .str z _=>eqV (.str z) x
 |_=>false
theorem qal {x y:V}{u:Value}(r:RelV y u)(f:q3Y y=true):eqU x u=eqV y x:=by
 cases y with
 |non=>cases r;rfl
 |bl b=>cases r;rfl
 |int i=>obtain⟨t,rfl⟩:=r;rfl
 |str z=>obtain⟨t,rfl⟩:=r;rfl
 |_=>exact absurd (show false=true from f) zK
theorem q3Q {x:V}:∀{xs:List V} {us:List Value},Vals xs us->xs.all q3Y=true->us.any (eqU x)=xs.any fun y=>eqV y x
 |_,_,.nil,_=>rfl
 |y::xs,u::us,.cons r t,f=>by
  rw[List.all_cons,zS] at f
  rw[zce,zce,qal r f.1,q3Q t f.2]
theorem q2I {A:Around}{s:Shared}{x:V}{v:Value}(rx:RelV x v)(fx:q3Y x=true):∀{xs:List V} {us:List Value},Vals xs us->xs.all q3Y=true->∀u∈us,SeqAt.EqAt A s u v (eqU x u)
 |_,_,.nil,_=>fun u hu=>by cases hu
 |y::xs,u::us,.cons r t,f=>fun u' hu=>by
  rw[List.all_cons,zS] at f
  rcases zJ.mp hu with rfl|hu
  ·rw [qal r f.1];exact qam r rx f.1 fx
  ·exact q2I rx fx t f.2 u' hu
def inV (x:V)(xs:List V):Bool:=xs.any fun y=>eqV y x
def rIn (K:W.Frag)(neg:Bool):R2:=fun x y H Q=>∃p xs,y= .ref p/\(SqL K H p xs\/SqT K H p xs)/\q3Y x=true/\xs.all q3Y=true/\Q (.bl (if neg then !inV x xs else inV x xs)) H
theorem q83:OpR X (compareOp .In) (rIn X.K false):=by
 intro pins s σ H x y v u Q I rx ry h
 obtain⟨p,xs,rfl,hq,fx,fs,q⟩:=h
 cases ry
 rcases hq with hq|hq
 ·obtain ⟨its,r,pl,hz⟩:=I.list hq
  refine SeqAt.in_listAt (eqU x) pl.isList (fun w hw=>q2I rx fx r fs w (by simpa using hw)) ⟨.bl _,H,I,rfl,?_⟩
  rw[show its.toArray.any (eqU x)=its.any (eqU x) by simp,q3Q r fs]
  exact q
 ·obtain ⟨its,r,pl,hz⟩:=I.tuple hq
  refine SeqAt.in_tupleAt (eqU x) pl (fun w hw=>q2I rx fx r fs w (by simpa using hw)) ⟨.bl _,H,I,rfl,?_⟩
  rw[show its.toArray.any (eqU x)=its.any (eqU x) by simp,q3Q r fs]
  exact q
theorem q5k:OpR X (compareOp .NotIn) (rIn X.K true):=by
 intro pins s σ H x y v u Q I rx ry h
 obtain⟨p,xs,rfl,hq,fx,fs,q⟩:=h
 cases ry
 rcases hq with hq|hq
 ·obtain ⟨its,r,pl,hz⟩:=I.list hq
  refine SeqAt.notIn_listAt (eqU x) pl.isList (fun w hw=>q2I rx fx r fs w (by simpa using hw)) ⟨.bl _,H,I,rfl,?_⟩
  rw[show its.toArray.any (eqU x)=its.any (eqU x) by simp,q3Q r fs]
  exact q
 ·obtain ⟨its,r,pl,hz⟩:=I.tuple hq
  refine SeqAt.notIn_tupleAt (eqU x) pl (fun w hw=>q2I rx fx r fs w (by simpa using hw)) ⟨.bl _,H,I,rfl,?_⟩
  rw[show its.toArray.any (eqU x)=its.any (eqU x) by simp,q3Q r fs]
  exact q
theorem q5B:q1d X (.builtin "len") (fun xs H Q=>∃p ys,xs=[.ref p]/\(SqL X.K H p ys\/SqT X.K H p ys)/\Q (.int ys.length) H):=by
 intro pins s σ H xs us Q I r h
 obtain⟨p,ys,rfl,hq,q⟩:=h
 obtain⟨u,rfl,rx⟩:=q2u r
 cases rx
 have hn:=q3I
 rcases hq with hq|hq
 ·obtain ⟨its,r',pl,hz⟩:=I.list hq
  have hlen:=r'.length
  exact Calls.call_len_list pl.isList (by simp only[List.size_toArray]<;>omega) ⟨.int ys.length,H,I.tok _,⟨s.toks+1,by rw[zQ,hlen]⟩,q⟩
 ·obtain ⟨its,r',pl,hz⟩:=I.tuple hq
  have hlen:=r'.length
  exact len_tuple pl (by simp only[List.size_toArray]<;>omega) ⟨.int ys.length,H,I.tok _,⟨s.toks+1,by rw[zQ,hlen]⟩,q⟩
theorem q5A:q1d X (.builtin "len") (fun xs H Q=>∃z,xs=[.str z]/\z.length<=sizeLine/\Q (.int z.length) H):=by
 intro pins s σ H xs us Q I r h
 obtain⟨z,rfl,hz,q⟩:=h
 obtain⟨u,rfl,t,rfl⟩:=q2u r
 have hn:=q3I
 exact len_str (by omega) ⟨.int z.length,H,I.tok _,⟨_,rfl⟩,q⟩
theorem q5z:q1d X (.type "list") (fun xs H Q=>∃p ys,xs=[.ref p]/\(SqL X.K H p ys\/SqT X.K H p ys)/\∀l,H l=none->Q (.ref l) (upd H l (.lst ys))):=by
 intro pins s σ H xs us Q I r h
 obtain⟨p,ys,rfl,hq,q⟩:=h
 obtain⟨u,rfl,rx⟩:=q2u r
 cases rx
 have fin:∀(its:List Value),Vals ys its->ys.length<=sizeLine->∀(h':Heap) (c':Nat),(∀b o',s.heap.get? b=some o'->h'.get? b=some o')->
   h'.get? s.heap.objs.size=some {cls:= .type "list",dict:=none,data:= .seq its.toArray c',slots:= #[]}->EP X pins σ Q (.ref s.heap.objs.size) {s with heap:=h'}:=fun its r' hz h' c' kp e=>
  ⟨.ref s.heap.objs.size,_,I.laid (t':=s.toks) kp (zC _) (show q0j X.prog X.w _ h' _ (.lst ys) from⟨hz,its,c',r',e⟩),rfl,q _ (I.hok.fresh (zC _))⟩
 rcases hq with hq|hq
 ·obtain ⟨its,r',pl,hz⟩:=I.list hq
  have hlen:=r'.length
  obtain⟨o,ho,hc,n,hd⟩:=pl.isList
  exact call_list_seq p (.inl rfl) ho hc hd (fun h' c' kp e=>fin its r' hz h' c' kp e) (by simp only[List.size_toArray]<;>omega)
 ·obtain ⟨its,r',pl,hz⟩:=I.tuple hq
  have hlen:=r'.length
  obtain⟨o,ho,hc,n,hd⟩:=pl
  exact call_list_seq p (.inr rfl) ho hc hd (fun h' c' kp e=>fin its r' hz h' c' kp e) (by simp only[List.size_toArray]<;>omega)
theorem q4L:q1d X (.type "tuple") (fun xs H Q=>∃p ys,xs=[.ref p]/\((SqL X.K H p ys/\∀l,H l=none->Q (.ref l) (upd H l (.tup ys)))\/(SqT X.K H p ys/\Q (.ref p) H))):=by
 intro pins s σ H xs us Q I r h
 obtain⟨p,ys,rfl,h⟩:=h
 obtain⟨u,rfl,rx⟩:=q2u r
 cases rx
 rcases h with⟨hq,q⟩|⟨hq,q⟩
 ·obtain ⟨its,r',pl,hz⟩:=I.list hq
  have hlen:=r'.length
  refine call_tuple_list pl.isList (fun h' kp=>?_) (by simp only[List.size_toArray]<;>omega)
  have I1:Inv X pins σ H {s with heap:=h'}:=I.kept (t':=s.toks) kp
  have I2:Inv X pins σ (upd H h'.objs.size (.tup ys)) {s with heap:=h'.push {cls:= .type "tuple",data:= .seq its.toArray}}:=
   I1.laid (t':=s.toks) (fun b o e=>zB _ e) (zC _) (show q0j X.prog X.w _ _ _ (.tup ys) from⟨hz,its,r',IsTup.new _ _⟩)
  exact⟨.ref h'.objs.size,_,I2,rfl,q _ (I1.hok.fresh (zC _))⟩
 ·obtain ⟨its,r',pl,hz⟩:=I.tuple hq
  exact call_tuple_same pl ⟨.ref p,H,I,rfl,q⟩
def tyV (K:W.Frag)(T:String)(x:V)(H:Hp):Prop:=match x with
 | .str _=>T="str"
 | .int _=>T="int"
 | .ref p=>(T="list"/\∃xs,SqL K H p xs)\/(T="tuple"/\∃o,K.lookup p=some o/\o.cls= .type "tuple"/\o.dict=none)\/
   (T="dict"/\((∃kvs,H p=some (.dK kvs))\/∃kvs,H p=some (.dT kvs)))\/(T="set"/\∃S n,H p=some (.set S n))
 |_=>False
theorem tyV_is {pins:List (Addr×Obj)}{σ:St}{H:Hp}{s:Shared}{T:String}{x:V}{v:Value}(I:Inv X pins σ H s)(r:RelV x v)(ty:tyV X.K T x H):
  s.TypeIs v T/\∀a,v= .ref a->∃ob,s.heap.get? a=some ob/\ob.dict=none:=by
 cases x with
 |str z=>
  obtain⟨t,rfl⟩:=r
  cases(show T="str" from ty)
  exact⟨typeIs_str s z t,fun _ e=>nomatch e⟩
 |int i=>
  obtain⟨t,rfl⟩:=r
  cases(show T="int" from ty)
  exact⟨typeIs_int s i t,fun _ e=>nomatch e⟩
 |ref p=>
  cases r
  rcases ty with⟨rfl,xs,hq⟩|⟨rfl,o,hk,hc,hd⟩|⟨rfl,hk⟩|⟨rfl,S,n,hk⟩
  ·obtain ⟨its,_,pl,_⟩:=I.list hq
   refine⟨pl.isList.typeIs,fun a e=>?_⟩
   cases e
   obtain⟨o,n,e,c,hd,_⟩:=pl
   exact⟨o,e,hd⟩
  ·refine ⟨⟨o,I.kIn p o hk,hc⟩,fun a e=>?_⟩
   cases e
   exact⟨o,I.kIn _ o hk,hd⟩
  ·have z:∃o,s.heap.get? p=some o/\o.ExactDict:=by
    rcases hk with⟨kvs,hk⟩|⟨kvs,hk⟩
    ·obtain ⟨_,_,_,_,o,_,_,e,ex,_⟩:=I.hok p _ hk
     exact⟨o,e,ex⟩
    ·obtain ⟨_,_,_,_,o,_,_,e,ex,_⟩:=I.hok p _ hk
     exact⟨o,e,ex⟩
   obtain⟨o,e,ex⟩:=z
   refine⟨⟨o,e,ex.1⟩,fun a e2=>?_⟩
   cases e2
   exact⟨o,e,ex.2.1⟩
  ·obtain ⟨o,_,_,_,e,ex,_⟩:=I.hok p _ hk
   refine⟨⟨o,e,ex.1⟩,fun a e2=>?_⟩
   cases e2
   exact⟨o,e,ex.2.1⟩
 |_=>exact False.elim ty
def tBM (K:W.Frag)(T:String)(r:V->List V->Hp->VK->Prop)(to:TE)(t:TA):TE:=fun σ H Q=>to σ H fun x H1=>tyV K T x H1/\t σ H1 fun xs H2=>r x xs H2 Q
variable {o e:Expr}{es:List Expr}{to:TE}{t:TA}{name:Str}{apos cpos:Pos}{T id:String}{r:V->List V->Hp->VK->Prop}
theorem q13 (pa:PlainAttrs T)(slot:Slot T name id)(hty:typeOf (.builtin id)=pure (.type "method_descriptor"))(hm:MtR X id r)(ho:PE X o to)(ha:PA X (e::es) t)
  (hbase:attributeBase o name X.env (eval o X.env)=eval o X.env:=by rfl)
  (hfew:((backTo cpos (starEach (e::es) X.env)).all (fun x=> !x.1)&&(backToKw cpos (keywordEach [] X.env)).all (fun x=>x.1.isSome)
   &&decide ((e::es).length+([]:List Keyword).length+(if ([]:List Keyword).isEmpty then 0 else 1)<30))=true:=by rfl)
  (hline:(apos.endLine==cpos.line)=true:=by rfl)(hs:starEach (e::es) X.env=(false,eval e X.env)::starEach es X.env:=by rfl)(hplain:(backTo cpos (starEach es X.env)).any (·.1)=false:=by rfl):
  PE X (.Call (.Attribute o name apos) (e::es) [] cpos) (tBM X.K T r to t):=by
 intro pins s σ H Q I h
 refine wpAny_Call_method_late hbase hfew hline rfl (thn (ho pins s σ H _ I h) fun v s1 ⟨x,H1,I1,r1,ty,q1⟩=>?_)
 obtain⟨h1,h2⟩:=tyV_is I1 r1 ty
 refine⟨T,id,pa,slot,hty,h1,h2,?_⟩
 have hA:=ha cpos pins s1 σ H1 _ I1 q1
 rw[hs] at hA ⊢
 refine Calls.callWith_builtin (by show(false||(backTo cpos (starEach es X.env)).any (·.1))=false;rw[hplain]<;>rfl) (zbS ?_)
 exact thn hA fun us s2 ⟨vs,H2,I2,r2,q2⟩=>hm pins s2 σ H2 x vs v us Q I2 r1 r2 q2
end
def MtM (X:Cx)(id:String)(r:V->List V->Hp->VK->Prop):Prop:=
 ∀(pins:List (Addr×Obj)) (s:Shared) (σ:St) (H:Hp) (x:V) (xs:List V) (v:Value) (us:List Value) (Q:VK),Inv X pins σ H s->RelV x v->Vals xs us->r x xs H Q->
  wpAny (model X.prog X.w) X.A (call (.builtin id) (v::us)) (EP X pins σ Q) X.xe s
theorem Vals.one:∀{x:V} {us:List Value},Vals [x] us->∃u,us=[u]/\RelV x u
 |_,_,.cons r .nil=>⟨_,rfl,r⟩
theorem Vals.eraseIdx:∀{xs:List V} {us:List Value} (i:Nat),Vals xs us->Vals (xs.eraseIdx i) (us.eraseIdx i)
 |_,_,_,.nil=> .nil
 |_,_,0,.cons _ t=>t
 |_,_,i+1,.cons r t=> .cons r (Vals.eraseIdx i t)
theorem q5o {α:Type}:∀(l:List α) (i:Nat),(l.eraseIdx i).length<=l.length
 |[],_=>zC _
 |_::_,0=>zb4 _
 |_::r,i+1=>Nat.succ_le_succ (q5o r i)
section
variable {X:Cx}{pins:List (Addr×Obj)}{σ:St}{H:Hp}{s:Shared}{l b:Addr}{xs ys zs:List V}
theorem Inv.lset {its its':List Value}{n:Nat}{f:Array Value->Array Value}{t':Nat}(I:Inv X pins σ H s)(hH:H l=some (.lst xs))
  (e:s.heap.get? l=some {cls:= .type "list",data:= .seq its.toArray n})(hf:f its.toArray=its'.toArray)(hv:Vals ys its')(hz:ys.length<=sizeLine):
  Inv X pins σ (upd H l (.lst ys)) {s with heap:=s.heap.update l (Obj.mapSeq f),toks:=t'}:=by
 have q:=PySem.IsL.update e f
 rw[hf] at q
 refine I.write (x:=l) (e:=l) (by rw[hH];exact trivial) (.inl rfl) (fun b' u hb hu=>(zab s.heap (Obj.mapSeq f) (Ne.symm hb)).trans hu) ⟨_,q⟩ ?_
 exact⟨hz,its',_,hv,q⟩
theorem Inv.lnew {its:List Value}{t':Nat}(I:Inv X pins σ H s)(hv:Vals ys its)(hz:ys.length<=sizeLine):
  Inv X pins σ (upd H s.heap.objs.size (.lst ys)) {s with heap:=s.heap.push {cls:= .type "list",data:= .seq its.toArray},toks:=t'}:=
 I.laid (fun _ _ q=>zB _ q) (zC _) ⟨hz,its,0,hv,zO _ rfl⟩
theorem Inv.fresh (I:Inv X pins σ H s):H s.heap.objs.size=none:=I.hok.fresh (zC _)
theorem Inv.lstM (I:Inv X pins σ H s)(hH:H l=some (.lst xs)):xs.length<=sizeLine/\∃(its:List Value) (n:Nat),Vals xs its/\xs.length=its.length/\s.heap.get? l=some {cls:= .type "list",data:= .seq its.toArray n}:=by
 obtain⟨z,its,n,r,e⟩:=I.hok l _ hH
 exact⟨z,its,n,r,r.length,e⟩
theorem q9s {n:Nat}(h:n<=sizeLine):Builtin.List.listTooLong n=false:=by
 unfold Builtin.List.listTooLong
 exact zav (by omega)
end
section
variable {X:Cx}
def q7N:V->List V->Hp->VK->Prop:=fun x vs H Q=>∃l xs y,x= .ref l/\vs=[y]/\H l=some (.lst xs)/\xs.length<sizeLine/\Q .non (upd H l (.lst (xs++[y])))
theorem q1y:MtM X "list.append" q7N:=by
 intro pins s σ H x vs v us Q I rx rv h
 obtain⟨l,xs,y,rfl,rfl,hH,hz,q⟩:=h
 cases rx
 obtain⟨u,rfl,ru⟩:=rv.one
 obtain⟨z,its,n,r,hl,e⟩:=I.lstM hH
 refine call_meets F.slot_list_append ⟨_,e,rfl⟩ F.entry_list_append (F.args_list_append_2 _ _) (PySem.list_append l its.toArray n u (by rw[zQ];omega)) ⟨e,?_⟩
 refine⟨.non,_,I.lset (its':=its++[u]) hH e (by simp) (r.append (.cons ru .nil)) ?_,rfl,q⟩
 rw[zai,List.length_singleton]
 omega
def qaZ:V->List V->Hp->VK->Prop:=fun x vs H Q=>∃l b xs zs,x= .ref l/\vs=[.ref b]/\H l=some (.lst xs)/\H b=some (.lst zs)/\xs.length+zs.length<=sizeLine/\Q .non (upd H l (.lst (xs++zs)))
theorem q2H:MtM X "list.extend" qaZ:=by
 intro pins s σ H x vs v us Q I rx rv h
 obtain⟨l,b,xs,zs,rfl,rfl,hH,hB,hz,q⟩:=h
 cases rx
 obtain⟨u,rfl,ru⟩:=rv.one
 cases ru
 obtain⟨z,its,n,r,hl,e⟩:=I.lstM hH
 obtain⟨z2,its2,n2,r2,hl2,e2⟩:=I.lstM hB
 have hsz:its.toArray.size+its2.toArray.size<=sizeLine:=by rw[zQ,zQ];omega
 have hlong:¬(!its.toArray.isEmpty&&Builtin.List.listTooLong (its.toArray.size+its2.toArray.size))=true:=by
  rw[q9s hsz,zb2]
  exact zK
 refine call_meets F.slot_list_extend ⟨_,e,rfl⟩ F.entry_list_extend (F.args_list_extend_2 _ _)
  (AutoSeq1.list_extend_list_list_0 l its.toArray n b its2.toArray n2 hlong (by rw[zQ];omega) (by omega)) ⟨e,e2,?_⟩
 refine⟨.non,_,I.lset (its':=its++its2) hH e (by simp) (r.append r2) ?_,rfl,q⟩
 rw[zai]
 omega
def rPopAt:V->List V->Hp->VK->Prop:=fun x vs H Q=>∃l xs i k y,x= .ref l/\vs=[.int i]/\H l=some (.lst xs)/\ -(2 ^ 63)<=i/\i<2 ^ 63/\seqIndex? i xs.length=some k/\xs[k]? =some y/\Q y (upd H l (.lst (xs.eraseIdx k)))
theorem q9t:MtM X "list.pop" rPopAt:=by
 intro pins s σ H x vs v us Q I rx rv h
 obtain⟨l,xs,i,k,y,rfl,rfl,hH,h1,h2,hk,hy,q⟩:=h
 cases rx
 obtain⟨u,rfl,ru⟩:=rv.one
 obtain⟨t,rfl⟩:=ru
 obtain⟨z,its,n,r,hl,e⟩:=I.lstM hH
 obtain⟨w,hw,rw'⟩:=r.get hy
 refine call_meets F.slot_list_pop ⟨_,e,rfl⟩ F.entry_list_pop (F.args_list_pop_2 _ _)
  (MeetsSeq.list_pop_at l its.toArray n i t k w (fitsIndex_both h1 h2) (by rw[zQ,<-hl];exact hk) (by rw[<-Array.getElem?_toList];exact hw) (by rw[zQ];omega)) ⟨e,?_⟩
 refine⟨y,_,I.lset (its':=its.eraseIdx k) hH e ?_ (r.eraseIdx k) ?_,rw',q⟩
 ·show its.toArray.eraseIdxIfInBounds k=(its.eraseIdx k).toArray
  rw[List.eraseIdxIfInBounds_toArray]
 ·have:=q5o xs k
  omega
def rCat:R2:=fun x y H Q=>∃l b xs zs,x= .ref l/\y= .ref b/\H l=some (.lst xs)/\H b=some (.lst zs)/\xs.length+zs.length<=sizeLine/\∀p,H p=none->Q (.ref p) (upd H p (.lst (xs++zs)))
theorem q1x:OpR X (binaryOp .Add) rCat:=by
 intro pins s σ H x y v u Q I rx ry h
 obtain⟨l,b,xs,zs,rfl,rfl,hH,hB,hz,q⟩:=h
 cases rx
 cases ry
 obtain⟨z,its,n,r,hl,e⟩:=I.lstM hH
 obtain⟨z2,its2,n2,r2,hl2,e2⟩:=I.lstM hB
 refine PySem.P.add_list e e2 ?_ (by rw[zQ,zQ];omega)
 have ea:its.toArray++its2.toArray=(its++its2).toArray:=by simp
 rw[ea]
 exact⟨.ref _,_,I.lnew (t':=s.toks) (r.append r2) (by rw[zai];omega),rfl,q _ I.fresh⟩
end
end L2
namespace Att
open PySem PySem.W PySem.Calls PyProof.Rows
theorem q3K {P:Params}{h:Heap}:∀(ns:List Int) (vs:List Value),WellAll P h vs (ns.map WData.int)->IntsAre vs ns:=by
 intro ns
 induction ns with
 |nil=>
  intro vs w
  rw[zcl] at w
  cases w
  exact .nil
 |cons n ns ih=>
  intro vs w
  rw[zao] at w
  cases w with
  |cons a b=>
   cases a
   exact .cons _ _ (ih _ b)
theorem q7y {l:OpenLaw}{n:Nat}(hn:l.most=some n){P:Params}{h:Heap}{args:List WData}{vals:List Value}
  (hpre:l.row.toRowW.claim.pre args=true)(hwl:WellAll P h vals args):
  ∃a vs ns,vals=[Value.ref a]/\args=[WData.list (ns.map WData.int)]/\h.get? a=some {cls:= .type "list",data:= .seq vs.toArray}/\IntsAre vs ns/\ns.length<=n:=by
 have hsh:WShape.hasAll [] args [.list .int]=true:=(pre_splitW hpre).1
 have hc:l.pre.holds [] {args:=args}=true:=(pre_splitW hpre).2
 obtain⟨d,r,rfl,h1,h2⟩:=hasAllW_cons hsh
 obtain rfl:=hasAllW_nil h2
 obtain⟨xs,rfl,h3⟩:=hasW_list h1
 obtain⟨ns,rfl⟩:=items_int h3
 have hlen:ns.length<=n:=by
  unfold OpenLaw.pre at hc
  have h4:(WTm.not (.lt (.lit (.int (n:Int))) (.len (.arg 0)))).holds [] {args:=[.list (ns.map .int)]}=true:=by
   have h4:=(holds_andW hc).1
   rw[hn] at h4
   exact h4
  have h5:=condW_of h4 (w_not (w_lt w_lit (w_len_list (w_arg rfl))))
  rw[yC] at h5
  refine Nat.le_of_not_lt fun q=>?_
  have q':(n:Int)<((ns.length:Nat):Int):=by omega
  first
   |(rw[zbx q'] at h5;exact absurd h5 (by decide))
   |(simp at h5;omega)
 cases hwl with
 |cons w1 w2=>
  cases w2
  cases w1 with
  |list ho hall=>exact⟨_,_,ns,rfl,rfl,ho,q3K ns _ hall,hlen⟩
theorem q7T (l:OpenLaw)(args:List WData):l.row.toRowW.claim.post args (.bool true) args=true:=
 postW_of (r:=l.row.toRowW) (X:=(true==true))
  (show WShape.has [] (.bool true) .bool=true by first|rfl|decide|simp[WShape.has,WShape.arms,WShape.armsAll])
  (show(WTm.eq .res (.lit (.bool true))).value [] {args:=args,res:=some (.bool true),after:=args}=some (.bool (true==true)) from w_eq_bool (w_res rfl) w_lit) rfl
theorem q63 {l:OpenLaw}{n:Nat}{q:Program}{loose:List Str}{XP:(Str->Option Value)->Heap->Prop}{YP:World->Heap->Prop}{d:DefRec}
  (hn:l.most=some n)(hdf:d.params.defaults=[])
  (call:∀(w:World) (s₀ s₁:Shared) (mg mb:Str->Option Value) (fa:Addr) (o:Obj) (pm cd doc:Value) (a:Addr) (vs:List Value) (ns:List Int),
   Ground q loose [] XP w s₀ mg mb s₁.heap->YP w s₁.heap->
   s₁.heap.get? fa=some o->o.data= .func (docDef d.name d.params d.body d.scope pm cd doc)->s₁.heap.CodeRec cd d.name->mg d.name=some (.ref fa)->
   s₁.heap.get? a=some {cls:= .type "list",data:= .seq vs.toArray}->IntsAre vs ns->ns.length<=n->s₁.gens= #[]->
   codeAny (model l.prog w) callerA (.call (.ref fa) ⟨[.ref a],[]⟩) (fun r s'=>r= .ok (.ret (.bool true))/\OldK s₁.heap s'.heap/\s'.os=s₁.os/\AllBare s'.gens) s₁):
  WalkO q loose XP YP l.row.toRowW d [] (fun f vs=>PySem.call f vs):=by
 intro w s₀ s₁ mg mb G Y fa o pm cd doc dV kV ho hd hcd hD hmg hg args vals as hpre hlay hrd hwl hlo
 obtain rfl:dV= .none:=Dflts.none hD hdf
 obtain rfl:kV= .none:=Dflts.noKw hD
 obtain⟨a,vs,ns,rfl,rfl,hobj,hints,hlen⟩:=q7y hn hpre hwl
 refine enter_call (zbk (call w s₀ s₁ mg mb fa o pm cd doc a vs ns G Y ho (fd_plain hd) hcd hmg hobj hints hlen hg) fun r s' hq=>?_)
 obtain⟨rfl,h2,h3,h4⟩:=hq
 exact⟨.inl ⟨.bool true,.bool true,[],rfl,fun _=>rfl,.bool true,q7T l _,fun _=>⟨List.Pairwise.nil,fun _ hm=>(nomatch hm)⟩⟩,h2,h3,h4⟩
end Att
namespace L2
open PySem PySem.Spec PyProof.Rows
theorem q4U:∀{vs:List Value} {ns:List Int},IntsAre vs ns->Vals (ns.map V.int) vs
 |_,_,.nil=> .nil
 |_,_,.cons n t h=> .cons ⟨t,rfl⟩ (q4U h)
def Only (H:Hp):Prop:=∀b,H b=none\/∃o xs,H b=some (.frz o (.lst xs))
theorem q9D {P:Program}{w:World}{K:W.Frag}{mg mb:Str->Option Value}{CX:CXT}{k:Nat}{fa a:Addr}{fd:FuncData}{x:Str}{sp:Sp}{s₁:Shared}{vs:List Value}{ns:List Int}
  (KX:K.In s₁.heap)(hns:s₁.heap.Ns mainGlobals mg)(hb:s₁.heap.Ns builtinsNs mb)(hbb:∀x:Str,x≠"__name__"->mb x=bootBuiltins x)(hlim:s₁.heap.NoLimit)(hg:s₁.gens= #[])
  (ha:s₁.heap.get? a=some {cls:= .type "list",data:= .seq vs.toArray})(hi:IntsAre vs ns)(hl:ns.length<=sizeLine)(hr:Room k callerA)
  (F:∀base:Heap,K.In base->base.Ns mainGlobals mg->FnOk P w K mg base CX k fa fd [x] sp)(hbind:∀(s:Shared) (u:Value),BindsTo s fd ⟨[u],[]⟩ [(x,u)])
  (hsp:∀H:Hp,Only H->SqL K H a (ns.map V.int)->sp [.ref a] H (fun v _=>v= .bl true) fun _ _ _=>False)
  (hCX:∀H e s',CX [] H s₁ (fun _ _ _=>False) e s'->False):
  codeAny (model P w) callerA (.call (.ref fa) ⟨[.ref a],[]⟩) (fun r s'=>r= .ok (.ret (.bool true))/\OldK s₁.heap s'.heap/\s'.os=s₁.os/\AllBare s'.gens) s₁:=by
 have rv:=q4U hi
 have lenV:=hi.length
 -- from an abstract heap in which nothing but the script may be tracked
 have core:∀H:Hp,Only H->SqL K H a (ns.map V.int)->HOk P w H s₁.heap->(∀b,H b≠none->b=a)->(H a≠none->K.lookup a=none)->
   codeAny (model P w) callerA (.call (.ref fa) ⟨[.ref a],[]⟩) (fun r s'=>r= .ok (.ret (.bool true))/\OldK s₁.heap s'.heap/\s'.os=s₁.os/\AllBare s'.gens) s₁:=by
  intro H hO hS hok hA hK
  have base_of:∀{b:Addr} {o:Obj},s₁.heap.get? b=some o->H b=none->(hidT s₁.heap H).get? b=some o:=fun e n=>q9I e n
  have noA:∀{b:Addr} {o:Obj} {es:Array DictEntry} {ep:Nat},s₁.heap.get? b=some o->o.data= .dict es ep->H b=none:=fun {b o es ep} e d=>by
   cases q:H b with
   |none=>rfl
   |some u=>
    have e':b=a:=hA b (by rw[q];simp)
    subst e'
    rw[ha] at e;cases e
    have d':Data.seq vs.toArray _=Data.dict es ep:=d
    cases d'
  have nsK:∀{b:Addr} {m:Str->Option Value},s₁.heap.Ns b m->(hidT s₁.heap H).Ns b m:=fun {b m} ⟨o,es,ep,e,d,r⟩=>⟨o,es,ep,base_of e (noA e d),d,r⟩
  have hKb:K.In (hidT s₁.heap H):=fun b o e=>base_of (KX b o e) (by
   cases q:H b with
   |none=>rfl
   |some u=>
    have e':b=a:=hA b (by rw[q];simp)
    subst e'
    rw[hK (by rw[q];simp)] at e;cases e)
  have hM:Mod K mg (hidT s₁.heap H):=⟨hKb,nsK hns,⟨mb,nsK hb,hbb⟩,let ⟨mc,h1,h2⟩:=hlim;⟨mc,nsK h1,h2⟩⟩
  have e0:Env0 P w K mg (hidT s₁.heap H) callerA [] s₁ H:=⟨rfl,hM,fun b o e=>qbl e,Nat.le_of_eq (q8v _ _),trivial,fun b hb=>absurd (show b∈([]:List Addr) from hb) (by simp),hok,.of_eq hg⟩
  refine zbk ((F _ hKb (nsK hns)).run callerA [] s₁ H ⟨[.ref a],[]⟩ [.ref a] [.ref a] _ _ hr e0 (hbind s₁ (.ref a)) (.cons rfl .nil) (hsp H hO hS)) fun r s' h=>?_
  cases r with
  |error e=>exact(hCX H e s' h).elim
  |ok fl=>
   cases fl with
   |next=>exact False.elim h
   |brk=>exact False.elim h
   |cont=>exact False.elim h
   |ret u=>
    obtain⟨v,H',os,bare,un,hok',r',q⟩:=h
    have q':v= .bl true:=q
    subst q'
    obtain rfl:u=Value.bool true:=r'
    refine⟨rfl,OldK.of_keep fun b o e=>?_,os,bare⟩
    cases q:H b with
    |none=>exact un.keep b o e q (by intro z;exact absurd (show b∈([]:List Addr) from z) (by simp)) (by simp)
    |some u=>
     rcases hO b with z|⟨ob,xs,z⟩
     ·rw [q] at z;cases z
     ·have z2:=un.frzs b ob _ z
      obtain⟨e1,_⟩:=hok b _ z
      obtain⟨e2,_⟩:=hok' b _ z2
      rw[e] at e1;cases e1
      exact e2
 cases hk:K.lookup a with
 |some o=>
  -- the script is one of the module's own objects
  have e:=KX a o hk
  rw[ha] at e
  cases e
  refine core (fun _=>none) (fun _=> .inl rfl) (.inr ⟨_,vs.toArray,_,hk,rfl,rfl,rfl,by rw[zQ,lenV];exact hl,by simpa using rv⟩) (fun b u z=>by have z':(none:Option HO)=some u:=z;cases z') (fun b z=>absurd rfl z) fun z=>absurd rfl z
 |none=>
  refine core (fun b=>if b=a then some (.frz {cls:= .type "list",data:= .seq vs.toArray} (.lst (ns.map V.int))) else none) (fun b=>?_) (.inl (.inr ⟨{cls:= .type "list",data:= .seq vs.toArray},zM rfl⟩)) (fun b u z=>?_) (fun b z=>?_) fun _=>hk
  ·by_cases hb:b=a
   ·exact .inr ⟨_,_,zM hb⟩
   ·exact .inl (zI hb)
  ·by_cases hb:b=a
   ·have z':=(zM hb).symm.trans z
    cases z'
    subst hb
    exact⟨ha,by rw[yC];exact hl,vs,_,rv,ha⟩
   ·have z':=(zI hb).symm.trans z
    cases z'
  ·by_cases hb:b=a
   ·exact hb
   ·exact absurd (zI hb) z
theorem qax {l:PySem.W.OpenLaw}{n k:Nat}{q:Program}{loose:List Str}{XP:(Str->Option Value)->Heap->Prop}{YP:World->Heap->Prop}{d:DefRec}{K:Params->W.Frag}{CX:World->CXT}{sp:World->Sp}{x:Str}
  (hn:l.most=some n)(hn2:n<=sizeLine)(hdf:d.params.defaults=[])(hr:Room k callerA)
  (hY:∀(w:World) (h:Heap),YP w h->(K w.params).In h)
  (F:∀(w:World) (mg:Str->Option Value) (fa:Addr) (h:Heap),(K w.params).In h->h.Ns mainGlobals mg->mg d.name=some (.ref fa)->
   ∃fd:FuncData,(∀(s:Shared) (u:Value),BindsTo s fd ⟨[u],[]⟩ [(x,u)])/\
    ∀base:Heap,(K w.params).In base->base.Ns mainGlobals mg->FnOk l.prog w (K w.params) mg base (CX w) k fa fd [x] (sp w))
  (hsp:∀(w:World) (H:Hp) (a:Addr) (ns:List Int),ns.length<=n->Only H->SqL (K w.params) H a (ns.map V.int)->sp w [.ref a] H (fun v _=>v= .bl true) fun _ _ _=>False)
  (hCX:∀(w:World) (H:Hp) (s:Shared) (e:Value) (s':Shared),CX w [] H s (fun _ _ _=>False) e s'->False):
  PySem.W.WalkO q loose XP YP l.row.toRowW d [] (fun f vs=>PySem.call f vs):=by
 refine Att.q63 hn hdf fun w s₀ s₁ mg mb fa o pm cd doc a vs ns G Y ho hd hcd hmg hobj hints hlen hg=>?_
 have KX:=hY w _ Y
 obtain⟨fd,hb,hF⟩:=F w mg fa _ KX G.T.g hmg
 exact q9D KX G.T.g G.T.b G.T.builtins G.T.nolimit hg hobj hints (zap hlen hn2) hr hF hb (fun H hO hS=>hsp w H a ns hlen hO hS) fun H e s'=>hCX w H s₁ e s'
def q1N (s:Stmt)(j:Nat):Stmt:=match s with
 | .ClassDef _ _ _ body _ _ _ _ _ _ _=>body.getD j (.Pass ⟨0,0,0,0⟩)
 |_=> .Pass ⟨0,0,0,0⟩
def qA (s:Stmt):Arguments:=match s with
 | .FunctionDef _ a _ _ _ _ _ _ _ _=>a
 |_=>{posonlyargs:=[],args:=[],vararg:=none,kwonlyargs:=[],kw_defaults:=[],kwarg:=none,defaults:=[]}
def qu (s:Stmt):List Stmt:=match s with
 | .FunctionDef _ _ b _ _ _ _ _ _ _=>b
 |_=>[]
def qe (s:Stmt):Scope:=match s with
 | .FunctionDef _ _ _ _ _ _ sc _ _ _=>sc
 |_=>{kind:= .function,names:=[],isGenerator:=false,isCoroutine:=false}
abbrev CX0:CXT:=fun _ _ _ _ _ _=>False
abbrev E0:XK:=fun _ _ _=>False
theorem q5M {X:Cx}:q2R CX0 X E0:=fun _ _ _ _ _ _ _ h=>h.elim
structure Fun (K:W.Frag)(x qual:Str)(st:Stmt)(f:Addr)(fd:FuncData):Prop where
 ex:∃(oc:Value) (od:Option Addr) (kV doc pm:Value) (an:Option Addr) (cdv ct:Value) (osl:Array (Option Value)),
  fd=PySem.W.fnOf x qual (qA st) (qu st) (qe st) .none kV doc pm an cdv ct/\K.lookup f=some ⟨oc,od,.func fd,osl⟩/\PySem.W.codeIn K cdv qual=true
 kp:PySem.W.keepIn K (.ref f)=true
section
variable {P:Program}{w:World}{K:W.Frag}{mg:Str->Option Value}{base:Heap}
theorem Fun.ok {x qual:Str}{st:Stmt}{f:Addr}{fd:FuncData}{N ps:List Str}{k:Nat}{sp:Sp}(F:Fun K x qual st f fd)(S:FnScope N ps (qe st))(len:∀vs H Q E,sp vs H Q E->vs.length=ps.length)
  (hbody:∀(cdv:Value) (A:Around) (outer:List Env) (s:Shared) (H:Hp) (vs:List V) (Q:VK) (E:XK),Room k (A.deeper (envOfC qual (qe st) s.heap.objs.size f cdv))->sp vs H Q E->
   ∃t,PSs (cxOf CX0 P w K mg base N qual (qe st) f cdv A outer s H E).nox (qu st) t/\t {nx:=fun _ H'=>Q .non H',rt:=Q} (q1P N vs) H):FnOk P w K mg base CX0 (k+1) f fd ps sp:=by
 obtain⟨oc,od,kV,doc,pm,an,cdv,ct,osl,rfl,lk,hcd⟩:=F.ex
 refine qbL lk hcd S len fun A outer s H vs Q E hr hsp=>?_
 obtain⟨t,h,q⟩:=hbody cdv A outer s H vs Q E hr hsp
 exact⟨t,h.nox,q⟩
theorem Fun.binds {x qual:Str}{st:Stmt}{f:Addr}{fd:FuncData}{ps:List Str}(F:Fun K x qual st f fd)
  (h:∀(kV doc pm:Value) (an:Option Addr) (cdv ct:Value) (us:List Value),us.length=ps.length->bindArgs (PySem.W.fnOf x qual (qA st) (qu st) (qe st) .none kV doc pm an cdv ct) ⟨us,[]⟩=pure (ps.zip us)):q1h K fd ps []:=by
 obtain⟨oc,od,kV,doc,pm,an,cdv,ct,osl,rfl,lk,hcd⟩:=F.ex
 exact .all (h kV doc pm an cdv ct)
theorem q1U {x qual:Str}{st:Stmt}{f:Addr}{oc:Value}{od an:Option Addr}{osl:Array (Option Value)}{kV doc pm cdv ct:Value}(l:K.lookup f=some ⟨oc,od,.func (PySem.W.fnOf x qual (qA st) (qu st) (qe st) .none kV doc pm an cdv ct),osl⟩)
  (c:PySem.W.codeIn K cdv qual=true)(k:PySem.W.keepIn K (.ref f)=true):Fun K x qual st f (PySem.W.fnOf x qual (qA st) (qu st) (qe st) .none kV doc pm an cdv ct):=⟨⟨oc,od,kV,doc,pm,an,cdv,ct,osl,rfl,l,c⟩,k⟩
end
theorem hu_of {A:Around}{k:Nat}(hr:Room k A):A.units+1<cLine:=zbg (Nat.add_le_add_left (by decide:1<=64) _) hr.units
section
variable {X:Cx}
theorem pv (i:Nat){x:Str}{pos:Pos}(hN:X.N[i]? =some x:=by rfl)(hv:Vis X.env.scope x:=by first|exact Or.inl rfl|exact Or.inr (Or.inl rfl)|exact Or.inr (Or.inr rfl))(hd:(x==("__debug__":Str))=false:=by decide)
  (hcd:(x==("__classdict__":Str))=false:=by decide):PE X (.Name x pos) (tVar i):=pe_var hN hv hd hcd
end
theorem iteF {A B:Prop}(h:B):if false=true then A else B:=by
 rw[zI zK]
 exact h
theorem iteT {A B:Prop}(h:A):if true=true then A else B:=by
 rw[zM rfl]
 exact h
theorem ite2 {c A B:Prop}[Decidable c](h1:c->A)(h2:¬c->B):if c then A else B:=by
 by_cases h:c
 ·rw [zM h]
  exact h1 h
 ·rw [zI h]
  exact h2 h
def Same (H H':Hp):Prop:=∀b o,H b=some o->H' b=some o
theorem Same.refl (H:Hp):Same H H:=fun _ _ h=>h
theorem Same.trans {H H1 H2:Hp}(a:Same H H1)(b:Same H1 H2):Same H H2:=fun c o h=>b c o (a c o h)
theorem Same.free {H H':Hp}(e:Same H H'){l:Addr}(h:H' l=Option.none):H l=Option.none:=by
 cases q:H l with
 |none=>rfl
 |some o=>
  rw[e l o q] at h
  cases h
theorem Same.seq {K:W.Frag}{H H':Hp}{a:Addr}{xs:List V}(e:Same H H')(h:SqL K H a xs):SqL K H' a xs:=by
 rcases h with(h|⟨o,h⟩)|h
 ·exact .inl (.inl (e _ _ h))
 ·exact .inl (.inr ⟨o,e _ _ h⟩)
 ·exact .inr h
end L2
set_option maxHeartbeats 4000000
namespace L2
open PySem PySem.Spec PyProof.Rows
theorem fls {α:Type}{M:Model}{A:Around}{t:Sem α}{Q:α->Shared->Prop}{E:Value->Shared->Prop}{s:Shared}(h:wpAny M A t Q (fun _ _=>False) s):wpAny M A t Q E s:=
 zZ h (fun _ _ q=>q) fun _ _ z=>z.elim
section
variable {prog:Program}{w:World}{A:Around}{R:Result->Shared->Prop}{s:Shared}
theorem q5w {elt target iter:Expr}{ifs:List Expr}{scope:Scope}{pos:Pos}{it acc:Value}{env:Env}(J:Nat->Shared->Prop)
  (turn:∀n s,J n s->wpAny (model prog w) A (pyNext it) (fun r s₁=>match r with
   |none=>R (.ok .next) s₁
   | some v=>wpAny (model prog w) A (letOwnedTupleGo target it v) (fun _ s₂=>wpAny (model prog w) A (assign target env v) (fun _ s₃=>
     wpAny (model prog w) A (forIn ifs true fun c r=>if r=true then do let ok<-isTrue c env (eval c env);pure (ForInStep.yield ok) else pure (ForInStep.yield r)) (fun ok s₄=>
      if ok=true then wpAny (model prog w) A (eval elt env) (fun x s₅=>
       wpAny (model prog w) A (call (.builtin "list.append") [acc,x]) (fun _ s₆=>∃m,m<n/\J m s₆) (fun _ _=>False) s₅) (fun _ _=>False) s₄
      else∃m,m<n/\J m s₄) (fun _ _=>False) s₃) (fun _ _=>False) s₂) (fun _ _=>False) s₁) (fun _ _=>False) s)
  (n:Nat)(h:J n s):
  codeAny (model prog w) A (.compLoop (.ListComp elt [⟨target,iter,ifs,0⟩] scope pos) 0 it acc env) R s:=by
 refine codeAny_loop rfl J (fun n s hI=>?_) n h
 show wpAny _ A ((compTurn (.ListComp elt [⟨target,iter,ifs,0⟩] scope pos) 0 it acc env).onRaise (fun x=>do noteFrame x env;theTreesLotGoes x)) _ _ s
 refine wpAny_noted (fls ?_)
 rw[compTurn_list]
 refine yD (zaW (yD (zZ (turn n s hI) (fun r s₁ h₁=>?_) fun _ _ h'=>h')))
 cases r with
 |none=>exact zA h₁
 |some v=>
  refine yD (zZ h₁ (fun _ s₂ h₂=>yD (zZ h₂ (fun _ s₃ h₃=>yD (zZ h₃ (fun ok s₄ h₄=>?_) fun _ _ h'=>h')) fun _ _ h'=>h')) fun _ _ h'=>h')
  cases ok with
  |false=>exact zA ⟨rfl,h₄⟩
  |true=>exact yD (yD (zZ h₄ (fun x s₅ h₅=>yD (zZ h₅ (fun _ s₆ h₆=>zA (zA ⟨rfl,h₆⟩)) fun _ _ h'=>h')) fun _ _ h'=>h'))
end
def clOf (scope:Scope)(env:Env):List (Str×Addr):=(scope.names.filter fun y=>y.2== .free).reverse.map fun y=>(y.1,(env.cells.lookup y.1).getD 0)
theorem q3O {scope:Scope}{env:Env}(h:∀y∈scope.names,y.2= .free->∃c,env.cells.lookup y.1=some c):closureFor scope env=pure (clOf scope env):=by
 unfold closureFor clOf
 have key:∀(l:List (Str×NameKind)) (cs:List (Str×Addr)),(∀y∈l,y.2= .free->∃c,env.cells.lookup y.1=some c)->
   (forIn l cs (fun x r=>match x with
    |(name,kind)=>if (kind==NameKind.free)=true then do let a<-cellOf env name;pure (ForInStep.yield ((name,a)::r)) else pure (ForInStep.yield r)):Sem (List (Str×Addr)))=
    pure ((l.filter fun y=>y.2== .free).reverse.map (fun y=>(y.1,(env.cells.lookup y.1).getD 0))++cs):=by
  intro l
  induction l with
  |nil=>intro cs _;rfl
  |cons y l ih=>
   intro cs hl
   obtain⟨n,k⟩:=y
   have ih':=fun cs=>ih cs fun y hy=>hl y (zF _ hy)
   rw[zcp]
   by_cases hk:k= .free
   ·subst hk
    obtain⟨c,hc⟩:=hl (n,.free) zam rfl
    have e:cellOf env n=pure c:=by unfold cellOf;rw[hc]
    simp only[beq_self_eq_true,if_true,e,pure_bind]
    rw[ih']
    rw[List.filter_cons_of_pos (by rfl),List.reverse_cons,zY,List.append_assoc]
    simp[hc]
   ·have hb:(k==NameKind.free)=false:=by simpa using hk
    simp only[hb,Bool.false_eq_true,if_false,pure_bind]
    rw[ih',List.filter_cons_of_neg (by simp[hb])]
 have:=key scope.names [] h
 rw[zaU] at this
 first
  |exact this
  |(rw[this];rfl)
  |(simp only[bind_pure];exact this)
theorem q2r {f:Str->Addr}{x:Str}{c:Addr}:∀{l:List (Str×NameKind)},(l.map fun y=>(y.1,f y.1)).lookup x=some c->c=f x/\∃k,(x,k)∈l
 |[],h=>by simp at h
 |(n,k)::l,h=>by
  rw[zao,zaE] at h
  cases e:x==n with
  |true=>
   rw[e] at h
   have e':x=n:=by simpa using e
   subst e'
   exact⟨(zE h).symm,k,zam⟩
  |false=>
   rw[e] at h
   obtain⟨h1,k',h2⟩:=q2r h
   exact⟨h1,k',zF _ h2⟩
theorem q2s {f:Str->Addr}{x:Str}{k:NameKind}:∀{l:List (Str×NameKind)},(x,k)∈l->(l.map fun y=>(y.1,f y.1)).lookup x=some (f x)
 |[],h=>nomatch h
 |(n,k')::l,h=>by
  rw[zao,zaE]
  cases e:x==n with
  |true=>
   have e':x=n:=by simpa using e
   subst e'
   rfl
  |false=>
   rcases zJ.mp h with q|q
   ·cases q
    simp at e
   ·exact q2s q
theorem q6E {scope:Scope}{env:Env}(h:∀y∈scope.names,y.2= .free->∃c,env.cells.lookup y.1=some c){x:Str}{c:Addr}(e:(clOf scope env).lookup x=some c):env.cells.lookup x=some c:=by
 obtain⟨h1,k,h2⟩:=q2r (f:=fun x=>(env.cells.lookup x).getD 0) e
 have h3:=zbM.mp (List.mem_reverse.mp h2)
 obtain⟨c',hc⟩:=h (x,k) h3.1 (by simpa using h3.2)
 have hc':env.cells.lookup x=some c':=hc
 rw[hc'] at h1 ⊢
 rw[h1]
 rfl
theorem q6F {scope:Scope}{env:Env}{x:Str}(h:(x,NameKind.free)∈scope.names):(clOf scope env).lookup x=some ((env.cells.lookup x).getD 0):=
 q2s (f:=fun x=>(env.cells.lookup x).getD 0) (k:= .free) (List.mem_reverse.mpr (zbM.mpr ⟨h,rfl⟩))
theorem q2o {scope:Scope}{env:Env}{x:Str}:(relabel scope env).names.lookup x=(scope.names.lookup x).map fun k=>if (k== .free&&env.scope.kind== .function&&env.kindOf x==some .cell)=true then .cell else k:=by
 unfold relabel
 show List.lookup x (scope.names.map _)=_
 induction scope.names with
 |nil=>rfl
 |cons y l ih=>
  obtain⟨n,k⟩:=y
  rw[zao]
  show List.lookup x ((if (k==NameKind.free&&env.scope.kind==ScopeKind.function&&env.kindOf n==some NameKind.cell)=true then(n,NameKind.cell) else(n,k))::_)=_
  cases e:x==n with
  |true=>
   have e':x=n:=by simpa using e
   subst e'
   by_cases hc:(k==NameKind.free&&env.scope.kind==ScopeKind.function&&env.kindOf x==some NameKind.cell)=true
   ·rw [zM hc,zaE,zaE,e]
    show some _=some (if _ then _ else _)
    rw[zM hc]
   ·rw [zI hc,zaE,zaE,e]
    show some _=some (if _ then _ else _)
    rw[zI hc]
  |false=>
   by_cases hc:(k==NameKind.free&&env.scope.kind==ScopeKind.function&&env.kindOf n==some NameKind.cell)=true
   ·rw [zM hc,zaE,zaE,e]
    exact ih
   ·rw [zI hc,zaE,zaE,e]
    exact ih
def q0T (X:Cx)(N:List Str)(scope:Scope)(C:Addr)(s:Shared)(H:Hp)(fp:List Addr):Cx where
 prog:=X.prog
 w:=X.w
 K:=X.K
 mg:=X.mg
 base:=X.base
 A:=X.A
 N:=N
 s₀:=s
 H₀:=H
 env:=compEnvC scope (clOf scope X.env) C X.env
 outer:=X.stack
 stack:=X.stack
 ex:=fp
 fn:=fun _=>false
 calm:=X.calm
 pn:=[]
 xe:=fun _ _=>False
def q3e (own:Nat)(caps:List Nat)(σ:St):St:=List.replicate own none++caps.map fun j=>(σ[j]?).getD none
structure CompOk (X:Cx)(N:List Str)(scope:Scope)(own:Nat)(caps:List Nat):Prop where
 kind:scope.kind= .function
 names:∀y∈scope.names,y.2= .local->scope.names.lookup y.1=some .local
 nocell:∀y∈scope.names,y.2≠ .cell
 free:∀y∈scope.names,y.2= .free->X.env.kindOf y.1=some .cell\/X.env.kindOf y.1=some .free
 len:N.length=own+caps.length
 cap:∀(i j:Nat) (x:Str),caps[i]? =some j->N[own+i]? =some x->X.N[j]? =some x/\scope.names.lookup x=some .free
theorem CompOk.cells {X:Cx}{N:List Str}{scope:Scope}{own:Nat}{caps:List Nat}(O:CompOk X N scope own caps)(ok:X.Ok):∀y∈scope.names,y.2= .free->∃c,X.env.cells.lookup y.1=some c:=
 fun y hy hf=>ok.has y.1 (O.free y hy hf)
section
variable {X:Cx}{pins:List (Addr×Obj)}{σ:St}{H:Hp}{s:Shared}{N:List Str}{scope:Scope}{own:Nat}{caps:List Nat}
theorem Inv.block {h₁:Heap}{tk:Nat}{fp:List Addr}(O:CompOk X N scope own caps)(I:Inv X pins σ H s)(hf:∀b∈fp,FpOk X pins H b)(hlt:∀b∈fp,b<s.heap.objs.size){m:Str->Option Value}(hns:h₁.Ns s.heap.objs.size m)
  (hk:∀b o,s.heap.get? b=some o->h₁.get? b=some o):Inv (q0T X N scope s.heap.objs.size s H fp) [] (q3e own caps σ) H {s with heap:=h₁,toks:=tk}:=by
 have hcl:=O.cells I.ok
 have sub:∀x c,(clOf scope X.env).lookup x=some c->X.env.cells.lookup x=some c:=fun x c e=>q6E hcl e
 have stk:∀b∈fp,b∉frs X.stack:=fun b hb z=>by
  obtain⟨_,f1,f2,_⟩:=hf b hb
  rcases zJ.mp (I.stkSub b z) with q|q
  ·exact f1 q
  ·exact f2 q
 have nocl:∀x,(relabel scope X.env).names.lookup x=some .cell\/(relabel scope X.env).names.lookup x=some .free->(x,NameKind.free)∈scope.names:=fun x hx=>by
  rw[q2o] at hx
  cases e:scope.names.lookup x with
  |none=>rw[e] at hx;rcases hx with hx|hx<;>cases hx
  |some k=>
   have hm:=zaP e
   have hc:=O.nocell _ hm
   cases k with
   |free=>exact hm
   |cell=>exact absurd rfl hc
   |_=>rw[e] at hx;rcases hx with hx|hx<;>simp at hx
 have ok:(q0T X N scope s.heap.objs.size s H fp).Ok:=
  {mod:=I.ok.mod
   kind:=O.kind
   glob:=I.ok.glob
   blt:=I.ok.blt
   above:=zC _
   inj:=fun x y c h1 h2=>I.ok.inj x y c (sub x c h1) (sub y c h2)
   has:=fun x hx=>⟨_,q6F (nocl x hx)⟩
   cab:=fun x c h _=>by cases h
   hd:=I.ok.hd
   frames:=I.ok.frames
   stk:= .inl rfl
   exf:=fun b hb=>⟨zP (hlt b hb),fun x c e=>(hf b hb).2.2.2.2.1 x c (sub x c e)⟩
   bs:=I.bs
   bsz:=zap I.ok.bsz I.sz
   noex:=fun b o e hb=>by
    rcases(hf b hb).2.2.2.1 with z|z
    ·exact I.ok.noex b o e z
    ·exact absurd (zR (zD e) (zap I.ok.bsz z)) (zbn _)
   exfs:=stk
   funs:=I.stack
   frf:=I.stkFree}
 have hC:H s.heap.objs.size=none:=I.hok.fresh (zC _)
 refine⟨ok,rfl,I.bare,Un.kept hk,⟨m,hns,fun i x v h1 h2 h3=>?_⟩,fun x c e=>?_,hC,fun x c e=>I.freeC x c (sub x c e),fun p hp=>absurd (show p∈([]:List (Addr×Obj)) from hp) (by simp),I.hok.kept hk,?_⟩
 ·-- a name of the def
  have hi:own<=i:=by
   by_cases q:own<=i
   ·exact q
   ·unfold q3e at h2
    rw[zak (by simp;omega),List.getElem?_replicate] at h2
    split at h2<;>cases h2
  obtain⟨k,rfl⟩:∃k,i=own+k:=⟨i - own,by omega⟩
  unfold q3e at h2
  rw[zah (by simp),zbK,Nat.add_sub_cancel_left,zaq] at h2
  cases e:caps[k]? with
  |none=>rw[e] at h2;cases h2
  |some j=>
   rw[e] at h2
   have h2':(σ[j]?).getD none=some v:=zE h2
   obtain⟨e1,e2⟩:=O.cap k j x e h1
   have e3:=zaP e2
   have hkd:=O.free _ e3 rfl
   have h4:σ[j]? =some (some v):=by
    cases q:σ[j]? with
    |none=>rw[q] at h2';cases h2'
    |some o=>rw[q] at h2';rw[show o=some v from h2']
   have hvis:Vis X.env.scope x:= .inr hkd
   obtain⟨mo,_,hl⟩:=I.loc
   obtain⟨u,r,l⟩:=hl j x v e1 h4 hvis
   refine⟨u,r,.inr ⟨?_,?_⟩⟩
   ·show (relabel scope X.env).names.lookup x=some .cell\/(relabel scope X.env).names.lookup x=some .free
    rw[q2o,e2]
    show some (if _ then NameKind.cell else NameKind.free)=_\/some (if _ then NameKind.cell else NameKind.free)=_
    split
    ·exact .inl rfl
    ·exact .inr rfl
   ·rcases l with⟨q,_⟩|⟨_,c,hc,z⟩
    ·have hkd':X.env.kindOf x=some .cell\/X.env.kindOf x=some .free:=hkd
     rw[q] at hkd'
     rcases hkd' with hkd'|hkd'<;>cases hkd'
    ·refine ⟨c,?_,z.keeps hk⟩
     show(clOf scope X.env).lookup x=some c
     rw[q6F e3,hc]
     rfl
 ·obtain ⟨v,z⟩:=I.cell x c (sub x c e)
  exact⟨v,z.keeps hk⟩
 ·show (q3e own caps σ).length=N.length
  unfold q3e
  rw[zai,zbK,yC,O.len]
theorem Inv.blockEnd {fp:List Addr}{σ':St}{H':Hp}{s':Shared}(I:Inv X pins σ H s)(hf:∀b∈fp,FpOk X pins H b)(J:Inv (q0T X N scope s.heap.objs.size s H fp) [] σ' H' s'):Inv X pins σ H' s':=
 I.call' (ch:=fp) J.os J.base J.hok J.bare fun b hb=>⟨(hf b hb).2.2.2.1,(hf b hb).2.1,(hf b hb).2.2.2.2.1,(hf b hb).2.2.2.2.2⟩
theorem Inv.off {h':Heap}{C:Addr}(I:Inv X pins σ H s)(hC:H C=none)(hL:C≠X.env.locals)(h1:X.s₀.heap.objs.size<=C)(h2:∀x c,X.env.cells.lookup x=some c->c≠C)(h3:∀p∈X.pn++pins,p.1≠C)(sb:Heap.SameBut C s.heap h'):
  Inv X pins σ H {s with heap:=h'}:=
 I.turned (t':=s.toks) (it:=C) (fun b o hb e=>(sb.2 b hb).trans e) hC hL (.inr h1) h2 h3
end
def PIfs (X:Cx)(ifs:List Expr)(t:TT):Prop:=
 ∀(pins:List (Addr×Obj)) (s:Shared) (σ:St) (H:Hp) (Q:Bool->Hp->Prop),Inv X pins σ H s->t σ H Q->
  wpAny (model X.prog X.w) X.A (forIn ifs true fun c r=>if r=true then do let ok<-isTrue c X.env (eval c X.env);pure (ForInStep.yield ok) else pure (ForInStep.yield r)) (TP X pins σ Q) X.xe s
def tYes:TT:=fun _ H Q=>Q true H
theorem q1u {X:Cx}:PIfs X [] tYes:=fun _ _ _ H _ I h=>wpAny_tests_nil ⟨H,I,h⟩
theorem pf_one {X:Cx}{c:Expr}{t:TT}(h:PT X c t):PIfs X [c] t:=fun pins s σ H Q I hw=>wpAny_tests_one (h pins s σ H Q I hw)
def q98 (wi:TI)(g:TG)(tc:TT)(te:TE)(own:Nat)(caps:List Nat):TE:=fun σ H Q=>wi σ H fun J H1=>∀D,H1 D=none->∃W:Nat->Nat->St->Hp->Prop,(∃m,W 0 m (q3e own caps σ) (upd H1 D (.lst [])))/\∀i m σ' H',W i m σ' H'->
 (J.stop i H'/\Q (.ref D) H')\/(J.go i H'/\∃N:St->Hp->Prop,(∀σ'' H'',N σ'' H''->∃m',m'<m/\W (i+1) m' σ'' H'')/\∀x H2,J.yld i H' x H2->g x σ' H2 fun σ3 H3=>tc σ3 H3 fun b H4=>
  if b=true then te σ3 H4 fun y H5=>∃ys,H5 D=some (.lst ys)/\ys.length<sizeLine/\N σ3 (upd H5 D (.lst (ys++[y]))) else N σ3 H4)
section
variable {X:Cx}{N:List Str}{scope:Scope}{own:Nat}{caps:List Nat}{tg iter elt:Expr}{ifs:List Expr}{wi:TI}{g:TG}{tc:TT}{te:TE}{pos:Pos}
theorem q6D {use:Option (Value->Sem Unit)}{QQ:Value->Shared->Prop}(O:CompOk X N scope own caps)(hc:X.calm=true)(hi:PI X tg iter wi)(hg:∀C s H fp,PG (q0T X N scope C s H fp) tg g)(ht:∀C s H fp,PIfs (q0T X N scope C s H fp) ifs tc)
  (he:∀C s H fp,PE (q0T X N scope C s H fp) elt te)(hs:∀x,foldedSetIterable iter X.env x=pure x)
  {pins:List (Addr×Obj)}{s:Shared}{σ:St}{H:Hp}{Q:VK}(I:Inv X pins σ H s)(h:q98 wi g tc te own caps σ H Q)
  (fin:∀D C H' s' m,Inv X pins σ H' s'->Q (.ref D) H'->s'.heap.Ns C m->H' C=none->C≠X.env.locals->X.s₀.heap.objs.size<=C->(∀x c,X.env.cells.lookup x=some c->c≠C)->(∀p∈X.pn++pins,p.1≠C)->
   compPost (model X.prog X.w) X.A X.xe use QQ (.ref D) C (.ok .next) s'):
  wpAny (model X.prog X.w) X.A (comprehension (.ListComp elt [⟨tg,iter,ifs,0⟩] scope pos) scope X.env (firstIterPos [⟨tg,iter,ifs,0⟩] pos) (newList []) false (eval iter X.env) use) QQ X.xe s:=by
 refine wpAny_comprehension_free (use:=use) rfl hs (q3O (O.cells I.ok)) O.kind O.names (thn (hi pins s σ H _ I h) fun v s1 h1=>thn h1 fun itv s2 h2=>?_)
 obtain⟨it,fp,tn,J,H2,e,I2,T,st2,f2,q⟩:=h2
 subst e
 refine zaM (wpAny_newFunctionEnv O.nocell (by intro y hy;simp at hy) (fun h₁ hns hsb=>?_) O.kind)
 dsimp only at hns hsb ⊢
 have hD:H2 s2.heap.objs.size=none:=I2.hok.fresh (zC _)
 obtain⟨W,⟨m0,w0⟩,turn⟩:=q s2.heap.objs.size hD
 have I3:Inv X pins σ (upd H2 s2.heap.objs.size (.lst [])) {s2 with heap:=s2.heap.push {cls:= .type "list",dict:=none,data:= .seq ([]:List Value).toArray}}:=
  I2.lnew (its:=[]) (t':=s2.toks) .nil (zbC _)
 generalize hs3:({s2 with heap:=s2.heap.push {cls:= .type "list",dict:=none,data:= .seq ([]:List Value).toArray}}:Shared)=s3 at I3
 have hsz3:s3.heap.objs.size=s2.heap.objs.size+1:=by rw[<-hs3];exact za8 ..
 have hns':h₁.Ns s3.heap.objs.size (fun x=>([]:List (Str×Value)).reverse.lookup x):=by rw[<-hs3];exact hns
 have hk:∀b o,s3.heap.get? b=some o->h₁.get? b=some o:=fun b o e=>by
  rw[<-hs3] at e
  exact hsb.extBut b o (zP (zD e)) (zB _ e)
 have f3:∀b∈fp,FpOk X pins (upd H2 s2.heap.objs.size (.lst [])) b:=fun b hb=>by
  obtain⟨o,ho,_⟩:=T.obj _ _ st2 b hb
  exact⟨by rw[qm (zP (zD ho))];exact(f2 b hb).1,(f2 b hb).2⟩
 have hlt:∀b∈fp,b<s3.heap.objs.size:=fun b hb=>by
  obtain⟨o,ho,_⟩:=T.obj _ _ st2 b hb
  rw[hsz3]
  exact Nat.lt_succ_of_lt (zD ho)
 have st3:tn 0 h₁:=T.keep _ _ _ st2 fun b hb o e=>hk b o (by rw[<-hs3];exact zB _ e)
 have C3:∀tk,Inv (q0T X N scope s3.heap.objs.size s3 (upd H2 s2.heap.objs.size (.lst [])) fp) [] (q3e own caps σ) (upd H2 s2.heap.objs.size (.lst [])) {s3 with heap:=h₁,toks:=tk}:=fun tk=>I3.block O f3 hlt hns' hk
 have nf3:∀b∈fp,(upd H2 s2.heap.objs.size (.lst [])) b=none:=fun b hb=>(f3 b hb).1
 have hCL:s3.heap.objs.size≠X.env.locals:=zbu I3.lt
 have hC1:X.s₀.heap.objs.size<=s3.heap.objs.size:=I3.sz
 have hC2:∀x c,X.env.cells.lookup x=some c->c≠s3.heap.objs.size:=fun x c e=>by
  obtain⟨v,z⟩:=I3.cell x c e
  exact zP z.lt
 have hC3:∀p∈X.pn++pins,p.1≠s3.heap.objs.size:=fun p hp=>zP (zD (I3.pin p hp).1)
 have hst:∀{H':Hp},(∀b∈fp,H' b=none)->∀b∈fp,FpOk (q0T X N scope s3.heap.objs.size s3 (upd H2 s2.heap.objs.size (.lst [])) fp) [] H' b:=fun hn b hb=>by
  refine⟨hn b hb,zP (hlt b hb),fun z=>?_,.inl hb,fun x c e=>(f3 b hb).2.2.2.2.1 x c (q6E (O.cells I.ok) e),fun p hp=>absurd (show p∈([]:List (Addr×Obj)) from hp) (by simp)⟩
  exact(C3 0).ok.exfs b hb z
 have loop:∀s4:Shared,(∃tk,s4={s3 with heap:=h₁,toks:=tk})->
   codeAny (model X.prog X.w) X.A (.compLoop (.ListComp elt [⟨tg,iter,ifs,0⟩] scope pos) 0 (.ref it) (.ref s2.heap.objs.size) (compEnvC scope (clOf scope X.env) s3.heap.objs.size X.env))
    (compPost (model X.prog X.w) X.A X.xe use QQ (.ref s2.heap.objs.size) s3.heap.objs.size) s4:=by
  rintro s4 ⟨tk,rfl⟩
  refine q5w (fun n s'=>∃i σ' H',Inv (q0T X N scope s3.heap.objs.size s3 (upd H2 s2.heap.objs.size (.lst [])) fp) [] σ' H' s'/\tn i s'.heap/\(∀b∈fp,H' b=none)/\W i n σ' H') ?_ m0 ⟨0,_,_,C3 tk,st3,nf3,w0⟩
  rintro n s5 ⟨i,σ5,H5,I5,st5,fr5,w5⟩
  rcases turn i n σ5 H5 w5 with⟨stop,qn⟩|⟨go,NN,hN,step⟩
  ·refine thn (T.done (q0T X N scope s3.heap.objs.size s3 (upd H2 s2.heap.objs.size (.lst [])) fp) rfl rfl rfl hc i [] s5 σ5 H5 _ I5 (hst fr5) st5 stop) fun r s6 ⟨hr,I6⟩=>?_
   subst hr
   obtain⟨m6,hn6,_⟩:=id I6.loc
   exact fin _ _ H5 s6 m6 (I3.blockEnd f3 I6) qn hn6 I6.free hCL hC1 hC2 hC3
  ·refine thn (T.item (q0T X N scope s3.heap.objs.size s3 (upd H2 s2.heap.objs.size (.lst [])) fp) rfl rfl rfl hc i [] s5 σ5 H5 _ I5 (hst fr5) st5 go) fun r s6 ⟨u,hr,h6⟩=>?_
   subst hr
   refine thn h6 fun _ s7 ⟨x,H7,I7,r7,y7,st7,fr7⟩=>?_
   have I7':=I7.pinned (hst fr7) (T.obj _ _ st7)
   refine thn (hg _ _ _ _ _ s7 σ5 H7 x u _ I7' r7 (step x H7 y7)) fun _ s8 ⟨σ8,H8,I8,q8⟩=>?_
   refine thn (ht _ _ _ _ _ s8 σ8 H8 _ I8 q8) fun ok s9 ⟨H9,I9,q9⟩=>?_
   have again:∀{s10:Shared} {σ10:St} {H10:Hp},Inv (q0T X N scope s3.heap.objs.size s3 (upd H2 s2.heap.objs.size (.lst [])) fp) ([]++q5h fp s7.heap) σ10 H10 s10->NN σ10 H10->
     ∃m,m<n/\∃i σ' H',Inv (q0T X N scope s3.heap.objs.size s3 (upd H2 s2.heap.objs.size (.lst [])) fp) [] σ' H' s10/\tn i s10.heap/\(∀b∈fp,H' b=none)/\W i m σ' H':=fun {s10 σ10 H10} I10 n10=>by
    obtain⟨m',hm,w10⟩:=hN σ10 H10 n10
    refine⟨m',hm,i+1,σ10,H10,I10.unpinned,T.keep _ _ _ st7 fun b hb o e=>(I10.pin (b,o) (zan _ (zan _ (q2i hb e)))).1,fun b hb=>?_,w10⟩
    obtain⟨o,e,d⟩:=T.obj _ _ st7 b hb
    exact(I10.pin (b,o) (zan _ (zan _ (q2i hb e)))).2.1
   cases ok with
   |false=>
    rw[zI zK] at q9 ⊢
    exact again I9 q9
   |true=>
    rw[zM rfl] at q9 ⊢
    refine thn (he _ _ _ _ _ s9 σ8 H9 _ I9 q9) fun y s10 ⟨vy,H10,I10,r10,ys,hys,hyl,q10⟩=>?_
    refine thn (q1y (X:=q0T X N scope s3.heap.objs.size s3 (upd H2 s2.heap.objs.size (.lst [])) fp) _ s10 σ8 H10 (.ref s2.heap.objs.size) [vy] (.ref s2.heap.objs.size) [y] (fun _ H11=>NN σ8 H11) I10 rfl (.cons r10 .nil) ⟨_,ys,vy,rfl,rfl,hys,hyl,q10⟩) fun _ s11 ⟨_,H11,I11,_,q11⟩=>?_
    exact again I11 q11
 subst hs3
 exact codeAny_compStart_list (loop _ ⟨_,rfl⟩) (T.self _ _ _ _ _ st3 (loop _ ⟨_,rfl⟩))
theorem q0N (O:CompOk X N scope own caps)(hc:X.calm=true)(hi:PI X tg iter wi)(hg:∀C s H fp,PG (q0T X N scope C s H fp) tg g)(ht:∀C s H fp,PIfs (q0T X N scope C s H fp) ifs tc)
  (he:∀C s H fp,PE (q0T X N scope C s H fp) elt te)(hs:∀x,foldedSetIterable iter X.env x=pure x:=by intro _;rfl):PE X (.ListComp elt [⟨tg,iter,ifs,0⟩] scope pos) (q98 wi g tc te own caps):=by
 intro pins s σ H Q I h
 rw[eval_ListComp]
 refine q6D (use:=none) O hc hi hg ht he hs I h fun D C H' s' m I' q hn h0 h1 h2 h3 h4=>?_
 exact⟨m,hn,fun h' sb=>⟨.ref D,H',I'.off h0 h1 h2 h3 h4 sb,rfl,q⟩⟩
theorem qb2 {i:Nat}{y:Str}{py spos:Pos}(hN:X.N.Nodup)(hi':X.N[i]? =some y)(hy:X.env.scope.names.lookup y=some .local)(O:CompOk X N scope own caps)(hc:X.calm=true)(hi:PI X tg iter wi)(hg:∀C s H fp,PG (q0T X N scope C s H fp) tg g)
  (ht:∀C s H fp,PIfs (q0T X N scope C s H fp) ifs tc)(he:∀C s H fp,PE (q0T X N scope C s H fp) elt te)
  (hsw:swapsWith (.ListComp elt [⟨tg,iter,ifs,0⟩] scope pos) (some (.Name y py)) spos.line X.env=pure true:=by rfl)(hs:∀x,foldedSetIterable iter X.env x=pure x:=by intro _;rfl):
  PS X (.Assign [.Name y py] (.ListComp elt [⟨tg,iter,ifs,0⟩] scope pos) spos) (tAsg (q98 wi g tc te own caps) (q9K i)):=by
 intro pins s σ H D I h
 rw[exec_Assign_Name_used _ _ _ _ hsw]
 refine yD (zaW (yD ?_))
 show wpAny _ _ (do let _<-comprehension (.ListComp elt [⟨tg,iter,ifs,0⟩] scope pos) scope X.env _ (newList []) false (eval iter X.env) (some (assign (.Name y py) X.env))) _ _ s
 refine yD (zZ (q6D (use:=some (assign (.Name y py) X.env)) (QQ:=fun _ s'=>SP X pins D .next s') O hc hi hg ht he hs I h fun L C H' s' m I' q hn h0 h1 h2 h3 h4=>?_) (fun _ s' hq=>zA (zA hq)) fun _ _ e=>e)
 refine wpAny_assign_Name (q4Z I' hN hi' (.inl hy) (v:= .ref L) rfl (fun s2 I2 ⟨a,sb,ha⟩=>?_) (.inr hy))
 have hac:C≠a:=by
  rcases ha with ha|ha
  ·rw [ha];exact h1
  ·exact (h3 _ _ ha).symm
 exact⟨m,hn.sameBut sb hac,fun h' sb'=>⟨_,H',I2.off h0 h1 h2 h3 h4 sb',q⟩⟩
end
end L2
namespace PySem
open Sem (wp)
section
variable {prog:Program}{w:World}{A:Around}{E:Value->Shared->Prop}{s:Shared}
theorem q32 {I T:Addr}{k:Nat}{vals:Array Value}{y:Value}{Q:Value->Shared->Prop}(st:s.heap.IsTupleIter I T k)(tp:s.heap.IsTuple T vals)(hy:vals[k]? =some y)
  (hQ:∀h',h'.IsTupleIter I T (k+1)->Heap.SameBut I s.heap h'->Q y {s with heap:=h'}):wpAny (model prog w) A (Builtin.SmallTypes.nextOf (.ref I)) Q E s:=by
 obtain⟨oI,eI,cI,dI⟩:=id st
 obtain⟨oT,eT,_,nT,dT⟩:=tp
 unfold Builtin.SmallTypes.nextOf
 refine yD (zaL (name:=Str.ofString "__next__") st.typeIs za5 (zba za5 st.typeIs zb6 ?_ (zb3 _)))
 show wpAny _ _ (field (.ref I) 0 >>= _) _ _ s
 refine yD (zaa eI dI (x:= .ref T) rfl ?_)
 show wpAny _ _ (if (Value.ref T==Value.none)=true then _ else _) _ _ s
 rw[zI (show¬((Value.ref T==Value.none)=true) from zK)]
 show wpAny _ _ (field (.ref I) 1 >>= _) _ _ s
 refine yD (zaa eI dI (x:= .int k 0) rfl ?_)
 show wpAny _ _ (seqItems? (.ref T) >>= _) _ _ s
 refine yD (zaZ eT dT ?_)
 simp only[Int.toNat_natCast,hy]
 refine yD (zaK eI dI (by simp) (zA ⟨y,rfl,zA (hQ _ ?_ (Heap.SameBut.update ..))⟩))
 exact⟨_,zaj _ eI (za3 (za1 dI _)),(Obj.cls_mapFields ..).trans cI,by rw[za1 dI];simp[rawInt]⟩
theorem q2q {I T:Addr}{k:Nat}{vals:Array Value}{Q:Value->Shared->Prop}(hh:A.handled=none)(st:s.heap.IsTupleIter I T k)(tp:s.heap.IsTuple T vals)(hy:vals[k]? =none)
  (hE:∀h' e,Heap.ExtBut I s.heap h'->(∃o,h'.get? e=some o/\o.cls= .type "StopIteration")->E (.ref e) {s with heap:=h'}):wpAny (model prog w) A (Builtin.SmallTypes.nextOf (.ref I)) Q E s:=by
 obtain⟨oI,eI,cI,dI⟩:=id st
 obtain⟨oT,eT,_,nT,dT⟩:=tp
 unfold Builtin.SmallTypes.nextOf
 refine yD (zaL (name:=Str.ofString "__next__") st.typeIs za5 (zba za5 st.typeIs zb6 ?_ (zb3 _)))
 show wpAny _ _ (field (.ref I) 0 >>= _) _ _ s
 refine yD (zaa eI dI (x:= .ref T) rfl ?_)
 show wpAny _ _ (if (Value.ref T==Value.none)=true then _ else _) _ _ s
 rw[zI (show¬((Value.ref T==Value.none)=true) from zK)]
 show wpAny _ _ (field (.ref I) 1 >>= _) _ _ s
 refine yD (zaa eI dI (x:= .int k 0) rfl ?_)
 show wpAny _ _ (seqItems? (.ref T) >>= _) _ _ s
 refine yD (zaZ eT dT ?_)
 simp only[Int.toNat_natCast,hy]
 refine yD (zbh (yD (zaK eI dI (by simp) ?_)))
 show wpAny _ _ (newExc (.type "StopIteration") [] >>= _) _ _ _
 refine yD ?_
 simp only[newExc,newTuple]
 refine yD (zaM ?_ (by size_fits))
 refine yD (m:=firstArgMember _ _) (wpAny_of_eq (a:=Value.none) (by first|rfl|(simp only[firstArgMember];rfl)) ?_)
 refine zaM ?_ (by size_fits)
 simp only[raiseNew]
 refine yD (wpAny_handled ?_)
 first|rw[show A.in1.handled=none from hh]|rw[hh]
 refine yD (zA (wpAny_throw ?_))
 exact hE _ _ (((Heap.SameBut.update ..).extBut.push _).push _) ⟨_,zO _ rfl,rfl⟩
end
theorem Heap.IsTupleIter.at2 {h h':Heap}{a t:Addr}{i:Nat}(x:h.IsTupleIter a t i)(e:∀o,h.get? a=some o->h'.get? a=some o):h'.IsTupleIter a t i:=let ⟨o,q,r⟩:=x;⟨o,e o q,r⟩
end PySem
namespace L2
open PySem PySem.Spec PyProof.Rows
section
variable {X:Cx}{pins:List (Addr×Obj)}{σ:St}{H:Hp}{s:Shared}
theorem Inv.turnedL {h':Heap}{t':Nat}{ch:List Addr}(I:Inv X pins σ H s)(hf:∀b∈ch,FpOk X pins H b)(k:∀b o,b∉ch->s.heap.get? b=some o->h'.get? b=some o):Inv X pins σ H {s with heap:=h',toks:=t'}:=by
 have nit:∀b u,H b=some u->b∉ch:=fun b u e z=>by rw[(hf b z).1] at e;cases e
 refine I.step (g':=s.gens) (d':=s.drawn) (ch:=ch) (fun b hb=>⟨(hf b hb).2.2.2.1,(hf b hb).2.1,(hf b hb).2.2.2.2.1,(hf b hb).2.2.2.2.2⟩) (fun b o _ _ hc e _=>k b o hc e) (fun b o _ _ hc e _=>⟨o.slots,k b o hc e⟩) (fun _ _ _ _ n=>n)
  (fun b o hc e=>⟨o,k b o hc e⟩) (fun _ _ e=>e) (fun _ _ _ e=>e) (fun b ps e=>⟨#[],by rw[e];simp⟩) (fun m hm=>?_) (fun b u e=>?_) I.bare
 ·obtain ⟨o,es,ep,ho,r⟩:=hm
  exact⟨o,es,ep,k _ o (fun z=>(hf _ z).2.1 rfl) ho,r⟩
 ·refine (I.hok b u e).stay (fun c v hc q=>k c v ?_ q) (fun _ q=>q) fun _ _ q=>q
  rcases hc with z|z
  ·rw [z];exact nit b u e
  ·exact nit c _ z
theorem Inv.track {a:Addr}{o:HO}(I:Inv X pins σ H s)(ha:X.s₀.heap.objs.size<=a)(hn:H a=none)(hL:a≠X.env.locals)(hc:∀x c,X.env.cells.lookup x=some c->c≠a)(hp:∀p∈X.pn++pins,p.1≠a)
  (new:q0j X.prog X.w (upd H a o) s.heap a o):Inv X pins σ (upd H a o) s:=by
 have ne:∀b ob,X.s₀.heap.get? b=some ob->b≠a:=fun b ob e=>zP (zR (zD e) ha)
 refine⟨I.ok,I.os,I.bare,⟨I.base.keep,I.base.slot,fun b ob e n hx=>by rw[qm (ne b ob e)];exact I.base.free b ob e n hx,I.base.there,fun b xs e=>?_,fun b ob u e=>?_,fun b ps e=>?_⟩,I.loc,I.cell,by rw[qm hL.symm];exact I.free,
  fun x c e=>by rw[qm (hc x c e)];exact I.freeC x c e,fun p hpp=>?_,fun b u e=>?_,I.len⟩
 ·have q:=I.base.tups b xs e
  rw[qm (ql q hn)];exact q
 ·have q:=I.base.frzs b ob u e
  rw[qm (ql q hn)];exact q
 ·obtain ⟨more,q⟩:=I.base.tbls b ps e
  exact⟨more,by rw[qm (ql q hn)];exact q⟩
 ·obtain ⟨e1,n1,r⟩:=I.pin p hpp
  exact⟨e1,by rw[qm (hp p hpp)];exact n1,r⟩
 ·by_cases hb:b=a
  ·subst hb;rw[qh] at e;cases e;exact new
  ·rw [qm hb] at e
   exact(I.hok b u e).stay (fun c v _ q=>q) (fun c q=>by rw[qm (ql q hn)];exact q) fun c xs q=>by rw[qm (ql q hn)];exact q
theorem Inv.yields {h':Heap}{t':Nat}{ch:List Addr}{T:Addr}{xs:List V}{vals:List Value}(I:Inv X pins σ H s)(hf:∀b∈ch,FpOk X pins H b)(k:∀b o,b∉ch->s.heap.get? b=some o->h'.get? b=some o)
  (hT:s.heap.objs.size<=T)(tp:h'.IsTuple T vals.toArray)(r:Vals xs vals)(hz:xs.length<=sizeLine):Inv X pins σ (upd H T (.tup xs)) {s with heap:=h',toks:=t'}:=by
 have f:FpOk X pins H T:=I.fpOk hT (I.hok.fresh hT)
 have I1:Inv X pins σ H {s with heap:=h',toks:=t'}:=I.turnedL hf k
 exact I1.track (zap I.sz hT) f.1 f.2.1 f.2.2.2.2.1 f.2.2.2.2.2 ⟨hz,vals,r,tp⟩
theorem qak {ch:List Addr}{T:Addr}{o:HO}(hf:∀b∈ch,FpOk X pins H b)(hT:∀b∈ch,b≠T):∀b∈ch,FpOk X pins (upd H T o) b:=fun b hb=>⟨by rw[qm (hT b hb)];exact(hf b hb).1,(hf b hb).2⟩
end
def Ite (Sq:Hp->List V->Prop):It:=
 ⟨fun i H=>∃xs x,Sq H xs/\xs[i]? =some x,fun i H y H'=>∃T,H T=none/\y= .ref T/\∀xs x,Sq H xs->xs[i]? =some x->H'=upd H T (.tup [.int i,x]),fun i H=>∃xs,Sq H xs/\xs.length<=i⟩
theorem q6N {P:Program}{w:World}{K:W.Frag}{elts:List Expr}{k:Nat}{tp:Pos}(a e it:Addr)(hei:e≠it):Turn P w K (.Tuple elts k tp) (Ite fun H xs=>SqL K H a xs) [e,it] e (fun i h=>(∃old,IsEnum h e it i old)/\h.IsListIter it a i) where
 mem:=by simp
 obj:=fun i h st b hb=>by
  obtain⟨⟨old,q⟩,o,q2,c,d⟩:=st
  rcases zJ.mp hb with rfl|hb
  ·exact ⟨_,q,fun v z=>by cases z⟩
  ·rw [zL.mp hb]
   exact⟨o,q2,fun v z=>by rw[d] at z;cases z⟩
 keep:=fun i h h' st kk=>⟨⟨st.1.choose,kk e (by simp) _ st.1.choose_spec⟩,st.2.at fun o q=>kk it (by simp) o q⟩
 item:=by
  intro X hP hw hK hc i pins s σ H E I hf st hg
  subst hP hw hK
  obtain⟨xs,x,hq,hx⟩:=hg
  obtain⟨⟨old,he⟩,hit⟩:=st
  obtain⟨its,rv,p,hz⟩:=I.list hq
  obtain⟨u,hu,ru⟩:=rv.get hx
  have hlen:=rv.length
  have hi:i<its.toArray.size:=by rw[zQ];exact(yA hu).1
  have hai:a≠it:=fun z=>by
   obtain⟨o,q,c,d⟩:=hit
   obtain⟨o',q',c',_⟩:=p.isList
   rw[z] at q';rw[q] at q';cases q';rw[c] at c';simp at c'
  have hae:e≠a:=fun z=>by
   obtain⟨o',q',c',_⟩:=p.isList
   rw[<-z,he] at q';cases q';simp at c'
  refine wpAny_pyNext_enum_itemD (Draws.list (A:=X.A.in1) (I.ok.hd hc) it a hai its.toArray) he ⟨hit,p.isList⟩ hi hei (by simp[hei,hae]) fun y h' tk hy ho st' hT hsz hk=>?_
  have hyu:y=u:=by
   have:its[i]? =some y:=by simpa using hy
   rw[hu] at this;exact(zE this).symm
  subst hyu
  have ne:∀b∈[e,it],b≠s.heap.objs.size:=fun b hb=>by
   rcases zJ.mp hb with rfl|hb
   ·exact zP (zD he)
   ·rw [zL.mp hb];obtain⟨o,q,_⟩:=hit;exact zP (zD q)
  have kk:∀b o,b∉[e,it]->s.heap.get? b=some o->h'.get? b=some o:=fun b o hb q=>hk b o (fun z=>hb (by simp[z])) (fun z=>hb (by simp[z])) q
  have I1:Inv X pins σ (upd H s.heap.objs.size (.tup [.int i,x])) {s with heap:=h',toks:=tk+1}:=I.yields (vals:=[.int i tk,y]) hf kk (zC _) ⟨_,hT,rfl,_,rfl⟩ (.cons ⟨tk,rfl⟩ (.cons ru .nil)) (by show 2<=sizeLine;decide)
  have hf1:=qak (o:= .tup [.int i,x]) hf ne
  refine⟨_,rfl,wpAny_letOwnedTupleGo_enum ho fun h'' he'' sb=>?_⟩
  have I2:Inv X pins σ (upd H s.heap.objs.size (.tup [.int i,x])) {s with heap:=h'',toks:=tk+1}:=I1.turnedL (t':=tk+1) hf1 fun b o hb q=>(sb.2 b fun z=>hb (by simp[z])).trans q
  refine⟨.ref s.heap.objs.size,_,I2,rfl,⟨_,I.hok.fresh (zC _),rfl,fun ys y' hy' hx'=>?_⟩,⟨⟨_,by simpa using he''⟩,st'.1.at fun o q=>(sb.2 it hei.symm).trans q⟩,fun b hb=>(hf1 b hb).1⟩
  have:=I.list_inj hy' hq
  subst this
  rw[hx] at hx'
  rw[zE hx']
 done:=by
  intro X hP hw hK hc i pins s σ H E I hf st hg
  subst hP hw hK
  obtain⟨xs,hq,hx⟩:=hg
  obtain⟨⟨old,he⟩,hit⟩:=st
  obtain⟨its,rv,p,hz⟩:=I.list hq
  have hlen:=rv.length
  have hai:a≠it:=fun z=>by
   obtain⟨o,q,c,d⟩:=hit
   obtain⟨o',q',c',_⟩:=p.isList
   rw[z] at q';rw[q] at q';cases q';rw[c] at c';simp at c'
  have D:Draws X.prog X.w X.A.in1 it [it,a] i (fun _ _=>False) (fun k h=>k=i/\h.IsListIter it a i/\h.IsList a its.toArray):=
   {live:=fun _ _ st=>let ⟨o,ho,_⟩:=st.2.1;⟨o,ho⟩
    frame:=fun _ _ _ st hk=>⟨st.1,st.2.1.at fun o q=>hk it (by simp) o q,st.2.2.at fun o q=>hk a (by simp) o q⟩
    item:=fun k s Q E hk st _=>absurd st.1 (zP hk)
    done:=fun s Q E st hE=>wpAny_nextOf_list_end (I.ok.hd hc) st.2.1 st.2.2 (by simp;omega) hE}
  refine wpAny_pyNext_enum_endD D he ⟨rfl,hit,p.isList⟩ fun h' eb=>⟨rfl,I.turnedL (t':=s.toks) (ch:=[e,it]) hf fun b o hb q=>eb b o (fun z=>hb (by simp[z])) q⟩
 self:=fun _ _ _ _ _ st h=>wpAny_pyIter_enum st.1.choose_spec h
theorem q40:bootBuiltins "enumerate"=some (.type "enumerate"):=by walk_at "k"
section
variable {X:Cx}{elts:List Expr}{k:Nat}{tp:Pos}
def q8u (K:W.Frag)(ta:TA):TI:=fun σ H R=>ta σ H fun vs H1=>∃a,vs=[.ref a]/\(∃xs,SqL K H1 a xs)/\R (Ite fun H xs=>SqL K H a xs) H1
theorem q9k {a:Expr}{ta:TA}{p pos:Pos}(hg:Gl X "enumerate")(hm:X.mg "enumerate"=none)(ha:PA X [a] ta)(hs:starEach [a] X.env=[(false,eval a X.env)]:=by rfl):PI X (.Tuple elts k tp) (.Call (.Name "enumerate" p) [a] [] pos) (q8u X.K ta):=by
 intro pins s σ H R I h
 refine Call_ (q3J I hg hm q40 (zaN (thn (ha pos pins s σ H _ I h) fun us s1 ⟨vs,H1,I1,r1,q1⟩=>?_) hs rfl))
 obtain⟨l,e,⟨xs,hq⟩,q⟩:=q1
 subst e
 obtain⟨u,rfl,rx⟩:=q2u r1
 cases rx
 obtain⟨its,rv,pl,hz⟩:=I1.list hq
 refine call_enumerate_list pl.isList fun h' he hit hsz hk=>wpAny_pyIter_enum he ?_
 refine⟨_,[s1.heap.objs.size+1,s1.heap.objs.size],_,_,H1,rfl,I1.kept (t':=s1.toks) hk,q6N l _ _ (Nat.succ_ne_self _),⟨⟨_,he⟩,hit⟩,fun b hb=>?_,q⟩
 rcases zJ.mp hb with rfl|hb
 ·exact I1.fpOk (zb4 _) (I1.hok.fresh (zb4 _))
 ·rw [zL.mp hb];exact I1.fpOk (zC _) (I1.hok.fresh (zC _))
end
end L2
namespace PySem
open Sem (wp)
section
variable {prog:Program}{w:World}{A:Around}{E:Value->Shared->Prop}{s:Shared}
theorem q7d {z TI TO i1 i2 t1 t2:Addr}{k:Nat}{xs ys:Array Value}{x y a b:Value}{Q:Value->Shared->Prop}(D:ZipApart z TI TO i1 i2 t1 t2)(Z0:IsZip s.heap z TI TO .none)(PI0:IsPair s.heap TI (.ref i1) (.ref i2))(PO0:IsPair s.heap TO a b)
  (w1:s.heap.IsTupleIter i1 t1 k)(w2:s.heap.IsTupleIter i2 t2 k)(p1:s.heap.IsTuple t1 xs)(p2:s.heap.IsTuple t2 ys)(ex:xs[k]? =some x)(ey:ys[k]? =some y)
  (fin:∀h',IsZip h' z TI TO (rawInt s.heap.objs.size)->IsPair h' TO x y->h'.IsTupleIter i1 t1 (k+1)->h'.IsTupleIter i2 t2 (k+1)->IsPair h' s.heap.objs.size x y->
   (∀c o,c≠z->c≠TO->c≠i1->c≠i2->s.heap.get? c=some o->h'.get? c=some o)->Q (.ref s.heap.objs.size) {s with heap:=h'}):
  wpAny (model prog w) A (Builtin.«zip.__next__» ⟨[.ref z],[]⟩) (fun fn s'=>∃v,fn= .done (.ret v)/\Q v s') E s:=by
 show wpAny _ _ (field (.ref z) 2 >>= _) _ _ _
 refine yD (zaa Z0 rfl (x:= .bool false) rfl ?_)
 show wpAny _ _ (field (.ref z) 3 >>= _) _ _ _
 refine yD (zaa Z0 rfl (x:= .ref TI) rfl (yD (zaZ PI0 rfl ?_)))
 show wpAny _ _ (Builtin.SmallTypes.ownedTupleIsFree (.ref z) >>= _) _ _ _
 refine yD ?_
 unfold Builtin.SmallTypes.ownedTupleIsFree
 refine yD (zaa Z0 rfl (x:= .none) rfl (zA ?_))
 simp only[if_true]
 refine yD (zbh (yD (zaa Z0 rfl (x:= .ref TO) rfl ?_)))
 refine yD (za2 Z0 (by simp) fun g1 Z1 b1=>?_)
 replace Z1:IsZip g1 z TI TO .ellipsis:=Z1
 refine yD ?_
 simp only[List.zipIdx_cons,List.zipIdx_nil,List.forIn_cons,List.forIn_nil]
 refine yD (yD (zcf ?_))
 show wpAny _ _ (Builtin.SmallTypes.nextOf (.ref i1) >>= _) _ _ _
 refine yD (q32 (w1.extBut b1.extBut D.i1z) (p1.extBut b1.extBut D.l1z) ex fun g2 v1 b2=>zA ?_)
 have PO2:IsPair g2 TO a b:=b2.extBut _ _ D.TOi1 (b1.extBut _ _ D.TOz PO0)
 refine yD (zaZ PO2 rfl (yD (zbT PO2 fun g3 PO3 b3=>?_)))
 replace PO3:IsPair g3 TO x b:=PO3
 refine yD (zcr (zA (yD (yD (zcf ?_)))))
 show wpAny _ _ (Builtin.SmallTypes.nextOf (.ref i2) >>= _) _ _ _
 have w2':g3.IsTupleIter i2 t2 k:=((w2.extBut b1.extBut D.i2z).extBut b2.extBut D.i12.symm).extBut b3.extBut D.TOi2.symm
 have p2':g3.IsTuple t2 ys:=((p2.extBut b1.extBut D.l2z).extBut b2.extBut D.l2i1).extBut b3.extBut D.l2TO
 refine yD (q32 w2' p2' ey fun g4 v2 b4=>zA ?_)
 have PO4:IsPair g4 TO x b:=b4.extBut _ _ D.TOi2 PO3
 refine yD (zaZ PO4 rfl (yD (zbT PO4 fun g5 PO5 b5=>?_)))
 replace PO5:IsPair g5 TO x y:=PO5
 refine yD (zcr (zA (zA ?_)))
 refine yD (zaZ PO5 rfl (yD (wpAny_newTuple ?_)))
 have e5:g5.objs.size=s.heap.objs.size:=by rw[b5.1,b4.1,b3.1,b2.1,b1.1]
 have Z5:IsZip g5 z TI TO .ellipsis:=b5.extBut _ _ D.TOz.symm (b4.extBut _ _ D.i2z.symm (b3.extBut _ _ D.TOz.symm (b2.extBut _ _ D.i1z.symm Z1)))
 have k5:∀c o,c≠z->c≠TO->c≠i1->c≠i2->s.heap.get? c=some o->g5.get? c=some o:=fun c o c1 c2 c3 c4 q=>b5.extBut _ _ c2 (b4.extBut _ _ c4 (b3.extBut _ _ c2 (b2.extBut _ _ c3 (b1.extBut _ _ c1 q))))
 have u1:g5.IsTupleIter i1 t1 (k+1):=((v1.extBut b3.extBut D.TOi1.symm).extBut b4.extBut D.i12).extBut b5.extBut D.TOi1.symm
 have u2:g5.IsTupleIter i2 t2 (k+1):=v2.extBut b5.extBut D.TOi2.symm
 have lz:z<g5.objs.size:=zD Z5
 show wpAny _ _ (Builtin.SmallTypes.ownedTupleHandOut (.ref z) (.ref g5.objs.size) >>= _) _ _ _
 refine yD ?_
 unfold Builtin.SmallTypes.ownedTupleHandOut
 have Z6:IsZip (g5.push {cls:= .type "tuple",data:= .seq #[x,y]}) z TI TO .ellipsis:=zB _ Z5
 refine yD (za2 Z6 (by simp) fun g7 Z7 b7=>?_)
 replace Z7:IsZip g7 z TI TO (rawInt g5.objs.size):=Z7
 refine za2 Z7 (by simp) fun g8 Z8 b8=>?_
 replace Z8:IsZip g8 z TI TO (rawInt g5.objs.size):=Z8
 have up:∀c o,c≠z->g5.get? c=some o->g8.get? c=some o:=fun c o c1 q=>b8.extBut _ _ c1 (b7.extBut _ _ c1 (zB _ q))
 have T8:IsPair g8 g5.objs.size x y:=b8.extBut _ _ (zbu lz) (b7.extBut _ _ (zbu lz) (zO _ rfl))
 rw[e5] at Z8 T8
 refine zA ⟨_,rfl,?_⟩
 show Q (.ref g5.objs.size) _
 rw[e5]
 exact fin g8 Z8 (up _ _ D.TOz PO5) (u1.at2 fun o q=>up _ o D.i1z q) (u2.at2 fun o q=>up _ o D.i2z q) T8 fun c o c1 c2 c3 c4 q=>up c o c1 (k5 c o c1 c2 c3 c4 q)
theorem q92 {z TI TO i1 i2 t1 t2:Addr}{k:Nat}{xs ys:Array Value}{a b:Value}{Q:Fin->Shared->Prop}(hh:A.handled=none)(D:ZipApart z TI TO i1 i2 t1 t2)(Z0:IsZip s.heap z TI TO .none)(PI0:IsPair s.heap TI (.ref i1) (.ref i2))(PO0:IsPair s.heap TO a b)
  (w1:s.heap.IsTupleIter i1 t1 k)(w2:s.heap.IsTupleIter i2 t2 k)(p1:s.heap.IsTuple t1 xs)(p2:s.heap.IsTuple t2 ys)(over:xs[k]? =none\/ys[k]? =none)
  (fin:∀h' e,(∀c o,c≠z->c≠TO->c≠i1->c≠i2->s.heap.get? c=some o->h'.get? c=some o)->(∃o,h'.get? e=some o/\o.cls= .type "StopIteration")->E (.ref e) {s with heap:=h'}):
  wpAny (model prog w) A (Builtin.«zip.__next__» ⟨[.ref z],[]⟩) Q E s:=by
 show wpAny _ _ (field (.ref z) 2 >>= _) _ _ _
 refine yD (zaa Z0 rfl (x:= .bool false) rfl ?_)
 show wpAny _ _ (field (.ref z) 3 >>= _) _ _ _
 refine yD (zaa Z0 rfl (x:= .ref TI) rfl (yD (zaZ PI0 rfl ?_)))
 show wpAny _ _ (Builtin.SmallTypes.ownedTupleIsFree (.ref z) >>= _) _ _ _
 refine yD ?_
 unfold Builtin.SmallTypes.ownedTupleIsFree
 refine yD (zaa Z0 rfl (x:= .none) rfl (zA ?_))
 simp only[if_true]
 refine yD (zbh (yD (zaa Z0 rfl (x:= .ref TO) rfl ?_)))
 refine yD (za2 Z0 (by simp) fun g1 Z1 b1=>?_)
 replace Z1:IsZip g1 z TI TO .ellipsis:=Z1
 refine yD ?_
 simp only[List.zipIdx_cons,List.zipIdx_nil,List.forIn_cons,List.forIn_nil]
 refine yD (yD (zcf ?_))
 show wpAny _ _ (Builtin.SmallTypes.nextOf (.ref i1) >>= _) _ _ _
 cases ex:xs[k]? with
 |none=>
  refine yD (q2q hh (w1.extBut b1.extBut D.i1z) (p1.extBut b1.extBut D.l1z) ex fun g2 e b2 ee=>?_)
  obtain⟨oe,he,ce⟩:=ee
  have Z2:IsZip g2 z TI TO .ellipsis:=b2 _ _ D.i1z.symm Z1
  have nz:e≠z:=fun q=>by subst q;rw[Z2] at he;cases he;simp at ce
  exact za2 Z2 (by simp) fun g3 _ b3=>fin g3 e (fun c o c1 _ c3 _ q=>b3.extBut _ _ c1 (b2 _ _ c3 (b1.extBut _ _ c1 q))) ⟨oe,b3.extBut _ _ nz he,ce⟩
 |some x=>
  have ey:ys[k]? =none:=by rcases over with q|q;rw[ex] at q;cases q;exact q
  refine yD (q32 (w1.extBut b1.extBut D.i1z) (p1.extBut b1.extBut D.l1z) ex fun g2 v1 b2=>zA ?_)
  have PO2:IsPair g2 TO a b:=b2.extBut _ _ D.TOi1 (b1.extBut _ _ D.TOz PO0)
  refine yD (zaZ PO2 rfl (yD (zbT PO2 fun g3 PO3 b3=>?_)))
  refine yD (zcr (zA (yD (yD (zcf ?_)))))
  show wpAny _ _ (Builtin.SmallTypes.nextOf (.ref i2) >>= _) _ _ _
  have w2':g3.IsTupleIter i2 t2 k:=((w2.extBut b1.extBut D.i2z).extBut b2.extBut D.i12.symm).extBut b3.extBut D.TOi2.symm
  have p2':g3.IsTuple t2 ys:=((p2.extBut b1.extBut D.l2z).extBut b2.extBut D.l2i1).extBut b3.extBut D.l2TO
  refine yD (q2q hh w2' p2' ey fun g4 e b4 ee=>?_)
  obtain⟨oe,he,ce⟩:=ee
  have Z4:IsZip g4 z TI TO .ellipsis:=b4 _ _ D.i2z.symm (b3.extBut _ _ D.TOz.symm (b2.extBut _ _ D.i1z.symm Z1))
  have nz:e≠z:=fun q=>by subst q;rw[Z4] at he;cases he;simp at ce
  exact za2 Z4 (by simp) fun g5 _ b5=>fin g5 e (fun c o c1 c2 c3 c4 q=>b5.extBut _ _ c1 (b4 _ _ c4 (b3.extBut _ _ c2 (b2.extBut _ _ c3 (b1.extBut _ _ c1 q))))) ⟨oe,b5.extBut _ _ nz he,ce⟩
theorem q88 {z TI TO i1 i2 t1 t2:Addr}{k:Nat}{xs ys:Array Value}{x y a b:Value}{Q:Option Value->Shared->Prop}(D:ZipApart z TI TO i1 i2 t1 t2)(Z0:IsZip s.heap z TI TO .none)(PI0:IsPair s.heap TI (.ref i1) (.ref i2))(PO0:IsPair s.heap TO a b)
  (w1:s.heap.IsTupleIter i1 t1 k)(w2:s.heap.IsTupleIter i2 t2 k)(p1:s.heap.IsTuple t1 xs)(p2:s.heap.IsTuple t2 ys)(ex:xs[k]? =some x)(ey:ys[k]? =some y)
  (fin:∀h',IsZip h' z TI TO (rawInt s.heap.objs.size)->IsPair h' TO x y->h'.IsTupleIter i1 t1 (k+1)->h'.IsTupleIter i2 t2 (k+1)->IsPair h' s.heap.objs.size x y->
   (∀c o,c≠z->c≠TO->c≠i1->c≠i2->s.heap.get? c=some o->h'.get? c=some o)->Q (some (.ref s.heap.objs.size)) {s with heap:=h'}):
  wpAny (model prog w) A (pyNext (.ref z)) Q E s:=by
 have ty:s.TypeIs (.ref z) "zip":=⟨_,Z0,rfl⟩
 unfold pyNext
 exact yD (wpAny_attempt (zaL (name:=Str.ofString "__next__") ty zbU (zba zbU ty F.entry_zip_next
  (q7d D Z0 PI0 PO0 w1 w2 p1 p2 ex ey fun h' a1 a2 a3 a4 a5 a6=>zA (fin h' a1 a2 a3 a4 a5 a6)) (F.args_zip_next_1 _))))
theorem q4A {z TI TO i1 i2 t1 t2:Addr}{k:Nat}{xs ys:Array Value}{a b:Value}{Q:Option Value->Shared->Prop}(hh:A.handled=none)(D:ZipApart z TI TO i1 i2 t1 t2)(Z0:IsZip s.heap z TI TO .none)(PI0:IsPair s.heap TI (.ref i1) (.ref i2))(PO0:IsPair s.heap TO a b)
  (w1:s.heap.IsTupleIter i1 t1 k)(w2:s.heap.IsTupleIter i2 t2 k)(p1:s.heap.IsTuple t1 xs)(p2:s.heap.IsTuple t2 ys)(over:xs[k]? =none\/ys[k]? =none)
  (fin:∀h',(∀c o,c≠z->c≠TO->c≠i1->c≠i2->s.heap.get? c=some o->h'.get? c=some o)->Q none {s with heap:=h'}):wpAny (model prog w) A (pyNext (.ref z)) Q E s:=by
 have ty:s.TypeIs (.ref z) "zip":=⟨_,Z0,rfl⟩
 unfold pyNext
 refine yD (wpAny_attempt (zaL (name:=Str.ofString "__next__") ty zbU (zba zbU ty F.entry_zip_next (q92 hh D Z0 PI0 PO0 w1 w2 p1 p2 over fun h' e hk he=>?_) (F.args_zip_next_1 _))))
 obtain⟨o,ho,hc⟩:=he
 exact yD (wpAny_isInstance (T:="StopIteration") (b:=true) ⟨o,ho,hc⟩ isSubtype_stop (zA (fin _ hk)))
end
abbrev zT1 (h:Heap)(t1:Addr):Heap:=h.push {cls:= .type "tuple_iterator",data:= .fields #[.ref t1,.int 0 0]}
abbrev zT2 (h:Heap)(t1 t2:Addr):Heap:=(zT1 h t1).push {cls:= .type "tuple_iterator",data:= .fields #[.ref t2,.int 0 0]}
abbrev zT3 (h:Heap)(t1 t2:Addr):Heap:=(zT2 h t1 t2).push {cls:= .type "tuple",data:= .seq #[.ref h.objs.size,.ref (zT1 h t1).objs.size]}
abbrev zT4 (h:Heap)(t1 t2:Addr):Heap:=(zT3 h t1 t2).push {cls:= .type "tuple",data:= .seq #[.none,.none]}
abbrev zT5 (h:Heap)(t1 t2:Addr):Heap:=(zT4 h t1 t2).push {cls:= .type "zip",data:= .fields #[.none,.bool false,.bool false,.ref (zT2 h t1 t2).objs.size,.ref (zT3 h t1 t2).objs.size]}
theorem q3W (t1 t2:Addr)(xs ys:Array Value):
  Meets (Builtin.«zip.__new__» ⟨[.type "zip",.ref t1,.ref t2],[]⟩) (fun _ R s=>s.heap.IsTuple t1 xs/\s.heap.IsTuple t2 ys/\R (.ok (.ret (.ref (zT4 s.heap t1 t2).objs.size))) {s with heap:=zT5 s.heap t1 t2}):=
 .of_wp fun prog w A R s h=>by
  obtain⟨hp,g,d,tk,os⟩:=s;obtain⟨q1,q2,h⟩:=h
  have hsub:=sub_zip
  have T1:Heap.IsTuple (Shared.heap ⟨hp,g,d,tk,os⟩) t1 xs:=q1
  have T2:Heap.IsTuple (Shared.heap ⟨hp.push {cls:= .type "tuple_iterator",data:= .fields #[.ref t1,.int 0 0]},g,d,tk,os⟩) t2 ys:=Heap.IsTuple.push q2 _
  wp_walk using zb5 T1,zb5 T2
  exact⟨_,rfl,h⟩
section
variable {prog:Program}{w:World}{A:Around}{E:Value->Shared->Prop}{s:Shared}
theorem q8S {t1 t2:Addr}{xs ys:Array Value}{Q:Value->Shared->Prop}(q1:s.heap.IsTuple t1 xs)(q2:s.heap.IsTuple t2 ys)
  (h:∀h',IsZip h' (s.heap.objs.size+4) (s.heap.objs.size+2) (s.heap.objs.size+3) .none->IsPair h' (s.heap.objs.size+2) (.ref s.heap.objs.size) (.ref (s.heap.objs.size+1))->
   IsPair h' (s.heap.objs.size+3) .none .none->h'.IsTupleIter s.heap.objs.size t1 0->h'.IsTupleIter (s.heap.objs.size+1) t2 0->
   (∀c o,s.heap.get? c=some o->h'.get? c=some o)->Q (.ref (s.heap.objs.size+4)) {s with heap:=h'}):
  wpAny (model prog w) A (call (.type "zip") [.ref t1,.ref t2]) Q E s:=by
 refine callType_new F.called_zip (by decide) (F.typeCall_zip_2 _ _) (F.newCall_zip_2 _ _) (fun obj=>F.args_object_init_3 obj _ _) F.entry_zip_new (q3W t1 t2 xs ys) ⟨q1,q2,?_⟩
 have z1:(zT1 s.heap t1).objs.size=s.heap.objs.size+1:=za8 ..
 have z2:(zT2 s.heap t1 t2).objs.size=s.heap.objs.size+2:=by rw[za8,z1]
 have z3:(zT3 s.heap t1 t2).objs.size=s.heap.objs.size+3:=by rw[za8,z2]
 have z4:(zT4 s.heap t1 t2).objs.size=s.heap.objs.size+4:=by rw[za8,z3]
 have g5:(zT5 s.heap t1 t2).get? (zT4 s.heap t1 t2).objs.size=some _:=zO _ rfl
 have g4:(zT5 s.heap t1 t2).get? (zT3 s.heap t1 t2).objs.size=some _:=zB _ (zO _ rfl)
 have g3:(zT5 s.heap t1 t2).get? (zT2 s.heap t1 t2).objs.size=some _:=zB _ (zB _ (zO _ rfl))
 have g2:(zT5 s.heap t1 t2).get? (zT1 s.heap t1).objs.size=some _:=zB _ (zB _ (zB _ (zO _ rfl)))
 have g1:(zT5 s.heap t1 t2).get? s.heap.objs.size=some _:=zB _ (zB _ (zB _ (zB _ (zO _ rfl))))
 show _/\_
 rw[z2,z3,z4] at g5
 rw[z1,z2] at g3
 rw[z3] at g4
 rw[z1] at g2
 rw[z4]
 exact⟨⟨_,g5,rfl⟩,h _ g5 g3 g4 ⟨_,g1,rfl,rfl⟩ ⟨_,g2,rfl,rfl⟩ fun c o q=>zB _ (zB _ (zB _ (zB _ (zB _ q))))⟩
end
end PySem
namespace L2
open PySem PySem.Spec PyProof.Rows
def Itz (K:W.Frag)(a b:Addr):It:=
 ⟨fun i H=>∃xs ys x y,SqT K H a xs/\SqT K H b ys/\xs[i]? =some x/\ys[i]? =some y,fun i H v H'=>∃T,H T=none/\v= .ref T/\∀xs ys x y,SqT K H a xs->SqT K H b ys->xs[i]? =some x->ys[i]? =some y->H'=upd H T (.tup [x,y]),
  fun i H=>∃xs ys,SqT K H a xs/\SqT K H b ys/\(xs.length<=i\/ys.length<=i)⟩
theorem q7j {P:Program}{w:World}{K:W.Frag}{elts:List Expr}{k:Nat}{tp:Pos}(a b z TI TO i1 i2:Addr)(D:ZipApart z TI TO i1 i2 a b):
  Turn P w K (.Tuple elts k tp) (Itz K a b) [z,TI,TO,i1,i2] z (fun i h=>IsZip h z TI TO .none/\IsPair h TI (.ref i1) (.ref i2)/\(∃u v,IsPair h TO u v)/\h.IsTupleIter i1 a i/\h.IsTupleIter i2 b i) where
 mem:=by simp
 obj:=fun i h st c hc=>by
  obtain⟨q1,q2,⟨u,v,q3⟩,⟨o4,q4,_,d4⟩,⟨o5,q5,_,d5⟩⟩:=st
  simp only[List.mem_cons,List.not_mem_nil,or_false] at hc
  rcases hc with rfl|rfl|rfl|rfl|rfl
  ·exact ⟨_,q1,fun v z=>by cases z⟩
  ·exact ⟨_,q2,fun v z=>by cases z⟩
  ·exact ⟨_,q3,fun v z=>by cases z⟩
  ·exact ⟨_,q4,fun v z=>by rw[d4] at z;cases z⟩
  ·exact ⟨_,q5,fun v z=>by rw[d5] at z;cases z⟩
 keep:=fun i h h' st kk=>by
  obtain⟨q1,q2,⟨u,v,q3⟩,q4,q5⟩:=st
  exact⟨kk z (by simp) _ q1,kk TI (by simp) _ q2,⟨u,v,kk TO (by simp) _ q3⟩,q4.at2 fun o q=>kk i1 (by simp) o q,q5.at2 fun o q=>kk i2 (by simp) o q⟩
 item:=by
  intro X hP hw hK hc i pins s σ H E I hf st hg
  subst hP hw hK
  obtain⟨xs,ys,x,y,hqa,hqb,hx,hy⟩:=hg
  obtain⟨q1,q2,⟨u0,v0,q3⟩,q4,q5⟩:=st
  obtain⟨ia,ra,pa,hza⟩:=I.tuple hqa
  obtain⟨ib,rb,pb,hzb⟩:=I.tuple hqb
  have pa:s.heap.IsTuple a ia.toArray:=pa
  have pb:s.heap.IsTuple b ib.toArray:=pb
  obtain⟨u,hu,ru⟩:=ra.get hx
  obtain⟨v,hv,rv⟩:=rb.get hy
  refine q88 D q1 q2 q3 q4 q5 pa pb (x:=u) (y:=v) (by simpa using hu) (by simpa using hv) fun h' a1 a2 a3 a4 a5 kk=>?_
  have kf:∀c o,c∉[z,TI,TO,i1,i2]->s.heap.get? c=some o->h'.get? c=some o:=fun c o hcc q=>kk c o (fun e=>hcc (by simp[e])) (fun e=>hcc (by simp[e])) (fun e=>hcc (by simp[e])) (fun e=>hcc (by simp[e])) q
  have ne:∀c∈[z,TI,TO,i1,i2],c≠s.heap.objs.size:=fun c hcc=>by
   obtain⟨o4,e4,_⟩:=q4
   obtain⟨o5,e5,_⟩:=q5
   simp only[List.mem_cons,List.not_mem_nil,or_false] at hcc
   rcases hcc with rfl|rfl|rfl|rfl|rfl
   ·exact zP (zD q1)
   ·exact zP (zD q2)
   ·exact zP (zD q3)
   ·exact zP (zD e4)
   ·exact zP (zD e5)
  have I1:Inv X pins σ (upd H s.heap.objs.size (.tup [x,y])) {s with heap:=h',toks:=s.toks}:=I.yields (vals:=[u,v]) hf kf (zC _) ⟨_,a5,rfl,_,rfl⟩ (.cons ru (.cons rv .nil)) (by show 2<=sizeLine;decide)
  have hf1:=qak (o:= .tup [x,y]) hf ne
  refine⟨_,rfl,wpAny_letOwnedTupleGo_zip a1 fun h'' Z2 sb=>?_⟩
  have I2:Inv X pins σ (upd H s.heap.objs.size (.tup [x,y])) {s with heap:=h'',toks:=s.toks}:=I1.turnedL (t':=s.toks) hf1 fun c o hcc q=>(sb.2 c fun e=>hcc (by simp[e])).trans q
  refine⟨.ref s.heap.objs.size,_,I2,rfl,⟨_,I.hok.fresh (zC _),rfl,fun xs' ys' x' y' hxs hys hx' hy'=>?_⟩,⟨Z2,sb.extBut _ _ D.TIz (kk _ _ D.TIz D.TITO D.TIi1 D.TIi2 q2),⟨u,v,sb.extBut _ _ D.TOz a2⟩,a3.extBut sb.extBut D.i1z,a4.extBut sb.extBut D.i2z⟩,fun c hcc=>(hf1 c hcc).1⟩
  have e1:=I.tuple_inj hxs hqa
  have e2:=I.tuple_inj hys hqb
  subst e1 e2
  rw[hx] at hx';rw[hy] at hy'
  rw[zE hx',zE hy']
 done:=by
  intro X hP hw hK hc i pins s σ H E I hf st hg
  subst hP hw hK
  obtain⟨xs,ys,hqa,hqb,over⟩:=hg
  obtain⟨q1,q2,⟨u0,v0,q3⟩,q4,q5⟩:=st
  obtain⟨ia,ra,pa,hza⟩:=I.tuple hqa
  obtain⟨ib,rb,pb,hzb⟩:=I.tuple hqb
  have la:=ra.length
  have lb:=rb.length
  refine q4A (I.ok.hd hc) D q1 q2 q3 q4 q5 (show s.heap.IsTuple a ia.toArray from pa) (show s.heap.IsTuple b ib.toArray from pb) ?_ fun h' kk=>⟨rfl,I.turnedL (t':=s.toks) hf fun c o hcc q=>kk c o (fun e=>hcc (by simp[e])) (fun e=>hcc (by simp[e])) (fun e=>hcc (by simp[e])) (fun e=>hcc (by simp[e])) q⟩
  rcases over with q|q
  ·exact .inl (by simp;omega)
  ·exact .inr (by simp;omega)
 self:=fun _ _ _ _ _ st h=>wpAny_pyIter_zip st.1 h
section
variable {X:Cx}{elts:List Expr}{k:Nat}{tp:Pos}
def iZipT (K:W.Frag)(ta:TA):TI:=fun σ H R=>ta σ H fun vs H1=>∃a b,vs=[.ref a,.ref b]/\(∃xs,SqT K H1 a xs)/\(∃ys,SqT K H1 b ys)/\R (Itz K a b) H1
theorem qb5 {a b:Expr}{ta:TA}{p pos:Pos}(hg:Gl X "zip")(hm:X.mg "zip"=none)(ha:PA X [a,b] ta)(hs:starEach [a,b] X.env=[(false,eval a X.env),(false,eval b X.env)]:=by rfl)(hs2:starEach [b] X.env=[(false,eval b X.env)]:=by rfl):
  PI X (.Tuple elts k tp) (.Call (.Name "zip" p) [a,b] [] pos) (iZipT X.K ta):=by
 intro pins s σ H R I h
 refine Call_ (q3J I hg hm boot_zip (zaN (thn (ha pos pins s σ H _ I h) fun us s1 ⟨vs,H1,I1,r1,q1⟩=>?_) (by rw[hs,hs2]) (by rw[hs2];rfl)))
 obtain⟨t1,t2,e,⟨xs,hqa⟩,⟨ys,hqb⟩,q⟩:=q1
 subst e
 obtain⟨u,v,rfl,rx,ry⟩:=q7i r1
 cases rx
 cases ry
 obtain⟨ia,ra,pa,hza⟩:=I1.tuple hqa
 obtain⟨ib,rb,pb,hzb⟩:=I1.tuple hqb
 have pa:s1.heap.IsTuple t1 ia.toArray:=pa
 have pb:s1.heap.IsTuple t2 ib.toArray:=pb
 have l1:t1<s1.heap.objs.size:=by obtain⟨o,q,_⟩:=pa;exact zD q
 have l2:t2<s1.heap.objs.size:=by obtain⟨o,q,_⟩:=pb;exact zD q
 refine q8S pa pb fun h' a1 a2 a3 a4 a5 kk=>wpAny_pyIter_zip a1 ?_
 refine⟨_,[s1.heap.objs.size+4,s1.heap.objs.size+2,s1.heap.objs.size+3,s1.heap.objs.size,s1.heap.objs.size+1],_,_,H1,rfl,I1.kept (t':=s1.toks) kk,q7j t1 t2 _ _ _ _ _ (zipApart_new l1 l2),⟨a1,a2,⟨_,_,a3⟩,a4,a5⟩,fun c hc=>?_,q⟩
 have up:∀n,FpOk X pins H1 (s1.heap.objs.size+n):=fun n=>I1.fpOk (Nat.le_add_right _ _) (I1.hok.fresh (Nat.le_add_right _ _))
 simp only[List.mem_cons,List.not_mem_nil,or_false] at hc
 rcases hc with rfl|rfl|rfl|rfl|rfl
 ·exact up 4
 ·exact up 2
 ·exact up 3
 ·exact up 0
 ·exact up 1
end
theorem kit_is (K:W.Frag):PySem.W.kitOne K (.type "int") (.type "str")=some false:=by kernel_rfl
section
variable {X:Cx}
def rIsiT (K:W.Frag):List V->Hp->VK->Prop:=fun xs H Q=>∃x n t b,xs=[x,.ty n]/\TyOf K H x t/\PySem.W.kitOne K t (.type n)=some b/\Q (.bl b) H
theorem q8V:q1d X (.builtin "isinstance") (rIsiT X.K):=by
 intro pins s σ H xs us Q I r h
 obtain⟨x,n,t,b,rfl,ty,e,q⟩:=h
 obtain⟨u,v,rfl,rx,ry⟩:=q7i r
 cases ry
 exact q8t I rx ty e fun tk=>⟨.bl b,H,I.tok _,rfl,q⟩
theorem q67 {bs:List Bool}:∀{us:List Value},Vals (bs.map V.bl) us->us=bs.map Value.bool:=by
 induction bs with
 |nil=>intro us r;cases r;rfl
 |cons b bs ih=>
  intro us r
  rw[zao] at r
  cases r with
  |cons r1 r2=>
   cases(show _=Value.bool b from r1)
   rw[ih r2]
   rfl
theorem q4O (bs:List Bool):((List.range bs.length).all fun i=>bs.getD i true)=bs.all id:=by
 rw[zaT]
 simp only[List.all_eq_true,List.mem_range,id]
 constructor
 ·intro h x hx
  obtain⟨i,hi,rfl⟩:=zbl.mp hx
  have:=h i hi
  simpa[List.getD,hi] using this
 ·intro h i hi
  have:=h bs[i] (zN hi)
  simpa[List.getD,hi] using this
def rAll (K:W.Frag):List V->Hp->VK->Prop:=fun xs H Q=>∃(p:Addr) (bs:List Bool),xs=[.ref p]/\SqL K H p (bs.map V.bl)/\Q (.bl (bs.all id)) H
theorem q9Q (hc:X.calm=true):q1d X (.builtin "all") (rAll X.K):=by
 intro pins s σ H xs us Q I r h
 obtain⟨p,bs,rfl,hq,q⟩:=h
 obtain⟨u,rfl,rx⟩:=q2u r
 cases rx
 obtain⟨its,rv,pl,hz⟩:=I.list hq
 have hits:=q67 rv
 have hl:=pl.isList
 have hlt:p<s.heap.objs.size:=by obtain⟨o,e,_⟩:=hl;exact zD e
 have hh:X.A.in1.handled=none:=I.ok.hd hc
 refine call_all_walk (zcg hl ?_)
 refine⟨s.heap.objs.size,_,_,_,_,_,fun i=>bs.getD i true,rfl,Walks.list hh s.heap.objs.size p (zP hlt) its.toArray,⟨⟨_,zO _ rfl,rfl,rfl⟩,hl.push _⟩,?_,fun h' tk hk=>?_⟩
 ·intro i v s' Q' E' hv hQ
  have e:v= .bool (bs.getD i true):=by
   have hv':its[i]? =some v:=by simpa using hv
   rw[hits,zaq] at hv'
   cases e:bs[i]? with
   |none=>rw[e] at hv';cases hv'
   |some b=>rw[e] at hv';simp[List.getD,e];exact(zE hv').symm
  subst e
  first
   |exact zA hQ
   |exact hQ
 ·have e:its.toArray.size=bs.length:=by rw[hits];simp
  have I1:Inv X pins σ H {s with heap:=s.heap.push {cls:= .type "list_iterator",data:= .fields #[.ref p,.int 0 0]}}:=I.kept (t':=s.toks) fun b o e=>zB _ e
  have f:∀b∈[s.heap.objs.size],FpOk X pins H b:=fun b hb=>by rw[zL.mp hb];exact I.fpOk (zC _) (I.hok.fresh (zC _))
  refine⟨.bl (bs.all id),H,I1.turnedL (t':=tk) (ch:=[s.heap.objs.size]) f fun b o hb e=>hk b o hb e,?_,q⟩
  show Value.bool _=Value.bool _
  rw[e,q4O]
end
end L2
namespace HT
open PySem PyProof.Rows
section
variable {prog:Program}{w:World}{A:Around}{E:Value->Shared->Prop}{s:Shared}
theorem q34 {t sl:Addr}{items:Array Value}{vl vu:Value}{lo hi:Option Int}{Q:Value->Shared->Prop}(ht:IsTup s.heap t items)(hs:s.heap.IsSliceOf sl vl vu .none)(pl:IsPart vl lo)(pu:IsPart vu hi)
  (hw:sIx items.size 0 lo=0/\sIx items.size items.size hi=items.size)(h:Q (.ref t) s):wpAny (model prog w) A (getItem (.ref t) (.ref sl)) Q E s:=by
 obtain⟨os,hos,hcs,hds⟩:=id hs
 have hTs:s.TypeIs (.ref sl) "slice":=⟨os,hos,hcs⟩
 unfold getItem
 try with_reducible refine zar ?_
 first|refine yD (zA ?_)|skip
 refine yD (wpAny_sequenceKey ht.typeIs (by decide) ?_)
 refine yD (zaL (name:=Str.ofString "__getitem__") ht.typeIs zat (zba zat ht.typeIs entry_tuple_getitem ?_ (args_tuple_getitem _ _)))
 show wpAny _ _ (Builtin.Tuple.tupleItemsOf (.ref t) >>= _) _ _ s
 refine yD (tupleItemsOf_ ht (yD (zck hTs ?_)))
 rw[zM (by decide)]
 refine yD (q22 hs pl pu ?_)
 have yes:(((sIx items.size 0 lo:Nat):Int)==0&&(1:Int)==1&&(sIx items.size items.size hi - sIx items.size 0 lo)==items.size)=true:=by
  rw[hw.1,hw.2];simp
 show wpAny _ _ (if (((sIx items.size 0 lo:Nat):Int)==0&&(1:Int)==1&&(sIx items.size items.size hi - sIx items.size 0 lo)==items.size)=true then _ else _) _ _ s
 rw[zM yes]
 refine yD (m:=Builtin.Tuple.tupleIsExact _) ?_
 unfold Builtin.Tuple.tupleIsExact
 refine yD (zck ht.typeIs (zA ?_))
 simp only[beq_self_eq_true,if_true]
 first
  |exact yD (zbh (zA ⟨_,rfl,zA h⟩))
  |exact yD (zbh (yD (zA (zA ⟨_,rfl,zA h⟩))))
  |exact yD (zbh (yD (zA ⟨_,rfl,zA h⟩)))
  |(trace_state;fail)
end
end HT
namespace L2
open PySem PySem.Spec PyProof.Rows
section
variable {X:Cx}
def qaV (K:W.Frag):V->Option Int->Option Int->Hp->VK->Prop:=fun x lo hi H Q=>∃a xs,x= .ref a/\SqT K H a xs/\(cutV xs lo hi=xs->Q (.ref a) H)/\∀p,H p=none->Q (.ref p) (upd H p (.tup (cutV xs lo hi)))
theorem qaH:SlR X (qaV X.K):=by
 intro pins s σ H x v vl vu lo hi sl Q I rx hs pl pu h
 obtain⟨a,xs,rfl,hx,h1,h2⟩:=h
 by_cases hw:HT.sIx xs.length 0 lo=0/\HT.sIx xs.length xs.length hi=xs.length
 ·have e:cutV xs lo hi=xs:=by unfold cutV;rw[hw.1,hw.2];simp
  cases rx
  obtain⟨its,r,ht,hz⟩:=I.tuple hx
  have hlen:its.toArray.size=xs.length:=by rw[zQ];exact r.length.symm
  exact⟨"tuple",_,zat.lookup,ht.typeIs,HT.q34 ht hs pl pu (by rw[hlen];exact hw) ⟨.ref a,H,I,rfl,h1 e⟩⟩
 ·exact sl_tup pins s σ H (.ref a) v vl vu lo hi sl Q I rx hs pl pu ⟨a,xs,rfl,hx,hw,h2⟩
end
theorem q3N {J:It}{g:TG}{tc:TT}{te:TE}{R:Hp->Prop}{σ:St}{H:Hp}{D:Addr}(n:Nat)(Pv:Nat->St->Hp->Prop)(h0:Pv 0 σ H)
  (go:∀i σ H,i<n->Pv i σ H->J.go i H/\∀x H',J.yld i H x H'->g x σ H' fun σ3 H3=>tc σ3 H3 fun b H4=>
   if b=true then te σ3 H4 fun y H5=>∃ys,H5 D=some (.lst ys)/\ys.length<sizeLine/\Pv (i+1) σ3 (upd H5 D (.lst (ys++[y]))) else Pv (i+1) σ3 H4)(stop:∀σ H,Pv n σ H->J.stop n H/\R H):
  ∃W:Nat->Nat->St->Hp->Prop,(∃m,W 0 m σ H)/\∀i m σ H,W i m σ H->
   (J.stop i H/\R H)\/(J.go i H/\∃N:St->Hp->Prop,(∀σ' H',N σ' H'->∃m',m'<m/\W (i+1) m' σ' H')/\∀x H',J.yld i H x H'->g x σ H' fun σ3 H3=>tc σ3 H3 fun b H4=>
    if b=true then te σ3 H4 fun y H5=>∃ys,H5 D=some (.lst ys)/\ys.length<sizeLine/\N σ3 (upd H5 D (.lst (ys++[y]))) else N σ3 H4):=by
 refine⟨fun i m σ H=>m=n - i/\i<=n/\Pv i σ H,⟨n,by simp,zbC _,h0⟩,?_⟩
 rintro i m σ H ⟨rfl,hi,p⟩
 by_cases hlt:i<n
 ·obtain ⟨q1,q2⟩:=go i σ H hlt p
  exact .inr ⟨q1,Pv (i+1),fun σ' H' p'=>⟨n - (i+1),by omega,rfl,hlt,p'⟩,q2⟩
 ·have e:i=n:=by omega
  subst e
  exact .inl (stop σ H p)
theorem Same.upd {H:Hp}{a:Addr}{o:HO}(h:H a=none):Same H (upd H a o):=fun b u e=>by rw[qm (ql e h)];exact e
theorem Same.put {H H':Hp}{a:Addr}{o:HO}(e:Same H H')(h:H a=none):Same H (L2.upd H' a o):=fun b u q=>by rw[qm (ql q h)];exact e b u q
def isFun:ScopeKind->Bool
 | .function=>true
 |_=>false
theorem q9H {k:ScopeKind}(h:isFun k=true):k= .function:=by
 cases k<;>first|rfl|cases h
def q8Q (Nx:List Str)(scx:Scope)(N:List Str)(scope:Scope)(own:Nat)(caps:List Nat):Bool:=
 isFun scope.kind&&scope.names.all (fun y=>(y.2 != .local||scope.names.lookup y.1==some .local)&&y.2 != .cell&&(y.2 != .free||scx.names.lookup y.1==some .cell||scx.names.lookup y.1==some .free))&&
  N.length==own+caps.length&&(caps.zip (N.drop own)).all fun p=>decide (Nx[p.1]? =some p.2)&&scope.names.lookup p.2==some .free
theorem q1k {X:Cx}{N:List Str}{scope:Scope}{own:Nat}{caps:List Nat}(Nx:List Str)(scx:Scope)(h:q8Q Nx scx N scope own caps=true)(hN:X.N=Nx:=by rfl)(hs:X.env.scope=scx:=by rfl):CompOk X N scope own caps:=by
 unfold q8Q at h
 simp only[Bool.and_eq_true,List.all_eq_true] at h
 obtain⟨⟨⟨h1,h2⟩,h3⟩,h4⟩:=h
 refine⟨q9H h1,fun y hy hl=>?_,fun y hy hc=>?_,fun y hy hf=>?_,by simpa using h3,fun i j x e1 e2=>?_⟩
 ·have:=(h2 y hy).1.1
  simpa[hl] using this
 ·have:=(h2 y hy).1.2
  simp[hc] at this
 ·have:=(h2 y hy).2
  show X.env.scope.names.lookup y.1=some .cell\/X.env.scope.names.lookup y.1=some .free
  rw[hs]
  simpa[hf] using this
 ·have hm:(j,x)∈caps.zip (N.drop own):=by
   have e3:(N.drop own)[i]? =some x:=by rw[zb7];exact e2
   exact List.mem_iff_getElem?.mpr ⟨i,by rw[List.getElem?_zip_eq_some];exact⟨e1,e3⟩⟩
  have:=h4 _ hm
  rw[hN]
  exact⟨zbA this.1,by simpa using this.2⟩
structure Cal (P:Program)(w:World)(K:W.Frag)(mg:Str->Option Value)(base:Heap)(k:Nat)(x:Str)(ps:List Str)(sp:Sp):Prop where
 ex:∃f fd,FnOk P w K mg base CX0 k f fd ps sp/\mg x=some (.ref f)/\PySem.W.keepIn K (.ref f)=true/\q1h K fd ps []
structure Laid (K:W.Frag)(mg:Str->Option Value)(x:Str)(st:Stmt)(ps:List Str):Prop where
 ex:∃f fd,Fun K x x st f fd/\mg x=some (.ref f)/\q1h K fd ps []
section
variable {P:Program}{w:World}{K:W.Frag}{mg:Str->Option Value}{base:Heap}
theorem Laid.cal {x:Str}{st:Stmt}{N ps:List Str}{k:Nat}{sp:Sp}(L:Laid K mg x st ps)(S:FnScope N ps (qe st))(len:∀vs H Q E,sp vs H Q E->vs.length=ps.length)
  (hbody:∀(f:Addr) (cdv:Value) (A:Around) (outer:List Env) (s:Shared) (H:Hp) (vs:List V) (Q:VK) (E:XK),Room k (A.deeper (envOfC x (qe st) s.heap.objs.size f cdv))->sp vs H Q E->
   ∃t,PSs (cxOf CX0 P w K mg base N x (qe st) f cdv A outer s H E).nox (qu st) t/\t {nx:=fun _ H'=>Q .non H',rt:=Q} (q1P N vs) H):Cal P w K mg base (k+1) x ps sp:=by
 obtain⟨f,fd,F,m,b⟩:=L.ex
 exact⟨f,fd,F.ok S len (fun cdv A outer s H vs Q E hr h=>hbody f cdv A outer s H vs Q E hr h),m,F.kp,b⟩
theorem qP {h:Heap}{x:Str}{st:Stmt}{ps:List Str}{f:Addr}{oc:Value}{od an:Option Addr}{osl:Array (Option Value)}{kV doc pm cdv ct:Value}(X:K.In h)(G:h.Ns mainGlobals mg)(a:PySem.W.nsIn K mainGlobals x=some (some (.ref f)))
  (l:K.lookup f=some ⟨oc,od,.func (PySem.W.fnOf x x (qA st) (qu st) (qe st) .none kV doc pm an cdv ct),osl⟩)(c:PySem.W.codeIn K cdv x=true)(k:PySem.W.keepIn K (.ref f)=true)
  (hb:∀(kV doc pm:Value) (an:Option Addr) (cdv ct:Value) (us:List Value),us.length=ps.length->bindArgs (PySem.W.fnOf x x (qA st) (qu st) (qe st) .none kV doc pm an cdv ct) ⟨us,[]⟩=pure (ps.zip us)):Laid K mg x st ps:=
 ⟨f,_,q1U l c k,PySem.W.mg_of X G a,(q1U l c k).binds hb⟩
end
section
variable {X:Cx}{k k':Nat}{x:Str}{ps:List Str}{sp:Sp}{p pos:Pos}{e:Expr}{es:List Expr}{t:TA}
theorem qR (c:Cal X.prog X.w X.K X.mg X.base k x ps sp)(hr:Room k' X.A)(hk:k<=k')(hg:Gl X x)(ha:PA X (e::es) t)(hdb:(x==("__debug__":Str))=false:=by decide)(he:starEach (e::es) X.env=(false,eval e X.env)::starEach es X.env:=by rfl)
  (hpl:(backTo pos (starEach es X.env)).any (·.1)=false:=by rfl):PE X (.Call (.Name x p) (e::es) [] pos) (q6O sp [] E0 t):=by
 obtain⟨f,fd,F,m,kp,b⟩:=c.ex
 exact q5L F (hr.mono hk) hg m kp b .nil q5M ha hdb he hpl
end
def tyS (H:Hp):V->Option String
 | .non=>some "NoneType"
 | .bl _=>some "bool"
 | .int _=>some "int"
 | .str _=>some "str"
 | .ref p=>match H p with
  |some (.lst _)=>some "list"
  |some (.tup _)=>some "tuple"
  |some (.frz _ (.lst _))=>some "list"
  |_=>none
 |_=>none
def subS (a n:String):Bool:=a==n||(a=="bool"&&n=="int")
def q8m (n:String):Bool:=n=="bool"||n=="int"||n=="str"||n=="list"||n=="tuple"
theorem qbA (K:W.Frag):∀a∈["NoneType","bool","int","str","list","tuple"],∀n∈["bool","int","str","list","tuple"],PySem.W.kitOne K (.type a) (.type n)=some (subS a n):=by
 intro a ha n hn
 simp only[List.mem_cons,List.not_mem_nil,or_false] at ha hn
 rcases ha with rfl|rfl|rfl|rfl|rfl|rfl<;>rcases hn with rfl|rfl|rfl|rfl|rfl<;>kernel_rfl
theorem tyS_ty {K:W.Frag}{H:Hp}{x:V}{a:String}(h:tyS H x=some a):TyOf K H x (.type a)/\a∈["NoneType","bool","int","str","list","tuple"]:=by
 unfold tyS at h
 split at h
 ·cases h;exact⟨.non,by simp⟩
 ·cases h;exact⟨.bl _,by simp⟩
 ·cases h;exact⟨.int _,by simp⟩
 ·cases h;exact⟨.str _,by simp⟩
 ·split at h
  ·rename_i e;cases h;exact⟨.lst e,by simp⟩
  ·rename_i e;cases h;exact⟨.tup e,by simp⟩
  ·rename_i e;cases h;exact⟨.frz e,by simp⟩
  ·cases h
 ·cases h
section
variable {X:Cx}
def qaX:List V->Hp->VK->Prop:=fun xs H Q=>∃x n a,xs=[x,.ty n]/\tyS H x=some a/\q8m n=true/\Q (.bl (subS a n)) H
theorem q2O:q1d X (.builtin "isinstance") qaX:=by
 intro pins s σ H xs us Q I r h
 obtain⟨x,n,a,rfl,ty,kn,q⟩:=h
 obtain⟨t1,t2⟩:=tyS_ty (K:=X.K) ty
 refine q8V pins s σ H _ us Q I r ⟨x,n,_,_,rfl,t1,qbA X.K a t2 n ?_,q⟩
 unfold q8m at kn
 simp only[Bool.or_eq_true,beq_iff_eq] at kn
 simp only[List.mem_cons,List.not_mem_nil,or_false]
 rcases kn with(((kn|kn)|kn)|kn)|kn<;>simp[kn]
theorem qaz {H:Hp}{p:Addr}{xs:List V}(h:H p=some (.tup xs)):tyS H (.ref p)=some "tuple":=by simp only[tyS,h]
end
theorem qO:bootBuiltins "isinstance"=some (.builtin "isinstance"):=by walk_at "k"
theorem q0k:bootBuiltins "len"=some (.builtin "len"):=by walk_at "k"
theorem qaq:bootBuiltins "all"=some (.builtin "all"):=by walk_at "k"
theorem bt_any:bootBuiltins "any"=some (.builtin "any"):=by walk_at "k"
theorem qap:bootBuiltins "min"=some (.builtin "min"):=by walk_at "k"
theorem bt_sum:bootBuiltins "sum"=some (.builtin "sum"):=by walk_at "k"
theorem q3P:bootBuiltins "int"=some (.type "int"):=by walk_at "k"
theorem q90:bootBuiltins "bool"=some (.type "bool"):=by walk_at "k"
theorem q8Y:bootBuiltins "str"=some (.type "str"):=by walk_at "k"
theorem q8Z:bootBuiltins "list"=some (.type "list"):=by walk_at "k"
theorem q2P:bootBuiltins "tuple"=some (.type "tuple"):=by walk_at "k"
structure VMeth (P:Program)(w:World)(K:W.Frag)(mg:Str->Option Value)(base:Heap)(k:Nat)(C:Addr)(m:Str)(ps:List Str)(sp:Sp):Prop where
 cl:Cls K C
 ex:∃f fd,Meth K C m f/\FnOk P w K mg base CX0 k f fd ps sp/\q1h K fd ps []
def tVM (P:Program)(w:World)(K:W.Frag)(mg:Str->Option Value)(base:Heap)(k:Nat)(m:Str)(ta:TE)(t:TA):TE:=fun σ H Q=>ta σ H fun x H1=>∃a C dx fs ps sp,x= .ref a/\H1 a=some (.ins C dx fs)/\VMeth P w K mg base k C m ps sp/\fs.lookup m=none/\
 t σ H1 fun vs H2=>sp (x::vs) H2 Q E0
structure CMeth (K:W.Frag)(C:Addr)(m:Str)(f:Addr):Prop where
 rd:PySem.W.readsIn K C (.type "type")=true
 fc:PySem.W.findCls K (.ref C) (.type "type") m=some (.val (.ref f))
 sg:PySem.W.specialIn K (.ref C) "__getattribute__"=some (some (.builtin "type.__getattribute__"))
 kp:PySem.W.keepIn K (.ref f)=true
structure CCal (P:Program)(w:World)(K:W.Frag)(mg:Str->Option Value)(base:Heap)(k:Nat)(x m:Str)(ps:List Str)(sp:Sp):Prop where
 ex:∃C f fd,mg x=some (.ref C)/\CMeth K C m f/\FnOk P w K mg base CX0 k f fd ps sp/\q1h K fd ps []
structure Makes (P:Program)(w:World)(K:W.Frag)(mg:Str->Option Value)(base:Heap)(k:Nat)(x:Str)(C:Addr)(ps:List Str)(sp:Sp):Prop where
 ex:∃f fd,Mk K C f/\FnOk P w K mg base CX0 k f fd ps sp/\q1h K fd ps []
 at_:mg x=some (.ref C)
section
variable {X:Cx}{k k':Nat}{C:Addr}{ps:List Str}{sp:Sp}{x m:Str}{p pos apos:Pos}{e o:Expr}{es:List Expr}{ta:TE}{t:TA}
theorem qa9 {pl:Sem Bool}(hr:Room k X.A)(he:PE X o ta)
  (ht:eval (.Call (.Attribute o m apos) [] [] pos) X.env=(do
   let ov<-eval o X.env
   standAt apos.atName
   let (f,first)<-holding [ov] (getMethod ov m pl)
   callWith pos f first (backTo pos (starEach [] X.env)) (backToKw pos (keywordEach [] X.env))):=by rfl):
  PE X (.Call (.Attribute o m apos) [] [] pos) (tVM X.prog X.w X.K X.mg X.base k m ta tNil):=by
 intro pins s σ H Q I h
 refine zbL (pl:=pl) (thn (he pins s σ H _ I h) fun u s1 ⟨x,H1,I1,rx,a,C,dx,fs,ps,sp,ex,ea,vm,l,q⟩=>?_) ht
 subst ex
 obtain rfl:u=Value.ref a:=rx
 obtain⟨f,fd,hm,F,hb⟩:=vm.ex
 refine q76 I1 ea vm.cl hm l ?_
 exact PySem.W.callWith_K0 (first:=[.ref a]) I1.kIn hm.kp (q7E (us:=[.ref a]) (vs:=[.ref a]) (ds:=[]) (dvs:=[]) F hr hb .nil q5M I1 (.cons rfl .nil) q)
theorem q6X {pl:Sem Bool}{op:Pos}(c:CCal X.prog X.w X.K X.mg X.base k x m ps sp)(hr:Room k' X.A)(hk:k<=k')(hg:Gl X x)(ha:PA X (e::es) t)(hdb:(x==("__debug__":Str))=false:=by decide)
  (hst:starEach (e::es) X.env=(false,eval e X.env)::starEach es X.env:=by rfl)(hpl:(backTo pos (starEach es X.env)).any (·.1)=false:=by rfl)
  (ht:eval (.Call (.Attribute (.Name x op) m apos) (e::es) [] pos) X.env=(do
   let ov<-eval (.Name x op) X.env
   standAt apos.atName
   let (f,first)<-holding [ov] (getMethod ov m pl)
   callWith pos f first (backTo pos (starEach (e::es) X.env)) (backToKw pos (keywordEach [] X.env))):=by rfl):
  PE X (.Call (.Attribute (.Name x op) m apos) (e::es) [] pos) (q6O sp [] E0 t):=by
 intro pins s σ H Q I h
 obtain⟨C,f,fd,hm,cm,F,hb⟩:=c.ex
 refine zbL (pl:=pl) (q1g I hg hm ?_ hdb) ht
 refine PySem.W.method_cls I.kIn cm.sg (PySem.W.cls_value I.kIn cm.rd cm.fc rfl ?_)
 have I1:=I.tok (s.toks+1)
 refine za0 (first:=[]) (h₀:=X.base) I.ok.mod.kin cm.kp (thn (ha pos pins _ σ H _ I1 h) fun us s2 ⟨vs,H2,I2,r,q2⟩=>⟨I2.kIn,?_⟩) hst hpl
 exact q7E F (hr.mono hk) hb .nil q5M I2 r q2
theorem q5i (c:Makes X.prog X.w X.K X.mg X.base k x C ps sp)(hr:Room k' X.A)(hk:k+1<=k')(hg:Gl X x)(ha:PA X (e::es) t)(hdb:(x==("__debug__":Str))=false:=by decide)(he:starEach (e::es) X.env=(false,eval e X.env)::starEach es X.env:=by rfl)
  (hpl:(backTo pos (starEach es X.env)).any (·.1)=false:=by rfl):PE X (.Call (.Name x p) (e::es) [] pos) (q7n C sp [] E0 t):=by
 obtain⟨f,fd,M,F,b⟩:=c.ex
 exact qb9 M F (hr.mono hk) hg c.at_ b .nil q5M ha hdb he hpl
theorem qba (c:Makes X.prog X.w X.K X.mg X.base k x C ps sp)(hr:Room k' X.A)(hk:k+1<=k')(hg:Gl X x)(hdb:(x==("__debug__":Str))=false:=by decide):PE X (.Call (.Name x p) [] [] pos) (q7n C sp [] E0 tNil):=by
 obtain⟨f,fd,M,F,b⟩:=c.ex
 exact q9n M F (hr.mono hk) hg c.at_ b .nil q5M hdb
theorem q1K {xs:List V}{us:List Value}(r:Vals xs us){j:Nat}(h:j<us.toArray.size):RelV (xs.getD j .non) us.toArray[j]:=by
 have hj:j<us.length:=by simpa using h
 have hx:j<xs.length:=by rw[r.length];exact hj
 obtain⟨u,hu,ru⟩:=r.get (i:=j) (x:=xs[j]) (by simp[hx])
 have e1:us.toArray[j]=u:=by
  have:us[j]? =some us[j]:=by simp[hj]
  rw[this] at hu
  simpa using zE hu
 rw[e1]
 simpa[List.getD,hx] using ru
theorem q5y:q1d X (.type "str") (fun xs H Q=>(∃z,xs=[.str z]/\Q (.str z) H)\/∃i,xs=[.int i]/\i.natAbs.log2<1920/\Q (.str (toString i)) H):=by
 intro pins s σ H xs us Q I r h
 rcases h with⟨z,rfl,q⟩|h
 ·obtain ⟨u,rfl,t,rfl⟩:=q2u r
  exact PySem.P.str_of_str ⟨.str z,H,I,⟨_,rfl⟩,q⟩
 ·exact q5x pins s σ H xs us Q I r h
theorem q6P {ts:List Str}:∀{us:List Value},Vals (ts.map V.str) us->StrsAre us ts:=by
 induction ts with
 |nil=>intro us r;cases r;exact .nil
 |cons z ts ih=>
  intro us r
  rw[zao] at r
  cases r with
  |cons r1 r2=>
   obtain⟨t,e⟩:=r1
   subst e
   exact .cons z t (ih r2)
def rJoin (K:W.Frag):V->List V->Hp->VK->Prop:=fun x vs H Q=>∃z p ts,x= .str z/\vs=[.ref p]/\SqL K H p (ts.map V.str)/\z.length<=16/\(ts.map (·.length)).sum+ts.length<=1048576/\Q (.str (Txt.join z ts)) H
theorem qbr:MtR X "str.join" (rJoin X.K):=by
 intro pins s σ H x vs v us Q I rx rv h
 obtain⟨z,p,ts,rfl,rfl,hq,hz,hw,q⟩:=h
 obtain⟨t,rfl⟩:=rx
 obtain⟨u,rfl,ru⟩:=rv.one
 cases ru
 obtain⟨its,r,pl,_⟩:=I.list hq
 exact join_listW pl.isList (q6P r) hz hw fun t' k=>⟨.str _,H,I.tok _,⟨_,rfl⟩,q⟩
end
section
variable {X:Cx}{e o:Expr}{es:List Expr}{ta:TE}{t:TA}{pos apos:Pos}{m f:Str}
theorem qq (K:W.Frag)(h:X.K=K:=by rfl):IxR X (rIxL K):=by subst h;exact qbB
theorem qF (K:W.Frag)(h:X.K=K:=by rfl):IxR X (rIxT K):=by subst h;exact ix_tup
theorem q04 (K:W.Frag)(h:X.K=K:=by rfl):SlR X (rSlL K):=by subst h;exact qaI
theorem q3k (K:W.Frag)(h:X.K=K:=by rfl):SlR X (qaV K):=by subst h;exact qaH
theorem q3p (K:W.Frag)(h:X.K=K:=by rfl):OpR X (binaryOp .Add) (qb0 K):=by subst h;exact q84
theorem q3B {k:Nat}{g:TGs}{n:Nat}(K:W.Frag)(hc:X.calm=true)(h:PGs X es g)(hK:X.K=K:=by rfl)(hn:(assignEach es X.env).length=n:=by rfl)(hst:(assignEach es X.env).findIdx? (·.1)=none:=by rfl):PG X (.Tuple es k pos) (gTup K n g):=by
 subst hK
 exact pg_tup hc h hn hst
theorem q7Z (K:W.Frag)(he:PE X e ta)(hb:attributeBase e f X.env (eval e X.env)=eval e X.env)(hK:X.K=K:=by rfl):PE X (.Attribute e f pos) (tFld K ta f):=by
 subst hK
 exact pe_fld he hb
end
section
variable {X:Cx}{pos:Pos}
def gLst (K:W.Frag)(n:Nat)(t:TGs):TG:=fun v σ H Q=>∃a xs,v= .ref a/\SqL K H a xs/\xs.length=n/\t xs σ H Q
theorem pg_lst {es:List Expr}{k:Nat}{t:TGs}{n:Nat}(hc:X.calm=true)(h:PGs X es t)
  (hn:(assignEach es X.env).length=n:=by rfl)(hst:(assignEach es X.env).findIdx? (·.1)=none:=by rfl):PG X (.Tuple es k pos) (gLst X.K n t):=by
 intro pins s σ H v u Q I r hw
 obtain⟨a,xs,e1,hq,hl,hw⟩:=hw
 subst e1
 cases r
 obtain⟨its,rv,ht,hz⟩:=I.list hq
 have hn':(assignEach es X.env).length=its.toArray.size:=by simp[hn,<-hl,rv.length]
 rw[PyProof.Rows.assign_Tuple]
 refine yD (zaW ?_)
 unfold unpack
 rw[hn',hst]
 refine yD (zar (PySem.W.kun_itemsOf (I.ok.hd hc) ht.isList fun h' hx=>?_))
 have I1:Inv X pins σ H {s with heap:=h'}:=I.kept (t':=s.toks) fun b o e=>hx b o (zP (zD e)) e
 exact h pins _ σ H xs _ Q I1 (by simpa using rv) hw
end
def rLen (K:W.Frag):List V->Hp->VK->Prop:=fun xs H Q=>∃p ys,xs=[.ref p]/\(SqL K H p ys\/SqT K H p ys)/\Q (.int ys.length) H
def q7M (K:W.Frag):List V->Hp->VK->Prop:=fun xs H Q=>∃p ys,xs=[.ref p]/\((SqL K H p ys/\∀l,H l=none->Q (.ref l) (upd H l (.tup ys)))\/(SqT K H p ys/\Q (.ref p) H))
def qa6 (K:W.Frag):List V->Hp->VK->Prop:=fun xs H Q=>∃p ys,xs=[.ref p]/\(SqL K H p ys\/SqT K H p ys)/\∀l,H l=none->Q (.ref l) (upd H l (.lst ys))
def rMin2:List V->Hp->VK->Prop:=fun xs H Q=>∃i j,xs=[.int i,.int j]/\Q (.int (if j<i then j else i)) H
def rInt1:List V->Hp->VK->Prop:=fun xs H Q=>(∃i,xs=[.int i]/\Q (.int i) H)\/∃k,xs=[.bl k]/\Q (.int (if k then 1 else 0)) H
def qaU:List V->Hp->VK->Prop:=fun xs H Q=>(∃z,xs=[.str z]/\Q (.str z) H)\/∃i,xs=[.int i]/\i.natAbs.log2<1920/\Q (.str (toString i)) H
section
variable {X:Cx}
theorem lenK (K:W.Frag)(h:X.K=K:=by rfl):q1d X (.builtin "len") (rLen K):=by subst h;exact q5B
theorem q69 (K:W.Frag)(h:X.K=K:=by rfl):q1d X (.type "tuple") (q7M K):=by subst h;exact q4L
theorem qad (K:W.Frag)(h:X.K=K:=by rfl):q1d X (.type "list") (qa6 K):=by subst h;exact q5z
theorem min2 (hc:X.calm=true):q1d X (.builtin "min") rMin2:=q8T hc
theorem int1:q1d X (.type "int") rInt1:=q8W
theorem str1:q1d X (.type "str") qaU:=q5y
end
section
variable {σ:St}{H:Hp}{Q:VK}{B:Bool->Hp->Prop}{L:List V->Hp->Prop}{ta tb:TE}{t:TA}{c d:TT}{nx bk ct:St->Hp->Prop}{rt:VK}{g:TG}{K:W.Frag}
theorem r_var {i:Nat}{v:V}(h:σ[i]? =some (some v))(q:Q v H):tVar i σ H Q:=⟨v,h,q⟩
theorem r_c {v:V}(q:Q v H):tC v σ H Q:=q
theorem r_op {r:R2}(q:ta σ H fun x H1=>tb σ H1 fun y H2=>r x y H2 Q):tOp r ta tb σ H Q:=q
theorem r_un {r:V->Hp->VK->Prop}(q:ta σ H fun x H1=>r x H1 Q):tUn r ta σ H Q:=q
theorem r_I0 {f:Int->Int->V}{i j:Int}(q:Q (f i j) H):rI0 f (.int i) (.int j) H Q:=⟨i,j,rfl,rfl,q⟩
theorem r_I {C:Int->Int->Prop}{f:Int->Int->V}{i j:Int}(h:C i j)(q:Q (f i j) H):rI C f (.int i) (.int j) H Q:=⟨i,j,rfl,rfl,h,q⟩
theorem r_U {f:Int->V}{i:Int}(q:Q (f i) H):rU f (.int i) H Q:=⟨i,rfl,q⟩
theorem r_isN (q:ta σ H fun x H1=>Q (.bl (decide (x= .non))) H1):tIsN ta σ H Q:=q
theorem r_notN (q:ta σ H fun x H1=>Q (.bl (!decide (x= .non))) H1):tNotN ta σ H Q:=q
theorem r_B (q:ta σ H fun x H1=>∃k,x= .bl k/\B k H1):tB ta σ H B:=q
theorem r_test (q:ta σ H fun x H1=>∃k,x= .bl k/\B k H1):tTest ta σ H B:=q
theorem r_bl {b:Bool}{P:Bool->Prop}(q:P b):∃k,V.bl b=V.bl k/\P k:=⟨b,rfl,q⟩
theorem r_and (q:c σ H fun k H1=>if k=true then d σ H1 B else B false H1):tAnd c d σ H B:=q
theorem r_or (q:c σ H fun k H1=>if k=true then B true H1 else d σ H1 B):tOr c d σ H B:=q
theorem r_not (q:c σ H fun k H1=>B (!k) H1):tNot c σ H B:=q
theorem r_andV (q:ta σ H fun x H1=>∃k,x= .bl k/\if k=true then tb σ H1 Q else Q (.bl false) H1):tAndV ta tb σ H Q:=q
theorem r_orV (q:ta σ H fun x H1=>∃k,x= .bl k/\if k=true then Q (.bl true) H1 else tb σ H1 Q):tOrV ta tb σ H Q:=q
theorem r_if (q:c σ H fun k H1=>if k=true then ta σ H1 Q else tb σ H1 Q):tIf c ta tb σ H Q:=q
theorem r_cons (q:ta σ H fun x H1=>t σ H1 fun xs H2=>L (x::xs) H2):q5J ta t σ H L:=q
theorem r_nil (q:L [] H):tNil σ H L:=q
theorem r_tup (q:t σ H fun xs H1=>xs.length<=sizeLine/\∀p,H1 p=none->Q (.ref p) (upd H1 p (.tup xs))):tTup t σ H Q:=q
theorem r_lst (q:t σ H fun xs H1=>xs.length<=sizeLine/\∀p,H1 p=none->Q (.ref p) (upd H1 p (.lst xs))):tLst t σ H Q:=q
theorem r_al {n:Nat}{P:Prop}(h:Nat.ble n sizeLine=true)(q:P):n<=sizeLine/\P:=⟨Nat.le_of_ble_eq_true h,q⟩
theorem r_call {sp:Sp}{E:XK}(q:t σ H fun vs H1=>sp (vs++[]) H1 Q E):q6O sp [] E t σ H Q:=q
theorem r_cb {r:List V->Hp->VK->Prop}(q:t σ H fun vs H1=>r vs H1 Q):tCB r t σ H Q:=q
theorem r_bm {T:String}{r:V->List V->Hp->VK->Prop}(q:ta σ H fun x H1=>tyV K T x H1/\t σ H1 fun xs H2=>r x xs H2 Q):tBM K T r ta t σ H Q:=q
theorem r_sl {r:V->Option Int->Option Int->Hp->VK->Prop}{tl th:TO}(q:ta σ H fun x H1=>tl σ H1 fun l H2=>th σ H2 fun u H3=>r x l u H3 Q):tSl r ta tl th σ H Q:=q
theorem r_np {P:Option Int->Hp->Prop}(q:P none H):q7m σ H P:=q
theorem r_pt {P:Option Int->Hp->Prop}(q:ta σ H fun x H1=>∃i,x= .int i/\P (some i) H1):tPart ta σ H P:=q
theorem r_int {i:Int}{P:Int->Prop}(q:P i):∃k,V.int i=V.int k/\P k:=⟨i,rfl,q⟩
theorem r_eqI {i j:Int}(q:Q (.bl (decide (i=j))) H):rEq (.int i) (.int j) H Q:=⟨rfl,by rw[show decide (V.int i=V.int j)=decide (i=j) by simp];exact q⟩
theorem r_eqS {i j:Str}(q:Q (.bl (decide (i=j))) H):rEq (.str i) (.str j) H Q:=⟨rfl,by rw[show decide (V.str i=V.str j)=decide (i=j) by simp];exact q⟩
theorem r_neI {i j:Int}(q:Q (.bl (!decide (i=j))) H):rNe (.int i) (.int j) H Q:=⟨rfl,by rw[show decide (V.int i=V.int j)=decide (i=j) by simp];exact q⟩
theorem r_neS {i j:Str}(q:Q (.bl (!decide (i=j))) H):rNe (.str i) (.str j) H Q:=⟨rfl,by rw[show decide (V.str i=V.str j)=decide (i=j) by simp];exact q⟩
theorem r_ixT {p:Addr}{xs:List V}{i:Int}{v:V}(h:SqT K H p xs)(e:atI xs i=some v)(q:Q v H):rIxT K (.ref p) (.int i) H Q:=⟨p,xs,i,v,rfl,rfl,h,e,q⟩
theorem q0f {p:Addr}{xs:List V}{i:Int}{v:V}(h:SqL K H p xs)(e:atI xs i=some v)(q:Q v H):rIxL K (.ref p) (.int i) H Q:=⟨p,xs,i,v,rfl,rfl,h,e,q⟩
theorem r_lenT {p:Addr}{xs:List V}(h:SqT K H p xs)(q:Q (.int xs.length) H):rLen K [.ref p] H Q:=⟨p,xs,rfl,.inr h,q⟩
theorem r_lenL {p:Addr}{xs:List V}(h:SqL K H p xs)(q:Q (.int xs.length) H):rLen K [.ref p] H Q:=⟨p,xs,rfl,.inl h,q⟩
theorem q7L {p q:Addr}{xs ys:List V}(h1:SqT K H p xs)(h2:SqT K H q ys)(h:xs≠[])(hy:ys≠[])(hz:Nat.ble (xs.length+ys.length) sizeLine=true)(k:∀r,H r=none->Q (.ref r) (upd H r (.tup (xs++ys)))):qb0 K (.ref p) (.ref q) H Q:=
 ⟨p,q,xs,ys,rfl,rfl,h1,h2,h,Nat.le_of_ble_eq_true hz,fun e=>(hy e).elim,fun _=>k⟩
theorem atI0 {v:V}{l:List V}:atI (v::l) 0=some v:=qE (j:=0) rfl
theorem qbY {xs:List V}{j:Nat}{v:V}(h:xs[j]? =some v):atI xs (0+(j:Int))=some v:=by rw[Int.zero_add];exact qE h
theorem q7l {α β:Type}(f:α->β)(xs:List α){i:Nat}(hi:i<xs.length):(xs.take i).map f++[f xs[i]]=(xs.take (i+1)).map f:=by rw[zal hi,zY];rfl
theorem r_isi {x:V}{n a:String}{b:Bool}(h:tyS H x=some a)(k:q8m n=true)(e:subS a n=b)(q:Q (.bl b) H):qaX [x,.ty n] H Q:=⟨x,n,a,rfl,h,k,by rw[e];exact q⟩
theorem q9f {i:Int}(q:Q (.bl false) H):qaX [.int i,.ty "bool"] H Q:=r_isi rfl (by walk_at "k") (by walk_at "k") q
theorem r_seq {t u:TS}(q:t ⟨u ⟨nx,rt,bk,ct⟩,rt,bk,ct⟩ σ H):tSeq t u ⟨nx,rt,bk,ct⟩ σ H:=q
theorem r_asg (q:ta σ H fun x H1=>g x σ H1 nx):tAsg ta g ⟨nx,rt,bk,ct⟩ σ H:=q
theorem r_name {i:Nat}{v:V}{N:St->Hp->Prop}(q:N (σ.set i (some v)) H):q9K i v σ H N:=q
theorem r_ifS {t u:TS}{D:Ends}(q:c σ H fun k H1=>if k=true then t D σ H1 else u D σ H1):tIfS c t u D σ H:=q
theorem r_ret (q:ta σ H rt):tRet ta ⟨nx,rt,bk,ct⟩ σ H:=q
theorem r_next (q:nx σ H):tNext ⟨nx,rt,bk,ct⟩ σ H:=q
theorem r_drop (q:ta σ H fun _ H1=>nx σ H1):tDrop ta ⟨nx,rt,bk,ct⟩ σ H:=q
theorem r_sub {to ti:TE}{ts:TSet}{v:V}{N:St->Hp->Prop}(q:to σ H fun o H1=>ti σ H1 fun i H2=>ts o i v H2 fun H3=>N σ H3):gSub to ti ts v σ H N:=q
theorem r_gT {n:Nat}{gs:TGs}{p:Addr}{xs:List V}{N:St->Hp->Prop}(h:SqT K H p xs)(e:xs.length=n)(q:gs xs σ H N):gTup K n gs (.ref p) σ H N:=⟨p,xs,rfl,h,e,q⟩
theorem r_gL {n:Nat}{gs:TGs}{p:Addr}{xs:List V}{N:St->Hp->Prop}(h:SqL K H p xs)(e:xs.length=n)(q:gs xs σ H N):gLst K n gs (.ref p) σ H N:=⟨p,xs,rfl,h,e,q⟩
theorem r_gc {gs:TGs}{v:V}{vs:List V}{N:St->Hp->Prop}(q:g v σ H fun σ' H'=>gs vs σ' H' N):gCons g gs (v::vs) σ H N:=⟨v,vs,rfl,q⟩
theorem r_gn {N:St->Hp->Prop}(q:N σ H):gNil [] σ H N:=⟨rfl,q⟩
theorem q5g {p:Addr}{xs:List V}{y:V}(h:H p=some (.lst xs))(hz:xs.length<sizeLine)(q:Q .non (upd H p (.lst (xs++[y])))):q7N (.ref p) [y] H Q:=⟨p,xs,y,rfl,rfl,h,hz,q⟩
theorem r_tyL {p:Addr}{xs:List V}{P:Prop}(h:H p=some (.lst xs))(q:P):tyV K "list" (.ref p) H/\P:=⟨.inl ⟨rfl,_,SqL.of h⟩,q⟩
theorem ifd {p:Prop}[Decidable p]{A B:Prop}(h1:p->A)(h2:¬p->B):if decide p=true then A else B:=by
 by_cases h:p
 ·rw [zM (zbx h)];exact h1 h
 ·rw [zI (by simp[h])];exact h2 h
theorem q4E {p:Prop}[Decidable p]{A B:Prop}(hB:B)(h1:B->p->A):if decide p=true then A else B:=ifd (h1 hB) fun _=>hB
theorem r_min2 {x y:Int}(q:Q (.int (if y<x then y else x)) H):rMin2 [.int x,.int y] H Q:=⟨x,y,rfl,q⟩
theorem r_intb {x:Bool}(q:Q (.int (if x then 1 else 0)) H):rInt1 [.bl x] H Q:= .inr ⟨x,rfl,q⟩
theorem qa5 {x:Str}(q:Q (.str x) H):qaU [.str x] H Q:= .inl ⟨x,rfl,q⟩
theorem q7G {x:Int}(h:x.natAbs.log2<1920)(q:Q (.str (toString x)) H):qaU [.int x] H Q:= .inr ⟨x,rfl,h,q⟩
theorem qaO {p:Addr}{ys:List V}(h:SqL K H p ys)(q:∀l,H l=none->Q (.ref l) (upd H l (.tup ys))):q7M K [.ref p] H Q:=⟨p,ys,rfl,.inl ⟨h,q⟩⟩
theorem r_tot {p:Addr}{ys:List V}(h:SqT K H p ys)(q:Q (.ref p) H):q7M K [.ref p] H Q:=⟨p,ys,rfl,.inr ⟨h,q⟩⟩
theorem q9e {p:Addr}{ys:List V}(h:SqL K H p ys\/SqT K H p ys)(q:∀l,H l=none->Q (.ref l) (upd H l (.lst ys))):qa6 K [.ref p] H Q:=⟨p,ys,rfl,h,q⟩
theorem ifnT {A B:Prop}(h:B):if (!true)=true then A else B:=iteF h
theorem ifnF {A B:Prop}(h:A):if (!false)=true then A else B:=iteT h
theorem q0w {a b:Addr}{o u:HO}(h:H b=some u)(n:H a=none):upd H a o b=some u:=by rw[qm (ql h n)];exact h
theorem q9X {a b:Addr}{o u:HO}(h:H b=some u)(n:b≠a):upd H a o b=some u:=by rw[qm n];exact h
end
section
variable {σ:St}{H:Hp}{g:TG}{tb:TS}{nx bk ct:St->Hp->Prop}{rt:VK}{t:TA}{wi:TI}
theorem r_for (q:wi σ H fun J H1=>∃W:Nat->Nat->St->Hp->Prop,(∃m,W 0 m σ H1)/\∀i m σ H,W i m σ H->
  (J.stop i H/\nx σ H)\/(J.go i H/\∃N:St->Hp->Prop,(∀σ' H',N σ' H'->∃m',m'<m/\W (i+1) m' σ' H')/\∀x H',J.yld i H x H'->g x σ H' fun σ2 H2=>tb ⟨N,rt,nx,N⟩ σ2 H2)):tFor wi g tb ⟨nx,rt,bk,ct⟩ σ H:=q
def rRg (R:It->Hp->Prop):List V->Hp->Prop:=fun vs H1=>∃j:Int,vs=[.int j]/\ -(2 ^ 62)<=j/\j<2 ^ 62/\R (Itr 0 j.toNat) H1
def rRg2 (R:It->Hp->Prop):List V->Hp->Prop:=fun vs H1=>∃i j:Int,vs=[.int i,.int j]/\(-(2 ^ 62)<=i/\i<2 ^ 62/\ -(2 ^ 62)<=j/\j<2 ^ 62)/\R (Itr i (j - i).toNat) H1
theorem r_rng1 {R:It->Hp->Prop}(q:t σ H (rRg R)):iRng1 t σ H R:=q
theorem r_rng2 {R:It->Hp->Prop}(q:t σ H (rRg2 R)):iRng2 t σ H R:=q
theorem r_comp {tc:TT}{te:TE}{own:Nat}{caps:List Nat}{Q:VK}(q:wi σ H fun J H1=>∀D,H1 D=none->∃W:Nat->Nat->St->Hp->Prop,(∃m,W 0 m (q3e own caps σ) (upd H1 D (.lst [])))/\∀i m σ' H',W i m σ' H'->
  (J.stop i H'/\Q (.ref D) H')\/(J.go i H'/\∃N:St->Hp->Prop,(∀σ'' H'',N σ'' H''->∃m',m'<m/\W (i+1) m' σ'' H'')/\∀x H2,J.yld i H' x H2->g x σ' H2 fun σ3 H3=>tc σ3 H3 fun b H4=>
   if b=true then te σ3 H4 fun y H5=>∃ys,H5 D=some (.lst ys)/\ys.length<sizeLine/\N σ3 (upd H5 D (.lst (ys++[y]))) else N σ3 H4)):q98 wi g tc te own caps σ H Q:=q
theorem r_yes {B:Bool->Hp->Prop}(q:B true H):tYes σ H B:=q
theorem r_iL {K:W.Frag}{tl:TE}{R:It->Hp->Prop}(q:tl σ H fun x H1=>∃a,x= .ref a/\(∃xs,SqL K H1 a xs)/\R (Itl K a) H1):qbE K tl σ H R:=q
theorem r_iT {K:W.Frag}{tl:TE}{R:It->Hp->Prop}(q:tl σ H fun x H1=>∃a,x= .ref a/\(∃xs,SqT K H1 a xs)/\R (Itt K a) H1):iTup K tl σ H R:=q
theorem r_eL {K:W.Frag}{R:It->Hp->Prop}(q:t σ H fun vs H1=>∃a,vs=[.ref a]/\(∃xs,SqL K H1 a xs)/\R (Ite fun H xs=>SqL K H a xs) H1):q8u K t σ H R:=q
theorem r_refL {K:W.Frag}{p:Addr}{xs:List V}{R:Addr->Prop}(h:SqL K H p xs)(q:R p):∃a,V.ref p= .ref a/\(∃xs,SqL K H a xs)/\R a:=⟨p,rfl,⟨xs,h⟩,q⟩
theorem r_refT {K:W.Frag}{p:Addr}{xs:List V}{R:Addr->Prop}(h:SqT K H p xs)(q:R p):∃a,V.ref p= .ref a/\(∃xs,SqT K H a xs)/\R a:=⟨p,rfl,⟨xs,h⟩,q⟩
theorem qaR {K:W.Frag}{p:Addr}{xs:List V}{R:Addr->Prop}(h:SqL K H p xs)(q:R p):∃a,[V.ref p]=[.ref a]/\(∃xs,SqL K H a xs)/\R a:=⟨p,rfl,⟨xs,h⟩,q⟩
theorem r_rg {j:Int}{R:It->Hp->Prop}(h: -1000000<=j/\j<=1000000)(q:R (Itr 0 j.toNat) H):rRg R [.int j] H:=⟨j,rfl,by omega,by omega,q⟩
theorem r_rg2 {i j:Int}{R:It->Hp->Prop}(h:(-1000000<=i/\i<=1000000)/\ -1000000<=j/\j<=1000000)(q:R (Itr i (j - i).toNat) H):rRg2 R [.int i,.int j] H:=⟨i,j,rfl,by omega,q⟩
end
section
variable {J:It}{g:TG}{tb:TS}{nx:St->Hp->Prop}{rt:VK}{σ:St}{H:Hp}{K:W.Frag}{a:Addr}{xs:List V}{tc:TT}{te:TE}{R:Hp->Prop}{D:Addr}
abbrev ForG (J:It)(g:TG)(tb:TS)(nx:St->Hp->Prop)(rt:VK)(σ:St)(H:Hp):Prop:=∃W:Nat->Nat->St->Hp->Prop,(∃m,W 0 m σ H)/\∀i m σ H,W i m σ H->
  (J.stop i H/\nx σ H)\/(J.go i H/\∃N:St->Hp->Prop,(∀σ' H',N σ' H'->∃m',m'<m/\W (i+1) m' σ' H')/\∀x H',J.yld i H x H'->g x σ H' fun σ2 H2=>tb ⟨N,rt,nx,N⟩ σ2 H2)
theorem q4H (n:Nat)(Pv:Nat->St->Hp->Prop)(h0:Pv 0 σ H)
  (go:∀i σ H,i<n->Pv i σ H->J.go i H/\∀x H',J.yld i H x H'->g x σ H' fun σ2 H2=>tb ⟨Pv (i+1),rt,nx,Pv (i+1)⟩ σ2 H2)(stop:∀σ H,Pv n σ H->J.stop n H/\nx σ H):ForG J g tb nx rt σ H:=by
 refine⟨fun i m σ H=>m=n - i/\i<=n/\Pv i σ H,⟨n,by simp,zbC _,h0⟩,?_⟩
 rintro i m σ H ⟨rfl,hi,p⟩
 by_cases hlt:i<n
 ·obtain ⟨q1,q2⟩:=go i σ H hlt p
  exact .inr ⟨q1,Pv (i+1),fun σ' H' p'=>⟨n - (i+1),by omega,rfl,hlt,p'⟩,q2⟩
 ·have e:i=n:=by omega
  subst e
  exact .inl (stop σ H p)
theorem q3L {lo:Int}{n:Nat}(Pv:Nat->St->Hp->Prop)(h0:Pv 0 σ H)(go:∀i σ H,i<n->Pv i σ H->g (.int (lo+(i:Nat))) σ H fun σ2 H2=>tb ⟨Pv (i+1),rt,nx,Pv (i+1)⟩ σ2 H2)(stop:∀σ H,Pv n σ H->nx σ H):ForG (Itr lo n) g tb nx rt σ H:=
 q4H n Pv h0 (fun i σ H hi p=>⟨hi,fun x H' ⟨e1,e2⟩=>by subst e1 e2;exact go i σ _ hi p⟩) fun σ H p=>⟨zC _,stop σ H p⟩
theorem qbJ (xs:List V)(Pv:Nat->St->Hp->Prop)(h0:Pv 0 σ H)(hl:∀i σ H,Pv i σ H->SqL K H a xs)(go:∀i x σ H,xs[i]? =some x->Pv i σ H->g x σ H fun σ2 H2=>tb ⟨Pv (i+1),rt,nx,Pv (i+1)⟩ σ2 H2)(stop:∀σ H,Pv xs.length σ H->nx σ H):ForG (Itl K a) g tb nx rt σ H:=
 q4H xs.length Pv h0 (fun i σ H hi p=>⟨⟨xs,xs[i],hl i σ H p,by simp[hi]⟩,fun x H' ⟨e1,e2⟩=>by subst e1;exact go i x σ _ (e2 xs (hl i σ _ p)) p⟩) fun σ H p=>⟨⟨xs,hl _ σ H p,zC _⟩,stop σ H p⟩
theorem q37 (xs:List V)(Pv:Nat->St->Hp->Prop)(h0:Pv 0 σ H)(hl:∀i σ H,Pv i σ H->SqT K H a xs)(go:∀i x σ H,xs[i]? =some x->Pv i σ H->g x σ H fun σ2 H2=>tb ⟨Pv (i+1),rt,nx,Pv (i+1)⟩ σ2 H2)(stop:∀σ H,Pv xs.length σ H->nx σ H):ForG (Itt K a) g tb nx rt σ H:=
 q4H xs.length Pv h0 (fun i σ H hi p=>⟨⟨xs,xs[i],hl i σ H p,by simp[hi]⟩,fun x H' ⟨e1,e2⟩=>by subst e1;exact go i x σ _ (e2 xs (hl i σ _ p)) p⟩) fun σ H p=>⟨⟨xs,hl _ σ H p,zC _⟩,stop σ H p⟩
theorem qbK {Sq:Hp->List V->Prop}(xs:List V)(Pv:Nat->St->Hp->Prop)(h0:Pv 0 σ H)(hl:∀i σ H,Pv i σ H->Sq H xs)(go:∀i x σ H T,xs[i]? =some x->Pv i σ H->H T=none->g (.ref T) σ (upd H T (.tup [.int (i:Nat),x])) fun σ2 H2=>tb ⟨Pv (i+1),rt,nx,Pv (i+1)⟩ σ2 H2)
  (stop:∀σ H,Pv xs.length σ H->nx σ H):ForG (Ite Sq) g tb nx rt σ H:=
 q4H xs.length Pv h0 (fun i σ H hi p=>⟨⟨xs,xs[i],hl i σ H p,by simp[hi]⟩,fun x H' ⟨T,hT,e1,e2⟩=>by
  have hx:xs[i]? =some xs[i]:=by simp[hi]
  have e3:=e2 xs xs[i] (hl i σ _ p) hx
  subst e1 e3
  exact go i _ σ _ T hx p hT⟩) fun σ H p=>⟨⟨xs,hl _ σ H p,zC _⟩,stop σ H p⟩
abbrev q9U (J:It)(g:TG)(tc:TT)(te:TE)(R:Hp->Prop)(D:Addr)(σ:St)(H:Hp):Prop:=∃W:Nat->Nat->St->Hp->Prop,(∃m,W 0 m σ H)/\∀i m σ H,W i m σ H->
   (J.stop i H/\R H)\/(J.go i H/\∃N:St->Hp->Prop,(∀σ' H',N σ' H'->∃m',m'<m/\W (i+1) m' σ' H')/\∀x H',J.yld i H x H'->g x σ H' fun σ3 H3=>tc σ3 H3 fun b H4=>
    if b=true then te σ3 H4 fun y H5=>∃ys,H5 D=some (.lst ys)/\ys.length<sizeLine/\N σ3 (upd H5 D (.lst (ys++[y]))) else N σ3 H4)
theorem q9N {lo:Int}{n:Nat}(Pv:Nat->St->Hp->Prop)(h0:Pv 0 σ H)(go:∀i σ H,i<n->Pv i σ H->g (.int (lo+(i:Nat))) σ H fun σ3 H3=>tc σ3 H3 fun b H4=>
   if b=true then te σ3 H4 fun y H5=>∃ys,H5 D=some (.lst ys)/\ys.length<sizeLine/\Pv (i+1) σ3 (upd H5 D (.lst (ys++[y]))) else Pv (i+1) σ3 H4)(stop:∀σ H,Pv n σ H->R H):q9U (Itr lo n) g tc te R D σ H:=
 q3N n Pv h0 (fun i σ H hi p=>⟨hi,fun x H' ⟨e1,e2⟩=>by subst e1 e2;exact go i σ _ hi p⟩) fun σ H p=>⟨zC _,stop σ H p⟩
theorem q3q (xs:List V)(Pv:Nat->St->Hp->Prop)(h0:Pv 0 σ H)(hl:∀i σ H,Pv i σ H->SqL K H a xs)(go:∀i x σ H,xs[i]? =some x->Pv i σ H->g x σ H fun σ3 H3=>tc σ3 H3 fun b H4=>
   if b=true then te σ3 H4 fun y H5=>∃ys,H5 D=some (.lst ys)/\ys.length<sizeLine/\Pv (i+1) σ3 (upd H5 D (.lst (ys++[y]))) else Pv (i+1) σ3 H4)(stop:∀σ H,Pv xs.length σ H->R H):q9U (Itl K a) g tc te R D σ H:=
 q3N xs.length Pv h0 (fun i σ H hi p=>⟨⟨xs,xs[i],hl i σ H p,by simp[hi]⟩,fun x H' ⟨e1,e2⟩=>by subst e1;exact go i x σ _ (e2 xs (hl i σ _ p)) p⟩) fun σ H p=>⟨⟨xs,hl _ σ H p,zC _⟩,stop σ H p⟩
theorem q1I (xs:List V)(Pv:Nat->St->Hp->Prop)(h0:Pv 0 σ H)(hl:∀i σ H,Pv i σ H->SqT K H a xs)(go:∀i x σ H,xs[i]? =some x->Pv i σ H->g x σ H fun σ3 H3=>tc σ3 H3 fun b H4=>
   if b=true then te σ3 H4 fun y H5=>∃ys,H5 D=some (.lst ys)/\ys.length<sizeLine/\Pv (i+1) σ3 (upd H5 D (.lst (ys++[y]))) else Pv (i+1) σ3 H4)(stop:∀σ H,Pv xs.length σ H->R H):q9U (Itt K a) g tc te R D σ H:=
 q3N xs.length Pv h0 (fun i σ H hi p=>⟨⟨xs,xs[i],hl i σ H p,by simp[hi]⟩,fun x H' ⟨e1,e2⟩=>by subst e1;exact go i x σ _ (e2 xs (hl i σ _ p)) p⟩) fun σ H p=>⟨⟨xs,hl _ σ H p,zC _⟩,stop σ H p⟩
end
section
variable {X:Cx}{pos:Pos}{tg:Expr}{es:List Expr}{e o l:Expr}{ta te tl:TE}{t:TA}{K:W.Frag}
theorem q2E (K:W.Frag)(hl:PE X l tl)(h:X.K=K:=by rfl):PI X tg l (qbE K tl):=by subst h;exact qb6 hl
theorem q1e (K:W.Frag)(hl:PE X l tl)(h:X.K=K:=by rfl):PI X tg l (iTup K tl):=by subst h;exact pi_tup hl
theorem q7W {elts:List Expr}{k:Nat}{tp:Pos}{a:Expr}{p pos:Pos}(K:W.Frag)(hg:Gl X "enumerate")(hm:X.mg "enumerate"=none)(ha:PA X [a] t)(h:X.K=K:=by rfl)(hs:starEach [a] X.env=[(false,eval a X.env)]:=by rfl):PI X (.Tuple elts k tp) (.Call (.Name "enumerate" p) [a] [] pos) (q8u K t):=by subst h;exact q9k hg hm ha hs
theorem q9j {elts:List Expr}{k:Nat}{tp:Pos}{a b:Expr}{p pos:Pos}(K:W.Frag)(hg:Gl X "zip")(hm:X.mg "zip"=none)(ha:PA X [a,b] t)(h:X.K=K:=by rfl)(hs:starEach [a,b] X.env=[(false,eval a X.env),(false,eval b X.env)]:=by rfl)(hs2:starEach [b] X.env=[(false,eval b X.env)]:=by rfl):
  PI X (.Tuple elts k tp) (.Call (.Name "zip" p) [a,b] [] pos) (iZipT K t):=by subst h;exact qb5 hg hm ha hs hs2
theorem qb8 {k:Nat}{gs:TGs}{n:Nat}(K:W.Frag)(hc:X.calm=true)(h:PGs X es gs)(hK:X.K=K:=by rfl)(hn:(assignEach es X.env).length=n:=by rfl)(hst:(assignEach es X.env).findIdx? (·.1)=none:=by rfl):PG X (.Tuple es k pos) (gLst K n gs):=by subst hK;exact pg_lst hc h hn hst
theorem q47 (K:W.Frag)(h:X.K=K:=by rfl):OpR X (compareOp .In) (rIn K false):=by subst h;exact q83
theorem q4x (K:W.Frag)(h:X.K=K:=by rfl):OpR X (compareOp .NotIn) (rIn K true):=by subst h;exact q5k
theorem q5C (K:W.Frag)(hc:X.calm=true)(h:X.K=K:=by rfl):q1d X (.builtin "all") (rAll K):=by subst h;exact q9Q hc
theorem q1H (K:W.Frag)(h:X.K=K:=by rfl):MtR X "str.join" (rJoin K):=by subst h;exact qbr
theorem qC:1000000<sizeLine:=by decide
end
def q2d (H H':Hp):Prop:=∀p xs,H p=some (.tup xs)->H' p=some (.tup xs)
theorem Same.ts {H H':Hp}(s:Same H H'):q2d H H':=fun p _ h=>s p _ h
theorem q2d.lst {H:Hp}{a:Addr}{ys:List V}{o:HO}(h:H a=some (.lst ys)):q2d H (upd H a o):=fun p xs e=>by rw[qm (ne_of e h (by intro z;cases z))];exact e
end L2
namespace Ce
open PySem L2
def bit (x:Int)(t:Nat):Bool:=decide (x / 2 ^ t % 2=1)
def cnt (P:Nat->Bool):Nat->Nat
 |0=>0
 |n+1=>cnt P n+(if P n=true then 1 else 0)
theorem set_map {α:Type}(f:Nat->α)(n j:Nat)(v:α):((List.range n).map f).set j v=(List.range n).map fun k=>if k=j then v else f k:=by
 apply List.ext_getElem?
 intro i
 rw[List.getElem?_set]
 simp only[List.getElem?_map,yC,List.length_range]
 by_cases h:j=i
 ·subst h
  by_cases hj:j<n
  ·simp [hj]
  ·simp [hj]
 ·have h':¬i=j:=fun e=>h e.symm
  by_cases hi:i<n
  ·simp [h,h',hi]
  ·simp [h,hi]
def dP (ds:Nat->Option Int)(op k:Int)(w:Nat):Bool:=decide (ds w=some k)&&bit op w
theorem way_ne {room r rooms:Int}(h0:0<=room)(h1:room<rooms)(r0:0<=r)(r1:r<rooms - 1):(room+1+r) % rooms≠room:=by
 by_cases h:room+1+r<rooms
 ·rw [Int.emod_eq_of_lt (by omega) h];omega
 ·have e:(room+1+r) % rooms=room+1+r - rooms:=by
   have:=Int.add_emod_right (room+1+r - rooms) rooms
   rw[Int.sub_add_cancel] at this
   rw[this,Int.emod_eq_of_lt (by omega) (by omega)]
  omega
theorem q15 (x:Int){n:Int}(h:0<n):0<=x % n:=za4 _ (by omega)
theorem q1b (x:Int){n:Int}(h:0<n):x % n<n:=zbw _ h
theorem qbs (x:Int)(n:Nat)(h:0<n):∃j:Nat,j<n/\x % (n:Int)=(j:Int):=⟨(x % n).toNat,by have:=q15 x (n:=n) (by omega);have:=q1b x (n:=n) (by omega);omega,by have:=q15 x (n:=n) (by omega);omega⟩
inductive Gt where
 |plain|door (k:Int)|need (k:Int)|bar (b:Int)|wade (h k:Int)|float (h:Int)
def Gt.vs:Gt->List V
 | .plain=>[.str "plain"]
 | .door k=>[.str "door",.int k]
 | .need k=>[.str "need",.int k]
 | .bar b=>[.str "bar",.int b]
 | .wade h k=>[.str "wade",.int h,.int k]
 | .float h=>[.str "float",.int h]
def Gt.ok:Gt->Prop
 | .plain=>True
 | .door k=>0<=k/\k<12
 | .need k=>0<=k/\k<12
 | .bar b=>0<=b/\b<8
 | .wade h k=>(0<=h/\h<10)/\0<=k/\k<12
 | .float h=>0<=h/\h<10
def Gt.word:Gt->Str
 | .plain=>"plain"
 | .door _=>"door"
 | .need _=>"need"
 | .bar _=>"bar"
 | .wade _ _=>"wade"
 | .float _=>"float"
def Gt.ns:Gt->List Int
 | .plain=>[]
 | .door k=>[k]
 | .need k=>[k]
 | .bar b=>[b]
 | .wade h k=>[h,k]
 | .float h=>[h]
theorem Gt.vs_eq (g:Gt):g.vs= .str g.word::g.ns.map V.int:=by cases g<;>rfl
theorem Gt.ns_len (g:Gt):g.ns.length<=2:=by cases g<;>simp[Gt.ns]
structure Way where
 a:Int
 b:Int
 g:Gt
 back:Bool
structure Cl where
 rooms:Int
 fst:Int
 lst:Int
 ways:List Way
 things:List (Int×Int)
 levers:List (Int×Int)
 wheels:List (Int×Int)
 bars:Int
 water:Int
structure ClOk (C:Cl):Prop where
 r1:1<=C.rooms
 r2:C.rooms<=14
 f:0<=C.fst/\C.fst<C.rooms
 l:0<=C.lst/\C.lst<C.rooms
 wl:C.ways.length<=20
 tl:C.things.length<=8
 ll:C.levers.length<=4
 vl:C.wheels.length<=4
 w:∀x∈C.ways,(0<=x.a/\x.a<C.rooms)/\(0<=x.b/\x.b<C.rooms)/\x.a≠x.b/\x.g.ok
 t:∀x∈C.things,(0<=x.1/\x.1<C.rooms)/\0<=x.2/\x.2<12
 lv:∀x∈C.levers,(0<=x.1/\x.1<C.rooms)/\1<=x.2/\x.2<=255
 wh:∀x∈C.wheels,(0<=x.1/\x.1<C.rooms)/\0<=x.2/\x.2<=9
 b:0<=C.bars/\C.bars<=255
 wa:0<=C.water/\C.water<=9
def qH (H:Hp)(p:Addr)(x:Int×Int):Prop:=H p=some (.tup [.int x.1,.int x.2])
def q1C (H:Hp)(p:Addr)(x:Way):Prop:=∃g,H p=some (.tup [.int x.a,.int x.b,.ref g,.bl x.back])/\H g=some (.tup x.g.vs)
def Rows {α:Type}(At:Hp->Addr->α->Prop)(H:Hp)(ps:List Addr)(xs:List α):Prop:=ps.length=xs.length/\∀(i:Nat) (p:Addr) (x:α),ps[i]? =some p->xs[i]? =some x->At H p x
def q3R {α:Type}(At:Hp->Addr->α->Prop)(H:Hp)(q:Addr)(xs:List α):Prop:=∃ps,H q=some (.tup (ps.map V.ref))/\Rows At H ps xs
def LstOf {α:Type}(At:Hp->Addr->α->Prop)(H:Hp)(q:Addr)(xs:List α):Prop:=∃ps,H q=some (.lst (ps.map V.ref))/\Rows At H ps xs
section
variable {α:Type}{At:Hp->Addr->α->Prop}{H H':Hp}{ps:List Addr}{xs:List α}{p q:Addr}{x:α}
theorem qH.mono (s:q2d H H'){p:Addr}{x:Int×Int}(h:qH H p x):qH H' p x:=s _ _ h
theorem q1C.mono (s:q2d H H'){p:Addr}{x:Way}(h:q1C H p x):q1C H' p x:=let ⟨g,h1,h2⟩:=h;⟨g,s _ _ h1,s _ _ h2⟩
theorem Rows.mono (m:∀p x,At H p x->At H' p x)(h:Rows At H ps xs):Rows At H' ps xs:=⟨h.1,fun i p x h1 h2=>m p x (h.2 i p x h1 h2)⟩
theorem Rows.nil:Rows At H [] []:=⟨rfl,fun i p x h _=>by simp at h⟩
theorem Rows.snoc (h:Rows At H ps xs)(hx:At H p x):Rows At H (ps++[p]) (xs++[x]):=by
 refine⟨by simp[h.1],fun i q y h1 h2=>?_⟩
 by_cases hi:i<ps.length
 ·rw [zak hi] at h1
  rw[zak (by rw[<-h.1];exact hi)] at h2
  exact h.2 i q y h1 h2
 ·have e:i=ps.length:=by
   have:=(yA h1).1
   simp at this
   omega
  subst e
  rw[zah (zC _)] at h1
  rw[zah (by rw[h.1];exact zC _),<-h.1] at h2
  simp at h1 h2
  rw[<-h1,<-h2]
  exact hx
theorem Rows.get (h:Rows At H ps xs){i:Nat}(hi:i<xs.length):∃p,(ps.map V.ref)[i]? =some (.ref p)/\At H p xs[i]:=by
 have hp:i<ps.length:=by rw[h.1];exact hi
 exact⟨ps[i],by simp[hp],h.2 i _ _ (by simp[hp]) (by simp[hi])⟩
theorem q3R.mono (s:q2d H H')(m:∀p x,At H p x->At H' p x)(h:q3R At H q xs):q3R At H' q xs:=let ⟨ps,h1,h2⟩:=h;⟨ps,s _ _ h1,h2.mono m⟩
theorem q3R.get (h:q3R At H q xs):∃vs,H q=some (.tup vs)/\vs.length=xs.length/\∀i (hi:i<xs.length),∃p,vs[i]? =some (.ref p)/\At H p xs[i]:=by
 obtain⟨ps,h1,h2⟩:=h
 exact⟨_,h1,by simp[h2.1],fun i hi=>h2.get hi⟩
end
structure ClAt (H:Hp)(c:Addr)(C:Cl):Prop where
 ex:∃w t l v,H c=some (.tup [.int C.rooms,.int C.fst,.int C.lst,.ref w,.ref t,.ref l,.ref v,.int C.bars,.int C.water])/\q3R q1C H w C.ways/\q3R qH H t C.things/\q3R qH H l C.levers/\q3R qH H v C.wheels
theorem ClAt.mono {H H':Hp}(s:q2d H H'){c:Addr}{C:Cl}(h:ClAt H c C):ClAt H' c C:=by
 obtain⟨w,t,l,v,h0,h1,h2,h3,h4⟩:=h.ex
 exact⟨w,t,l,v,s _ _ h0,h1.mono s (fun _ _=>q1C.mono s),h2.mono s (fun _ _=>qH.mono s),h3.mono s (fun _ _=>qH.mono s),h4.mono s (fun _ _=>qH.mono s)⟩
def WOk (r:Int)(x:Way):Prop:=(0<=x.a/\x.a<r)/\(0<=x.b/\x.b<r)/\x.a≠x.b/\x.g.ok
def POk (r lo hi:Int)(x:Int×Int):Prop:=(0<=x.1/\x.1<r)/\lo<=x.2/\x.2<=hi
structure Apart (L l0 l1 l2 l3:Addr):Prop where
 L0:L≠l0
 L1:L≠l1
 L2:L≠l2
 L3:L≠l3
 e01:l0≠l1
 e02:l0≠l2
 e03:l0≠l3
 e12:l1≠l2
 e13:l1≠l3
 e23:l2≠l3
structure Grown {α:Type}(At:Hp->Addr->α->Prop)(ok:α->Prop)(most:Nat)(H:Hp)(l:Addr):Prop where
 ex:∃xs:List α,LstOf At H l xs/\xs.length<=most/\∀x∈xs,ok x
section
variable {α:Type}{At:Hp->Addr->α->Prop}{ok:α->Prop}{most:Nat}{H H':Hp}{l m:Addr}
theorem Grown.at (g:Grown At ok most H l):∃xs,H l=some (.lst xs)/\xs.length<=most:=by
 obtain⟨xs,⟨ps,h1,h2⟩,h3,_⟩:=g.ex
 exact⟨_,h1,by rw[yC,h2.1];exact h3⟩
theorem Grown.none (h:H l=some (.lst [])):Grown At ok most H l:=⟨[],⟨[],h,Rows.nil⟩,zbC _,fun _ h=>by simp at h⟩
theorem Grown.stay (g:Grown At ok most H l)(mo:∀p x,At H p x->At H' p x)(e:H' l=H l):Grown At ok most H' l:=by
 obtain⟨xs,⟨ps,h1,h2⟩,h3,h4⟩:=g.ex
 exact⟨xs,⟨ps,by rw[e];exact h1,h2.mono mo⟩,h3,h4⟩
theorem Grown.same (g:Grown At ok most H l)(mo:∀p x,At H p x->At H' p x)(s:Same H H'):Grown At ok most H' l:=by
 obtain⟨xs,⟨ps,h1,h2⟩,h3,h4⟩:=g.ex
 exact⟨xs,⟨ps,s _ _ h1,h2.mono mo⟩,h3,h4⟩
theorem Grown.app (g:Grown At ok most H l){ys:List V}{p:Addr}{x:α}(mo:∀q x,At H q x->At (upd H l (.lst (ys++[.ref p]))) q x)(hy:H l=some (.lst ys))(hl:ys.length<most)(hx:At H p x)(hok:ok x):Grown At ok most (upd H l (.lst (ys++[.ref p]))) l:=by
 obtain⟨xs,⟨ps,h1,h2⟩,h3,h4⟩:=g.ex
 rw[h1] at hy
 have e:ps.map V.ref=ys:=by
  have:=zE hy
  injection this
 subst e
 refine⟨xs++[x],⟨ps++[p],by rw[qh,zY];rfl,(h2.mono mo).snoc (mo _ _ hx)⟩,?_,fun z hz=>?_⟩
 ·rw [zai,<-h2.1]
  rw[yC] at hl
  exact hl
 ·rcases zad.mp hz with hz|hz
  ·exact h4 z hz
  ·rw [zL.mp hz];exact hok
end
structure Four (H:Hp)(r:Int)(L l0 l1 l2 l3:Addr):Prop where
 hL:H L=some (.lst [.ref l0,.ref l1,.ref l2,.ref l3])
 g0:Grown q1C (WOk r) 20 H l0
 g1:Grown qH (POk r 0 11) 8 H l1
 g2:Grown qH (POk r 1 255) 4 H l2
 g3:Grown qH (POk r 0 9) 4 H l3
section
variable {H H':Hp}{r:Int}{L l0 l1 l2 l3 p:Addr}{ys:List V}
theorem Four.same (F:Four H r L l0 l1 l2 l3)(s:Same H H'):Four H' r L l0 l1 l2 l3:=
 ⟨s _ _ F.hL,F.g0.same (fun _ _=>q1C.mono s.ts) s,F.g1.same (fun _ _=>qH.mono s.ts) s,F.g2.same (fun _ _=>qH.mono s.ts) s,F.g3.same (fun _ _=>qH.mono s.ts) s⟩
theorem Four.way (A:Apart L l0 l1 l2 l3)(F:Four H r L l0 l1 l2 l3)(hy:H l0=some (.lst ys))(hl:ys.length<20){x:Way}(hx:q1C H p x)(ok:WOk r x):Four (upd H l0 (.lst (ys++[.ref p]))) r L l0 l1 l2 l3:=by
 have ts:q2d H (upd H l0 (.lst (ys++[.ref p]))):=q2d.lst hy
 exact⟨by rw[qm A.L0];exact F.hL,F.g0.app (fun _ _=>q1C.mono ts) hy hl hx ok,F.g1.stay (fun _ _=>qH.mono ts) (qm A.e01.symm),F.g2.stay (fun _ _=>qH.mono ts) (qm A.e02.symm),F.g3.stay (fun _ _=>qH.mono ts) (qm A.e03.symm)⟩
theorem Four.thing (A:Apart L l0 l1 l2 l3)(F:Four H r L l0 l1 l2 l3)(hy:H l1=some (.lst ys))(hl:ys.length<8){x:Int×Int}(hx:qH H p x)(ok:POk r 0 11 x):Four (upd H l1 (.lst (ys++[.ref p]))) r L l0 l1 l2 l3:=by
 have ts:q2d H (upd H l1 (.lst (ys++[.ref p]))):=q2d.lst hy
 exact⟨by rw[qm A.L1];exact F.hL,F.g0.stay (fun _ _=>q1C.mono ts) (qm A.e01),F.g1.app (fun _ _=>qH.mono ts) hy hl hx ok,F.g2.stay (fun _ _=>qH.mono ts) (qm A.e12.symm),F.g3.stay (fun _ _=>qH.mono ts) (qm A.e13.symm)⟩
theorem Four.lever (A:Apart L l0 l1 l2 l3)(F:Four H r L l0 l1 l2 l3)(hy:H l2=some (.lst ys))(hl:ys.length<4){x:Int×Int}(hx:qH H p x)(ok:POk r 1 255 x):Four (upd H l2 (.lst (ys++[.ref p]))) r L l0 l1 l2 l3:=by
 have ts:q2d H (upd H l2 (.lst (ys++[.ref p]))):=q2d.lst hy
 exact⟨by rw[qm A.L2];exact F.hL,F.g0.stay (fun _ _=>q1C.mono ts) (qm A.e02),F.g1.stay (fun _ _=>qH.mono ts) (qm A.e12),F.g2.app (fun _ _=>qH.mono ts) hy hl hx ok,F.g3.stay (fun _ _=>qH.mono ts) (qm A.e23.symm)⟩
theorem Four.wheel (A:Apart L l0 l1 l2 l3)(F:Four H r L l0 l1 l2 l3)(hy:H l3=some (.lst ys))(hl:ys.length<4){x:Int×Int}(hx:qH H p x)(ok:POk r 0 9 x):Four (upd H l3 (.lst (ys++[.ref p]))) r L l0 l1 l2 l3:=by
 have ts:q2d H (upd H l3 (.lst (ys++[.ref p]))):=q2d.lst hy
 exact⟨by rw[qm A.L3];exact F.hL,F.g0.stay (fun _ _=>q1C.mono ts) (qm A.e03),F.g1.stay (fun _ _=>qH.mono ts) (qm A.e13),F.g2.stay (fun _ _=>qH.mono ts) (qm A.e23),F.g3.app (fun _ _=>qH.mono ts) hy hl hx ok⟩
end
def tP (C:Cl)(tk k:Int)(t:Nat):Bool:=decide ((C.things.getD t (0,0)).2=k)&&bit tk t
def Gt.dk:Gt->Option Int
  |.door k=>some k
  |_=>none
def dsOf (C:Cl)(w:Nat):Option Int:=(C.ways[w]?).bind fun x=>x.g.dk
def hold (C:Cl)(tk op k:Int):Int:=(cnt (tP C tk k) C.things.length:Int) - (cnt (dP (dsOf C) op k) C.ways.length:Int)
def cl (f:Int->Int):List V:=(List.range 12).map fun k:Nat=>V.int (f k)
end Ce
namespace L2
open PySem PySem.Spec PyProof.Rows
def rSumL (K:W.Frag):List V->Hp->VK->Prop:=fun xs H Q=>∃(p:Addr) (ns:List Int),xs=[.ref p]/\SqL K H p (ns.map V.int)/\Q (.int ns.sum) H
def qaY:V->List V->Hp->VK->Prop:=fun x vs H Q=>∃l xs i y,x= .ref l/\vs=[.int i,y]/\H l=some (.lst xs)/\0<=i/\i<=xs.length/\xs.length<sizeLine/\Q .non (upd H l (.lst (xs.take i.toNat++y::xs.drop i.toNat)))
section
variable {X:Cx}
theorem sumLK (K:W.Frag)(hc:X.calm=true)(hK:X.K=K:=by rfl):q1d X (.builtin "sum") (rSumL K):=by
 subst hK
 intro pins s σ H xs us Q I r h
 obtain⟨p,ns,rfl,hq,q⟩:=h
 obtain⟨u,rfl,rx⟩:=q2u r
 cases rx
 obtain⟨its,rv,pl,hz⟩:=I.list hq
 have hi:=q74 rv
 have hl:=pl.isList
 obtain⟨ys,e⟩:=hi.allInts.items
 have hns:ns=ys.toList.map (·.1):=by rw[<-hi.numsOf,<-nums_intItems,<-e]
 rw[e] at hl
 refine sum_intListG (I.ok.hd hc) hl fun h' tk t' hk=>⟨.int ns.sum,H,I.kept (t':=tk) hk,⟨t',?_⟩,q⟩
 rw[preSum_eq,zT (by simp),hns]
theorem q89:MtM X "list.insert" qaY:=by
 intro pins s σ H x vs v us Q I rx rv h
 obtain⟨l,xs,i,y,rfl,rfl,hH,h0,h1,hz,q⟩:=h
 cases rx
 obtain⟨u1,u2,rfl,⟨t,rfl⟩,ru⟩:=q7i rv
 obtain⟨z,its,n,r,hl,e⟩:=I.lstM hH
 have hn:=q3I
 refine call_meets F.slot_list_insert ⟨_,e,rfl⟩ F.entry_list_insert (F.args_list_insert_3 _ _ _)
  (AutoSeq1.list_insert_list_int_val_1 l its.toArray n i t u2 (by rw[fitsIndex_both (k:=i) (by omega) (by omega)];decide) (by rw[zQ];omega)) ⟨e,?_⟩
 refine⟨.non,_,I.lset (its':=its.take i.toNat++u2::its.drop i.toNat) hH e ?_ ((r.take _).append (.cons ru (r.drop _))) ?_,rfl,q⟩
 ·have e1:(if i<0 then(i+(its.toArray.size:Int)).toNat else min i.toNat its.toArray.size)=i.toNat:=by
   rw[zI (by omega),zQ]
   omega
  show(its.toArray.extract 0 (if i<0 then(i+(its.toArray.size:Int)).toNat else min i.toNat its.toArray.size)).push u2++its.toArray.extract (if i<0 then(i+(its.toArray.size:Int)).toNat else min i.toNat its.toArray.size)=_
  rw[e1]
  apply zbJ.mp
  simp[List.take_of_length_le]
 ·rw [zai,zaf,zW,zbI]
  omega
end
section
variable {H:Hp}{Q:VK}{K:W.Frag}{σ:St}
theorem qaT {r r':R2}{ta tb tc:TE}(q:ta σ H fun x H1=>tb σ H1 fun y H2=>r x y H2 fun z H3=>∃k,z= .bl k/\(if k=true then tc σ H3 fun w' H4=>r' y w' H4 Q else Q (.bl false) H3)):q7o r r' ta tb tc σ H Q:=q
end
structure LaidM (K:W.Frag)(C:Addr)(m qual:Str)(st:Stmt)(ps:List Str):Prop where
 ex:∃f fd,Fun K m qual st f fd/\Meth K C m f/\q1h K fd ps []
structure LaidI (K:W.Frag)(mg:Str->Option Value)(x:Str)(C:Addr)(qual:Str)(st:Stmt)(ps:List Str):Prop where
 ex:∃f fd,Fun K "__init__" qual st f fd/\Mk K C f/\q1h K fd ps []
 at_:mg x=some (.ref C)
structure LaidC (K:W.Frag)(mg:Str->Option Value)(x m qual:Str)(st:Stmt)(ps:List Str):Prop where
 ex:∃C f fd,mg x=some (.ref C)/\Fun K m qual st f fd/\CMeth K C m f/\q1h K fd ps []
section
variable {P:Program}{w:World}{K:W.Frag}{mg:Str->Option Value}{base:Heap}
theorem LaidM.vm {C:Addr}{m qual:Str}{st:Stmt}{N ps:List Str}{k:Nat}{sp:Sp}(L:LaidM K C m qual st ps)(cl:Cls K C)(S:FnScope N ps (qe st))(len:∀vs H Q E,sp vs H Q E->vs.length=ps.length)
  (hbody:∀(f:Addr) (cdv:Value) (A:Around) (outer:List Env) (s:Shared) (H:Hp) (vs:List V) (Q:VK) (E:XK),Room k (A.deeper (envOfC qual (qe st) s.heap.objs.size f cdv))->sp vs H Q E->
   ∃t,PSs (cxOf CX0 P w K mg base N qual (qe st) f cdv A outer s H E).nox (qu st) t/\t {nx:=fun _ H'=>Q .non H',rt:=Q} (q1P N vs) H):VMeth P w K mg base (k+1) C m ps sp:=by
 obtain⟨f,fd,F,hm,b⟩:=L.ex
 exact⟨cl,f,fd,hm,F.ok S len (fun cdv A outer s H vs Q E hr h=>hbody f cdv A outer s H vs Q E hr h),b⟩
theorem LaidI.makes {x:Str}{C:Addr}{qual:Str}{st:Stmt}{N ps:List Str}{k:Nat}{sp:Sp}(L:LaidI K mg x C qual st ps)(S:FnScope N ps (qe st))(len:∀vs H Q E,sp vs H Q E->vs.length=ps.length)
  (hbody:∀(f:Addr) (cdv:Value) (A:Around) (outer:List Env) (s:Shared) (H:Hp) (vs:List V) (Q:VK) (E:XK),Room k (A.deeper (envOfC qual (qe st) s.heap.objs.size f cdv))->sp vs H Q E->
   ∃t,PSs (cxOf CX0 P w K mg base N qual (qe st) f cdv A outer s H E).nox (qu st) t/\t {nx:=fun _ H'=>Q .non H',rt:=Q} (q1P N vs) H):Makes P w K mg base (k+1) x C ps sp:=by
 obtain⟨f,fd,F,M,b⟩:=L.ex
 exact⟨⟨f,fd,M,F.ok S len (fun cdv A outer s H vs Q E hr h=>hbody f cdv A outer s H vs Q E hr h),b⟩,L.at_⟩
theorem LaidC.cc {x m qual:Str}{st:Stmt}{N ps:List Str}{k:Nat}{sp:Sp}(L:LaidC K mg x m qual st ps)(S:FnScope N ps (qe st))(len:∀vs H Q E,sp vs H Q E->vs.length=ps.length)
  (hbody:∀(f:Addr) (cdv:Value) (A:Around) (outer:List Env) (s:Shared) (H:Hp) (vs:List V) (Q:VK) (E:XK),Room k (A.deeper (envOfC qual (qe st) s.heap.objs.size f cdv))->sp vs H Q E->
   ∃t,PSs (cxOf CX0 P w K mg base N qual (qe st) f cdv A outer s H E).nox (qu st) t/\t {nx:=fun _ H'=>Q .non H',rt:=Q} (q1P N vs) H):CCal P w K mg base (k+1) x m ps sp:=by
 obtain⟨C,f,fd,hm,F,cm,b⟩:=L.ex
 exact⟨C,f,fd,hm,cm,F.ok S len (fun cdv A outer s H vs Q E hr h=>hbody f cdv A outer s H vs Q E hr h),b⟩
end
def rFld (K:W.Frag)(f:Str)(x:V)(H:Hp)(Q:VK):Prop:=∃a C dx fs v,x= .ref a/\H a=some (.ins C dx fs)/\Cls K C/\q0a K C f/\fs.lookup f=some v/\Q v H
def rSetF (K:W.Frag)(f:Str)(x y:V)(H:Hp)(R:Hp->Prop):Prop:=∃a C dx fs,x= .ref a/\H a=some (.ins C dx fs)/\Cls K C/\q0a K C f/\fs.length<1000/\R (upd H a (.ins C dx (putF f y fs)))
def rVM (P:Program)(w:World)(K:W.Frag)(mg:Str->Option Value)(base:Heap)(k:Nat)(m:Str)(σ:St)(t:TA)(x:V)(H:Hp)(Q:VK):Prop:=∃a C dx fs ps sp,x= .ref a/\H a=some (.ins C dx fs)/\VMeth P w K mg base k C m ps sp/\fs.lookup m=none/\t σ H fun vs H2=>sp (x::vs) H2 Q E0
section
variable {σ:St}{H:Hp}{Q:VK}{K:W.Frag}{ta tv:TE}{t:TA}{f m:Str}{nx bk ct:St->Hp->Prop}{rt:VK}{P:Program}{w:World}{mg:Str->Option Value}{base:Heap}{k:Nat}
theorem r_fld0 (q:ta σ H fun x H1=>rFld K f x H1 Q):tFld K ta f σ H Q:=q
theorem qaQ (q:tv σ H fun y H1=>ta σ H1 fun x H2=>rSetF K f x y H2 fun H3=>nx σ H3):sFld K ta tv f ⟨nx,rt,bk,ct⟩ σ H:=q
theorem r_vm0 (q:ta σ H fun x H1=>rVM P w K mg base k m σ t x H1 Q):tVM P w K mg base k m ta t σ H Q:=q
theorem r_fld {a C dx:Addr}{fs:List (Str×V)}{v:V}(h:H a=some (.ins C dx fs))(c:Cls K C)(n:q0a K C f)(l:fs.lookup f=some v)(q:Q v H):rFld K f (.ref a) H Q:=⟨a,C,dx,fs,v,rfl,h,c,n,l,q⟩
theorem q3A {a C dx:Addr}{fs:List (Str×V)}{y:V}{R:Hp->Prop}(h:H a=some (.ins C dx fs))(c:Cls K C)(n:q0a K C f)(l:fs.length<1000)(q:R (upd H a (.ins C dx (putF f y fs)))):rSetF K f (.ref a) y H R:=⟨a,C,dx,fs,rfl,h,c,n,l,q⟩
theorem r_vm {a C dx:Addr}{fs:List (Str×V)}{ps:List Str}{sp:Sp}(h:H a=some (.ins C dx fs))(v:VMeth P w K mg base k C m ps sp)(l:fs.lookup m=none)(q:t σ H fun vs H2=>sp (.ref a::vs) H2 Q E0):rVM P w K mg base k m σ t (.ref a) H Q:=⟨a,C,dx,fs,ps,sp,rfl,h,v,l,q⟩
theorem r_make {C:Addr}{sp:Sp}{E:XK}(q:t σ H fun vs H1=>∀x dx,H1 x=none->H1 dx=none->dx≠x->sp (.ref x::(vs++[])) (upd (upd H1 dx (.own x)) x (.ins C dx [])) (fun v H2=>v= .non/\Q (.ref x) H2) E):q7n C sp [] E t σ H Q:=q
end
section
variable {X:Cx}
theorem q2y {o value:Expr}{ta tv:TE}{f:Str}{pos pos':Pos}(K:W.Frag)(ha:PE X o ta)(hv:PE X value tv)(hs:swapsWith value (some (.Attribute o f pos')) pos.line X.env=pure false)(hK:X.K=K:=by rfl):PS X (.Assign [.Attribute o f pos'] value pos) (sFld K ta tv f):=by subst hK;exact ps_fld ha hv hs
end
inductive Deq (K:W.Frag)(H:Hp):Nat->V->V->Bool->Prop where
 |flat {n:Nat} {x y:V} (fx:q3Y x=true) (fy:q3Y y=true):Deq K H n x y (eqV x y)
 |same {n:Nat} (a:Addr):Deq K H n (.ref a) (.ref a) true
 | tup {n:Nat} {a b:Addr} {xs ys:List V} {e:Nat->Bool} (hne:a≠b) (ha:SqT K H a xs) (hb:SqT K H b ys) (h:∀j,j<xs.length->j<ys.length->Deq K H n (xs.getD j .non) (ys.getD j .non) (e j)):
   Deq K H (n+1) (.ref a) (.ref b) ((List.range (min xs.length ys.length)).all e&&xs.length==ys.length)
 | lst {n:Nat} {a b:Addr} {xs ys:List V} {e:Nat->Bool} (hne:a≠b) (ha:SqL K H a xs) (hb:SqL K H b ys) (hl:xs.length=ys.length) (h:∀j,j<xs.length->j<ys.length->Deq K H n (xs.getD j .non) (ys.getD j .non) (e j)):
   Deq K H (n+1) (.ref a) (.ref b) ((List.range xs.length).all e)
 |lstn {n:Nat} {a b:Addr} {xs ys:List V} (hne:a≠b) (ha:SqL K H a xs) (hb:SqL K H b ys) (hl:xs.length≠ys.length):Deq K H (n+1) (.ref a) (.ref b) false
section
variable {X:Cx}{pins:List (Addr×Obj)}{σ:St}{H:Hp}{s:Shared}
theorem q8G (I:Inv X pins σ H s){n:Nat}{x y:V}{b:Bool}(d:Deq X.K H n x y b):∀{A:Around} {u v:Value},A.units+n<cLine->RelV x u->RelV y v->SeqAt.EqAt A s u v b:=by
 induction d with
 |flat fx fy=>intro A u v _ rx ry;exact qam rx ry fx fy
 |same a=>intro A u v _ rx ry;cases rx;cases ry;exact SeqAt.EqAt.same _
 | @tup n a b xs ys e hne ha hb h ih=>
  intro A u v hu rx ry
  cases rx
  cases ry
  obtain⟨ia,ra,pa,_⟩:=I.tuple ha
  obtain⟨ib,rb,pb,_⟩:=I.tuple hb
  have la:=ra.length
  have lb:=rb.length
  refine zb8 hne ?_
  have q:=SeqAt.RcAt.tuples (A:=A) (e:=e) (show s.heap.IsTuple a ia.toArray from pa) (show s.heap.IsTuple b ib.toArray from pb) (by omega) (fun j h1 h2=>ih j (by simpa[la] using h1) (by simpa[lb] using h2) (by show A.units+1+n<cLine;omega) (q1K ra h1) (q1K rb h2))
  simpa[la,lb] using q
 | @lst n a b xs ys e hne ha hb hl h ih=>
  intro A u v hu rx ry
  cases rx
  cases ry
  obtain⟨ia,ra,pa,_⟩:=I.list ha
  obtain⟨ib,rb,pb,_⟩:=I.list hb
  have la:=ra.length
  have lb:=rb.length
  refine zb8 hne ?_
  have q:=SeqAt.RcAt.lists (A:=A) (e:=e) pa.isList pb.isList (by simp;omega) (by omega) (fun j h1 h2=>ih j (by simpa[la] using h1) (by simpa[lb] using h2) (by show A.units+1+n<cLine;omega) (q1K ra h1) (q1K rb h2))
  simpa[la] using q
 | @lstn n a b xs ys hne ha hb hl=>
  intro A u v hu rx ry
  cases rx
  cases ry
  obtain⟨ia,ra,pa,_⟩:=I.list ha
  obtain⟨ib,rb,pb,_⟩:=I.list hb
  have la:=ra.length
  have lb:=rb.length
  exact zb8 hne (SeqAt.RcAt.lists_lengths pa.isList pb.isList (by simp;omega) (by omega))
end
def rEqD (K:W.Frag)(n:Nat):R2:=fun x y H Q=>
 (∃p q xs ys e,x= .ref p/\y= .ref q/\SqT K H p xs/\SqT K H q ys/\(∀j,j<xs.length->j<ys.length->Deq K H n (xs.getD j .non) (ys.getD j .non) (e j))/\Q (.bl ((List.range (min xs.length ys.length)).all e&&xs.length==ys.length)) H)\/
 (∃p q xs ys e,x= .ref p/\y= .ref q/\SqL K H p xs/\SqL K H q ys/\xs.length=ys.length/\(∀j,j<xs.length->j<ys.length->Deq K H n (xs.getD j .non) (ys.getD j .non) (e j))/\Q (.bl ((List.range xs.length).all e)) H)\/
 (∃p q xs ys,x= .ref p/\y= .ref q/\SqL K H p xs/\SqL K H q ys/\xs.length≠ys.length/\Q (.bl false) H)
def rNeD (K:W.Frag)(n:Nat):R2:=fun x y H Q=>
 (∃p q xs ys e,x= .ref p/\y= .ref q/\SqL K H p xs/\SqL K H q ys/\xs.length=ys.length/\(∀j,j<xs.length->j<ys.length->Deq K H n (xs.getD j .non) (ys.getD j .non) (e j))/\Q (.bl (!(List.range xs.length).all e)) H)\/
 (∃p q xs ys,x= .ref p/\y= .ref q/\SqL K H p xs/\SqL K H q ys/\xs.length≠ys.length/\Q (.bl true) H)
section
variable {X:Cx}
theorem op_eqD (K:W.Frag)(n:Nat)(hu:X.A.units+n+1<cLine)(hK:X.K=K:=by rfl):OpR X (compareOp .Eq) (rEqD K n):=by
 subst hK
 intro pins s σ H x y v u Q I rx ry h
 rcases h with⟨p,q,xs,ys,e,rfl,rfl,hp,hq,hd,k⟩|⟨p,q,xs,ys,e,rfl,rfl,hp,hq,hl,hd,k⟩|⟨p,q,xs,ys,rfl,rfl,hp,hq,hl,k⟩
 ·cases rx
  cases ry
  obtain⟨ia,ra,pa,_⟩:=I.tuple hp
  obtain⟨ib,rb,pb,_⟩:=I.tuple hq
  have la:=ra.length
  have lb:=rb.length
  refine SeqAt.eq_tupleAt (e:=e) (show s.heap.IsTuple p ia.toArray from pa) (show s.heap.IsTuple q ib.toArray from pb) (by omega) (fun j h1 h2=>q8G I (hd j (by simpa[la] using h1) (by simpa[lb] using h2)) (by show X.A.units+1+n<cLine;omega) (q1K ra h1) (q1K rb h2)) ⟨.bl _,H,I,?_,k⟩
  show Value.bool _=Value.bool _
  simp[la,lb]
 ·cases rx
  cases ry
  obtain⟨ia,ra,pa,_⟩:=I.list hp
  obtain⟨ib,rb,pb,_⟩:=I.list hq
  have la:=ra.length
  have lb:=rb.length
  refine SeqAt.eq_listAt (e:=e) pa.isList pb.isList (by simp;omega) (by omega) (fun j h1 h2=>q8G I (hd j (by simpa[la] using h1) (by simpa[lb] using h2)) (by show X.A.units+1+n<cLine;omega) (q1K ra h1) (q1K rb h2)) ⟨.bl _,H,I,?_,k⟩
  show Value.bool _=Value.bool _
  simp[la]
 ·cases rx
  cases ry
  obtain⟨ia,ra,pa,_⟩:=I.list hp
  obtain⟨ib,rb,pb,_⟩:=I.list hq
  have la:=ra.length
  have lb:=rb.length
  exact SeqAt.eq_list_lengthsAt pa.isList pb.isList (by simp;omega) (by omega) ⟨.bl false,H,I,rfl,k⟩
theorem op_neD (K:W.Frag)(n:Nat)(hu:X.A.units+n+1<cLine)(hK:X.K=K:=by rfl):OpR X (compareOp .NotEq) (rNeD K n):=by
 subst hK
 intro pins s σ H x y v u Q I rx ry h
 rcases h with⟨p,q,xs,ys,e,rfl,rfl,hp,hq,hl,hd,k⟩|⟨p,q,xs,ys,rfl,rfl,hp,hq,hl,k⟩
 ·cases rx
  cases ry
  obtain⟨ia,ra,pa,_⟩:=I.list hp
  obtain⟨ib,rb,pb,_⟩:=I.list hq
  have la:=ra.length
  have lb:=rb.length
  refine SeqAt.RcNeAt.lists (e:=e) pa.isList pb.isList (by simp;omega) (by omega) (fun j h1 h2=>q8G I (hd j (by simpa[la] using h1) (by simpa[lb] using h2)) (by show X.A.units+1+n<cLine;omega) (q1K ra h1) (q1K rb h2)) _ _ _ _ ⟨.bl _,H,I,?_,k⟩
  show Value.bool _=Value.bool _
  simp[la]
 ·cases rx
  cases ry
  obtain⟨ia,ra,pa,_⟩:=I.list hp
  obtain⟨ib,rb,pb,_⟩:=I.list hq
  have la:=ra.length
  have lb:=rb.length
  exact SeqAt.RcNeAt.lists_lengths pa.isList pb.isList (by simp;omega) (by omega) _ _ _ _ ⟨.bl true,H,I,rfl,k⟩
end
theorem q6I (n:Nat):((List.range n).all fun _=>true)=true:=by simp
section
variable {H:Hp}{Q:VK}{K:W.Frag}{n:Nat}{p q:Addr}{xs ys:List V}
theorem r_eqDT (hp:SqL K H p xs)(hq:SqL K H q ys)(hl:xs.length=ys.length)(h:∀j,j<xs.length->Deq K H n (xs.getD j .non) (ys.getD j .non) true)(k:Q (.bl true) H):rEqD K n (.ref p) (.ref q) H Q:=
 .inr (.inl ⟨p,q,xs,ys,fun _=>true,rfl,rfl,hp,hq,hl,fun j h1 _=>h j h1,by rw[q6I];exact k⟩)
theorem r_neDT (hp:SqL K H p xs)(hq:SqL K H q ys)(hl:xs.length=ys.length)(h:∀j,j<xs.length->Deq K H n (xs.getD j .non) (ys.getD j .non) true)(k:Q (.bl false) H):rNeD K n (.ref p) (.ref q) H Q:=
 .inl ⟨p,q,xs,ys,fun _=>true,rfl,rfl,hp,hq,hl,fun j h1 _=>h j h1,by rw[q6I];exact k⟩
theorem r_eqDF (hp:SqL K H p xs)(hq:SqL K H q ys)(hl:xs.length≠ys.length)(k:Q (.bl false) H):rEqD K n (.ref p) (.ref q) H Q:= .inr (.inr ⟨p,q,xs,ys,rfl,rfl,hp,hq,hl,k⟩)
end
section
variable {X:Cx}{a b e:Expr}{ta tb te:TE}{pos:Pos}
theorem q5U (x y:Str):(x++y).length=x.length+y.length:=strLen_append x y
end
structure FunD (K:W.Frag)(x:Str)(st:Stmt)(ds:List Value)(f:Addr)(fd:FuncData):Prop where
 ex:∃(T:Addr) (o:Obj) (n:Nat) (oc:Value) (od:Option Addr) (kV doc pm:Value) (an:Option Addr) (cdv ct:Value) (osl:Array (Option Value)),
  fd=PySem.W.fnOf x x (qA st) (qu st) (qe st) (.ref T) kV doc pm an cdv ct/\K.lookup f=some ⟨oc,od,.func fd,osl⟩/\PySem.W.codeIn K cdv x=true/\K.lookup T=some o/\o.data= .seq ds.toArray n
 kp:PySem.W.keepIn K (.ref f)=true
structure LaidD (K:W.Frag)(mg:Str->Option Value)(x:Str)(st:Stmt)(ds:List Value):Prop where
 ex:∃f fd,FunD K x st ds f fd/\mg x=some (.ref f)
def BnD (x:Str)(st:Stmt)(ds:List Value)(args:Args)(binds:List (Str×Value)):Prop:=
 ∀(T:Addr) (kV doc pm:Value) (an:Option Addr) (cdv ct:Value),∃k,bindArgs (PySem.W.fnOf x x (qA st) (qu st) (qe st) (.ref T) kV doc pm an cdv ct) args=seqItems? (.ref T) >>= k/\k (some ds.toArray)=pure binds
section
variable {P:Program}{w:World}{K:W.Frag}{mg:Str->Option Value}{base:Heap}{x:Str}{st:Stmt}{ds:List Value}
theorem FunD.bind {f:Addr}{fd:FuncData}{args:Args}{binds:List (Str×Value)}{s:Shared}(F:FunD K x st ds f fd)(X:K.In s.heap)(h:BnD x st ds args binds):BindsTo s fd args binds:=by
 obtain⟨T,o,n,oc,od,kV,doc,pm,an,cdv,ct,osl,rfl,lk,hcd,ho,hs⟩:=F.ex
 obtain⟨k,h1,h2⟩:=h T kV doc pm an cdv ct
 exact PySem.W.binds_K X rfl ho hs h1 h2
theorem q9E {h:Heap}{f T:Addr}{oc:Value}{od an:Option Addr}{osl:Array (Option Value)}{kV doc pm cdv ct:Value}{o:Obj}{n:Nat}(X:K.In h)(G:h.Ns mainGlobals mg)(a:PySem.W.nsIn K mainGlobals x=some (some (.ref f)))
  (l:K.lookup f=some ⟨oc,od,.func (PySem.W.fnOf x x (qA st) (qu st) (qe st) (.ref T) kV doc pm an cdv ct),osl⟩)(c:PySem.W.codeIn K cdv x=true)(k:PySem.W.keepIn K (.ref f)=true)
  (ho:K.lookup T=some o)(hs:o.data= .seq ds.toArray n):LaidD K mg x st ds:=
 ⟨f,_,⟨⟨T,o,n,oc,od,kV,doc,pm,an,cdv,ct,osl,rfl,l,c,ho,hs⟩,k⟩,PySem.W.mg_of X G a⟩
end
end L2
namespace HT
open PySem PyProof.Rows
section
variable {prog:Program}{w:World}{A:Around}{E:Value->Shared->Prop}{s:Shared}
theorem q9O {t b:Addr}{vs ws:List Value}{Q:Value->Shared->Prop}(ht:IsTup s.heap t vs.toArray)(hb:IsTup s.heap b ws.toArray)(hv:vs=[])(h:Q (.ref b) s):wpAny (model prog w) A (binaryOp .Add (.ref t) (.ref b)) Q E s:=by
 obtain⟨⟨cls,dd,data,sl⟩,ho,hc,n,hd⟩:=id ht
 obtain⟨⟨cls2,dd2,data2,sl2⟩,ho2,hc2,n2,hd2⟩:=id hb
 simp only at hc hd hc2 hd2
 subst hc hd hc2 hd2
 exact concat_meets ⟨_,ho,rfl⟩ ⟨_,ho2,rfl⟩ noFill_tuple_add seq_tuple_add zbE zby (zbv _ _)
   (tuple_addW0 t b vs.toArray ws.toArray n n2 dd dd2 sl sl2 (by simp[hv])) ⟨ho,ho2,h⟩
end
end HT
namespace L2
open PySem PySem.Spec PyProof.Rows
def qa7 (K:W.Frag):R2:=fun x y H Q=>∃a b xs ys,x= .ref a/\y= .ref b/\SqT K H a xs/\SqT K H b ys/\xs.length+ys.length<=sizeLine/\
 (xs=[]->Q (.ref b) H)/\(xs≠[]->ys=[]->Q (.ref a) H)/\(xs≠[]->ys≠[]->∀p,H p=none->Q (.ref p) (upd H p (.tup (xs++ys))))
section
variable {X:Cx}
theorem q2g (K:W.Frag)(hK:X.K=K:=by rfl):OpR X (binaryOp .Add) (qa7 K):=by
 subst hK
 intro pins s σ H x y v u Q I rx ry h
 obtain⟨a,b,xs,ys,e1,e2,ha,hb,hz,q0,q1,q2⟩:=h
 by_cases hx:xs=[]
 ·subst e1 e2
  cases rx
  cases ry
  obtain⟨its,r1,p1,_⟩:=I.tuple ha
  obtain⟨its2,r2,p2,_⟩:=I.tuple hb
  exact HT.q9O p1 p2 (r1.nil_iff.mpr hx) ⟨.ref b,H,I,rfl,q0 hx⟩
 ·exact q84 pins s σ H x y v u Q I rx ry ⟨a,b,xs,ys,e1,e2,ha,hb,hx,hz,q1 hx,q2 hx⟩
end
theorem q5W {i:Int}(h:i.natAbs.log2<1920):(Str.ofString (toString i)).length<=1921:=int_text_len_1921 h
end L2
namespace Ce
open PySem L2
end Ce
namespace Ce
open PySem L2
def letsG (g:Gt)(f:Int->Int)(op:Bool)(bars wt:Int):Bool:=match g with
 | .plain=>true
 | .door _=>op
 | .need k=>decide (0<f k)
 | .bar b=>bit bars b.toNat
 | .wade h k=>decide (wt<=h)||decide (0<f k)
 | .float h=>decide (h<=wt)
inductive Wd where
 |go|pull|take|turn|unlock
 deriving DecidableEq
structure Sd where
 rm:Int
 tk:Int
 op:Int
 b:Int
 wt:Int
def q8H (x:Way)(rm:Int):Bool:=decide (rm=x.a)||(decide (rm=x.b)&&x.back)
def canB (C:Cl)(s:Sd)(i:Nat):Wd->Bool
 | .go=>match C.ways[i]? with
  |some x=>q8H x s.rm&&letsG x.g (hold C s.tk s.op) (bit s.op i) s.b s.wt
  |none=>false
 | .pull=>match C.levers[i]? with
  |some x=>decide (s.rm=x.1)
  |none=>false
 | .take=>match C.things[i]? with
  |some x=>decide (s.rm=x.1)&& !bit s.tk i
  |none=>false
 | .turn=>match C.wheels[i]? with
  |some x=>decide (s.rm=x.1)&& !decide (s.wt=x.2)
  |none=>false
 | .unlock=>match C.ways[i]? with
  |some x=>match x.g.dk with
   |some k=>(q8H x s.rm&& !bit s.op i)&&decide (0<hold C s.tk s.op k)
   |none=>false
  |none=>false
def doneB (C:Cl)(s:Sd)(i:Nat):Wd->Sd
 | .go=>match C.ways[i]? with
  |some x=>{s with rm:=if s.rm=x.a then x.b else x.a}
  |none=>s
 | .pull=>match C.levers[i]? with
  |some x=>{s with b:=Builtin.bitXor s.b x.2}
  |none=>s
 | .take=>{s with tk:=s.tk+2 ^ i}
 | .turn=>match C.wheels[i]? with
  |some x=>{s with wt:=x.2}
  |none=>s
 | .unlock=>{s with op:=s.op+2 ^ i}
def canD (C:Cl)(s:Sd)(d:Wd)(n:Int):Bool:= !decide (s.rm=C.lst)&&(decide (0<=n)&&canB C s n.toNat d)
def doneD (C:Cl)(s:Sd)(d:Wd)(n:Int):Sd:=doneB C s n.toNat d
def Cl.num (C:Cl):Wd->Nat
  |.go=>C.ways.length
  |.pull=>C.levers.length
  |.take=>C.things.length
  |.turn=>C.wheels.length
  |.unlock=>C.ways.length
theorem qbX {C:Cl}{s:Sd}{i:Nat}{d:Wd}(h:canB C s i d=true):i<C.num d:=by
 cases d<;>simp only[canB] at h
 ·cases e:C.ways[i]? with
  |none=>rw[e] at h;simp at h
  |some x=>exact(yA e).1
 ·cases e:C.levers[i]? with
  |none=>rw[e] at h;simp at h
  |some x=>exact(yA e).1
 ·cases e:C.things[i]? with
  |none=>rw[e] at h;simp at h
  |some x=>exact(yA e).1
 ·cases e:C.wheels[i]? with
  |none=>rw[e] at h;simp at h
  |some x=>exact(yA e).1
 ·cases e:C.ways[i]? with
  |none=>rw[e] at h;simp at h
  |some x=>exact(yA e).1
theorem qbW {C:Cl}{s:Sd}{d:Wd}{n:Int}(h:canD C s d n=true):¬s.rm=C.lst/\∃i:Nat,n=(i:Int)/\i<C.num d/\canB C s i d=true:=by
 unfold canD at h
 simp only[Bool.and_eq_true,Bool.not_eq_true',decide_eq_false_iff_not,decide_eq_true_eq] at h
 exact⟨h.1,n.toNat,by omega,qbX h.2.2,h.2.2⟩
theorem go_of {C:Cl}{s:Sd}{i:Nat}(hc:canD C s .go (i:Int)=true):∃x,C.ways[i]? =some x/\q8H x s.rm=true/\letsG x.g (hold C s.tk s.op) (bit s.op i) s.b s.wt=true/\¬s.rm=C.lst/\doneD C s .go (i:Int)={s with rm:=if s.rm=x.a then x.b else x.a}:=by
 obtain⟨hl,j,e,hi,hb⟩:=qbW hc
 have e':i=j:=by omega
 subst e'
 have hi':i<C.ways.length:=hi
 have hx:C.ways[i]? =some C.ways[i]:=zay hi'
 simp only[canB,hx,Bool.and_eq_true] at hb
 exact⟨C.ways[i],hx,hb.1,hb.2,hl,by unfold doneD;rw[Int.toNat_natCast];simp[doneB,hi']⟩
end Ce
namespace L2
open PySem PySem.Spec PyProof.Rows
section
variable {M:Model}{A:Around}{E:Value->Shared->Prop}{env:Env}{nm q:Str}{C N:Addr}{bs bm:List Value}{hdct:Bool}{sn:List Str}{sub:List Value}{ab:Bool}{col:Option Bool}{dd:Option Addr}{k0 k1 k2 k3 k5:Option Value}{newId:String}
theorem q3V {s:Shared}{x:Sem Value}{Q:Flow->Shared->Prop}(hbase:bm.contains (.type "BaseException")=true)(hh:A.handled=none)
  (h:wpAny M A x (fun v s₁=>∃e oe vs,v= .ref e/\s₁.heap.get? C=some (excClassObj nm q C N bs bm hdct sn sub ab col dd k0 k1 k2 k3 k5 newId)/\s₁.heap.get? e=some oe/\oe.cls= .ref C/\oe.data= .fields vs/\vs[1]? =some .none/\E (.ref e) s₁) E s):wpAny M A (raiseStmt env (some x) none) Q E s:=by
 have hcB:(Value.ref C::bm).contains (.type "BaseException")=true:=by rw[List.contains_cons,hbase,Bool.or_true]
 unfold raiseStmt
 refine yD (zZ h (fun v s₁ h₁=>?_) fun _ _ z=>z)
 obtain⟨e,oe,vs,rfl,hC,he,hc,hd,h1,hE⟩:=h₁
 obtain⟨hp,g,d,tk,os⟩:=s₁
 obtain⟨c0,dct,dt,sl⟩:=oe
 dsimp only at hc hd he hC
 subst hc hd
 refine yD (zA ?_)
 refine yD (zar ?_)
 unfold excFromValue isExcClass
 refine yD (yD ?_)
 unfold isType
 refine yD (zag he (zA ?_))
 refine zG rfl (zA (zG rfl ?_))
 unfold isInstance typeOf
 refine yD (yD (yD (zag he (zA ?_))))
 refine zbZ hC ?_
 rw[hcB]
 refine zaz rfl (zA ?_)
 refine yD (yD (zag he (zA ?_)))
 refine zG rfl ?_
 unfold raisedInstance
 refine yD (yD (yD (zag he (zA ?_))))
 refine yD (yD (zag hC (zA ?_)))
 refine zaz rfl (zA ?_)
 refine yD ?_
 unfold setFlight
 refine yD (zaa he rfl h1 ?_)
 exact zG rfl (zA (wpAny_raiseNew_none hh hE))
end
section
variable {prog:Program}{w:World}{A:Around}{E:Value->Shared->Prop}{h:Heap}{g:Array GenState}{d:Drawn}{t:Nat}{os:OsState}{nm q:Str}{C N:Addr}{bs bm bmB:List Value}{hdct:Bool}{sn:List Str}{sub:List Value}{ab:Bool}{col:Option Bool}{dd:Option Addr}{k0 k1 k2 k3 k5:Option Value}{B newId initId:String}{rest:List Value}{fI:Addr}{oI:Obj}
theorem q3r {Q:PySem.Fin->Shared->Prop}(F:ExcBaseFacts B newId initId bmB)(T:OwnTail h bmB bm)(hC:h.get? C=some (excClassObj nm q C N bs bm hdct sn sub ab col dd k0 k1 k2 k3 k5 newId))(hi:PySem.W.Looks (model prog w) h (typeLookup (.ref C) "__init__") (some (.ref fI)))(hfI:h.get? fI=some oI)(hfc:oI.cls= .type "function")
  (hq:∀(h':Heap) (e:Addr),h.MadeExcOf h' e (.ref C) rest->wpAny (model prog w) A (call (.ref fI) (.ref e::rest)) (fun r s'=>r= .none/\Q (.done (.ret (.ref e))) s') E {heap:=h',gens:=g,drawn:=d,toks:=t,os:=os})(hrest:rest.length<=sizeLine):
  wpAny (model prog w) A (Builtin.«type.__call__» {pos:= .ref C::rest}) Q E {heap:=h,gens:=g,drawn:=d,toks:=t,os:=os}:=by
 unfold Builtin.«type.__call__»
 refine zG rfl ?_
 refine yD ?_
 unfold mroOf
 refine yD (yD (wpAny_load' hC (zA (zA ?_))))
 refine zG rfl ?_
 refine yD (wpAny_madeBy_exc hC (yD (zA ?_)))
 refine yD (zar (zbf (codeAny_call_builtin_code (Code.quiet_builtin {pos:= .ref C::rest} F.quiet) (wpAny_check_new_subT F T hC (codeAny_exc_new_subT F T hC ?_ hrest)))))
 have kp:∀b o,h.get? b=some o->((h.push {cls:= .type "tuple",data:= .seq rest.toArray}).push {cls:= .ref C,data:= .fields #[.ref h.objs.size,.none,.none,.none,.bool false,.none]}).get? b=some o:=fun b o e=>zB _ (zB _ e)
 have hget:((h.push {cls:= .type "tuple",data:= .seq rest.toArray}).push {cls:= .ref C,data:= .fields #[.ref h.objs.size,.none,.none,.none,.bool false,.none]}).get? (h.objs.size+1)=some {cls:= .ref C,data:= .fields #[.ref h.objs.size,.none,.none,.none,.bool false,.none]}:=Heap.get?_push_at (by simp) rfl
 have hcC:(Value.ref C::bm).contains (.ref C)=true:=by simp
 unfold isInstance typeOf
 refine yD (yD (yD (zag hget (zA ?_))))
 refine zbZ (kp _ _ hC) ?_
 rw[hcC]
 refine zG rfl ?_
 refine yD (zar ?_)
 unfold callSpecial?
 refine yD ?_
 unfold specialOf
 refine yD ?_
 unfold typeOf
 refine yD (zag hget (zA ?_))
 refine(hi.keeps kp).at ?_
 refine zar (yD ?_)
 unfold bindSpecial
 refine yD (zck ⟨oI,kp _ _ hfI,hfc⟩ ?_)
 rw[zM (by decide)]
 refine zA (yD (zZ (hq _ _ ⟨kp,zbN (zb4 _),h.objs.size,hget,zbN (zC _),zB _ (Heap.get?_push_at rfl rfl)⟩) (fun r s' hr=>?_) fun _ _ z=>z))
 obtain⟨rfl,hQ⟩:=hr
 exact zA (zG rfl (zA hQ))
theorem q4d {Q:Value->Shared->Prop}(F:ExcBaseFacts B newId initId bmB)(T:OwnTail h bmB bm)(hC:h.get? C=some (excClassObj nm q C N bs bm hdct sn sub ab col dd k0 k1 k2 k3 k5 newId))(hi:PySem.W.Looks (model prog w) h (typeLookup (.ref C) "__init__") (some (.ref fI)))(hfI:h.get? fI=some oI)(hfc:oI.cls= .type "function")
  (hq:∀(h':Heap) (e:Addr),h.MadeExcOf h' e (.ref C) rest->wpAny (model prog w) (A.under (Code.builtin "type.__call__" {pos:= .ref C::rest})) (call (.ref fI) (.ref e::rest)) (fun r s'=>r= .none/\Q (.ref e) s') E {heap:=h',gens:=g,drawn:=d,toks:=t,os:=os})(hrest:rest.length<=sizeLine):
  wpAny (model prog w) A (call (.ref C) rest) Q E {heap:=h,gens:=g,drawn:=d,toks:=t,os:=os}:=by
 have f1:=tc_lookup
 have f2:=tc_bind (.ref C)
 have hT:({heap:=h,gens:=g,drawn:=d,toks:=t,os:=os}:Shared).TypeIs (.ref C) "type":=⟨_,hC,rfl⟩
 refine zbf (codeAny_of_tree ?_)
 refine yD (wpAny_load' hC ?_)
 refine yD (wpAny_specialOf hT f1 ?_)
 refine yD (wpAny_of_eq f2 ?_)
 refine yD (zA ?_)
 refine zaz rfl ?_
 refine zA ⟨rfl,?_⟩
 exact codeAny_call_builtin_at (Code.quiet_builtin _ (by walk_at "k")) entry_typeCall (wpAny_check_type_call_sub hC (q3r F T hC hi hfI hfc (fun h' e hm=>hq h' e hm) hrest))
end
def q1V (h:Heap)(e:Addr)(od:Option Addr):Prop:=∃o,h.get? e=some o/\o.dict=od/\(od=none->∃vs,o.data= .fields vs/\vs[2]? =some .none)
section
variable {M:Model}{A:Around}{E:Value->Shared->Prop}{s:Shared}{base:Heap}{env:Env}{outer:List Env}{L e:Addr}{oe:Obj}{vs:Array Value}{cls head a0:Value}{hadNext:Bool}{od:Option Addr}{Q:Unit->Shared->Prop}
theorem qan (hfr:A.frames=some (env::outer))(hl:s.heap.FunFrames base (env::outer))(hf:env.frame=some L)(he:s.heap.get? e=some oe)(hkb:base.StaysIn s.heap)(hen:base.get? e=none)(hd:oe.data= .fields vs)(hsz:1<vs.size)(h0:vs[0]? =some a0)(hcx:oe.dict=none->vs[2]? =some .none)
  (h:∀h',base.NotedW (env::outer) e oe.cls a0 (rawInt ↑L) s.heap h'->q1V h' e oe.dict->Q () {s with heap:=h'}):
  wpAny M A (do
   let a<-PySem.frameOf env
   let pl<-entryPlaceOf L hadNext
   let b<-EntryCells.newEntry head a Value.none (rawInt ↑L) Value.none pl
   setField (Value.ref e) 1 b) Q E s:=by
 have hene:e∉List.filterMap (fun x=>x.frame) (env::outer):=fun hm=>by
  obtain⟨_,o,ho,hnf⟩:=Heap.FunFrames.mem hl hm
  rw[he] at ho
  cases ho
  exact hnf vs hd
 refine yD (wpAny_frameOf_fun hfr hl hf fun h₁ hs₁=>?_)
 refine yD (wpAny_entryPlaceOf fun pl hpl=>?_)
 refine yD ?_
 refine zaM ?_ (IsPlace.sizeOk5 hpl head (Value.ref L) Value.none (rawInt ↑L) Value.none)
 have he₁:h₁.get? e=some oe:=(hs₁.2.1 e hene).trans he
 have kb₁:base.StaysIn h₁:=fun b o hbo=>(hs₁.2.1 b fun hm=>by rw[(Heap.FunFrames.mem hl hm).1] at hbo;cases hbo).trans (hkb b o hbo)
 generalize hT:([head,Value.ref L,Value.none,rawInt ↑L,Value.none]++if pl.isEmpty=true then List.replicate 6 Value.none else pl).toArray=ts
 have ht3:ts[3]? =some (rawInt ↑L):=by rw[<-hT];simp
 have he₂:(h₁.push {cls:= .type "traceback",data:= .fields ts}).get? e=some oe:=zB _ he₁
 refine zaK he₂ hd hsz ?_
 have hTe:h₁.objs.size≠e:=zbu (zD he₁)
 have hd₃:=za1 hd fun x=>x.setIfInBounds 1 (Value.ref h₁.objs.size)
 have he₃:=zaj (Obj.mapFields fun x=>x.setIfInBounds 1 (Value.ref h₁.objs.size)) he₂ (za3 hd₃)
 have keep:∀b o,b≠e->h₁.get? b=some o->((h₁.push {cls:= .type "traceback",data:= .fields ts}).update e (Obj.mapFields fun x=>x.setIfInBounds 1 (Value.ref h₁.objs.size))).get? b=some o:=fun b o hbe hb=>by
  rw[zab _ _ (Ne.symm hbe)]
  exact zB _ hb
 have hT₃:((h₁.push {cls:= .type "traceback",data:= .fields ts}).update e (Obj.mapFields fun x=>x.setIfInBounds 1 (Value.ref h₁.objs.size))).get? h₁.objs.size=some {cls:= .type "traceback",data:= .fields ts}:=
  (zab _ _ (Ne.symm hTe)).trans (zO h₁ rfl)
 have noRecord:∀b o,s.heap.get? b=some o->(∀vs,o.data≠ .fields vs)->b≠e:=fun b o hb hnf q=>by
  subst q
  rw[he] at hb
  cases hb
  exact hnf vs hd
 refine h _ ⟨fun b o hbo=>keep b o (fun q=>by subst q;rw[hen] at hbo;cases hbo) (kb₁ b o hbo),zbd (fun b o hb hnf=>?_) hl,⟨_,_,_,_,_,he₃,⟨Obj.cls_mapFields oe _,?_⟩,hd₃,?_,Heap.StaysIn.fresh kb₁,hTe,hT₃,rfl,ht3⟩,fun b o hb hnf=>?_⟩ ⟨_,he₃,?_,fun z=>⟨_,hd₃,?_⟩⟩
 ·obtain ⟨sl,hs⟩:=hs₁.2.2 b o hb
  exact⟨_,keep b _ (noRecord b o hb hnf) hs,rfl⟩
 ·rw [zae (by decide)]
  exact h0
 ·rw [getElem?_pos _ 1 (by simpa using hsz)]
  simp
 ·obtain ⟨sl,hs⟩:=hs₁.2.2 b o hb
  exact⟨sl,keep b _ (noRecord b o hb hnf) hs⟩
 ·obtain ⟨c0,dct,dt,sl⟩:=oe
  dsimp only at hd
  subst hd
  rfl
 ·rw [zae (by decide)]
  exact hcx z
theorem q8l {l:List Env}(held:base.HeldW l e cls a0 L s.heap)(hD:q1V s.heap e od)(h:∀h',base.FlyingW l e cls a0 h'->q1V h' e od->s.heap.UpToSlots h'->Q () {s with heap:=h'}):wpAny M A (setFlight (.ref e) none) Q E s:=by
 obtain⟨st,hen,ff,oe,vs,T,oT,ts,j1,j2,j3,j4,j5,j6,j7,j8,j9⟩:=held
 obtain⟨o2,q1,q2,q3⟩:=hD
 rw[j1] at q1
 cases q1
 unfold setFlight
 refine yD (zaa j1 j3 j4 ?_)
 refine zaz rfl ?_
 have h3:3<ts.size:=by
  have:=(zau.mp j9).1
  exact this
 refine zaK j7 j8 h3 ?_
 have hd₃:=za1 j8 fun x=>x.setIfInBounds 3 Value.none
 have hT₃:=zaj (Obj.mapFields fun x=>x.setIfInBounds 3 Value.none) j7 (za3 hd₃)
 have keep:∀b o,b≠T->s.heap.get? b=some o->(s.heap.update T (Obj.mapFields fun x=>x.setIfInBounds 3 Value.none)).get? b=some o:=fun b o hb q=>by
  rw[zab _ _ (Ne.symm hb)]
  exact q
 have noT:∀b o,s.heap.get? b=some o->(∀vs,o.data≠ .fields vs)->b≠T:=fun b o hb hnf q=>by
  subst q
  rw[j7] at hb
  cases hb
  exact hnf ts j8
 refine h _ ⟨fun b o hb=>keep b o (fun q=>by subst q;rw[j5] at hb;cases hb) (st b o hb),hen,zbd (fun b o hb hnf=>⟨o,keep b o (noT b o hb hnf) hb,rfl⟩) ff,oe,vs,T,_,_,keep _ _ (Ne.symm j6) j1,j2,j3,j4,j5,j6,hT₃,hd₃,?_⟩ ⟨_,keep _ _ (Ne.symm j6) j1,q2,q3⟩ fun b o hb hnf=>⟨o.slots,keep b o (noT b o hb hnf) hb⟩
 rw[getElem?_pos _ 3 (by simpa using h3)]
 simp
theorem q3f {l:List Env}(f:base.FlyingW l e cls a0 s.heap)(hD:q1V s.heap e od)(h:∀h',base.FlyingW l e cls a0 h'->q1V h' e od->s.heap.UpToSlots h'->Q () {s with heap:=h'}):wpAny M A (setFlight (.ref e) none) Q E s:=by
 obtain⟨st,hen,ff,oe,vs,T,oT,ts,j1,j2,j3,j4,j5,j6,j7,j8,j9⟩:=f
 obtain⟨o2,q1,q2,q3⟩:=hD
 rw[j1] at q1
 cases q1
 unfold setFlight
 refine yD (zaa j1 j3 j4 ?_)
 refine zaz rfl ?_
 have h3:3<ts.size:=(zau.mp j9).1
 refine zaK j7 j8 h3 ?_
 have hd₃:=za1 j8 fun x=>x.setIfInBounds 3 Value.none
 have hT₃:=zaj (Obj.mapFields fun x=>x.setIfInBounds 3 Value.none) j7 (za3 hd₃)
 have keep:∀b o,b≠T->s.heap.get? b=some o->(s.heap.update T (Obj.mapFields fun x=>x.setIfInBounds 3 Value.none)).get? b=some o:=fun b o hb q=>by
  rw[zab _ _ (Ne.symm hb)]
  exact q
 have noT:∀b o,s.heap.get? b=some o->(∀vs,o.data≠ .fields vs)->b≠T:=fun b o hb hnf q=>by
  subst q
  rw[j7] at hb
  cases hb
  exact hnf ts j8
 refine h _ ⟨fun b o hb=>keep b o (fun q=>by subst q;rw[j5] at hb;cases hb) (st b o hb),hen,zbd (fun b o hb hnf=>⟨o,keep b o (noT b o hb hnf) hb,rfl⟩) ff,oe,vs,T,_,_,keep _ _ (Ne.symm j6) j1,j2,j3,j4,j5,j6,hT₃,hd₃,?_⟩ ⟨_,keep _ _ (Ne.symm j6) j1,q2,q3⟩ fun b o hb hnf=>⟨o.slots,keep b o (noT b o hb hnf) hb⟩
 rw[getElem?_pos _ 3 (by simpa using h3)]
 simp
theorem qae (hfr:A.frames=some (env::outer))(hf:env.frame=some L)(fly:base.FlyingW (env::outer) e cls a0 s.heap)(hD:q1V s.heap e od)
  (h:∀h',base.HeldW (env::outer) e cls a0 L h'->q1V h' e od->s.heap.UpToSlots h'->Q () {s with heap:=h'}):wpAny M A (noteFrame (.ref e) env) Q E s:=by
 obtain⟨st,hen,ff,oe,vs,T,oT,ts,j1,j2,j3,j4,j5,j6,j7,j8,j9⟩:=fly
 obtain⟨o2,q1,q2,q3⟩:=hD
 rw[j1] at q1
 cases q1
 have hcx:oe.dict=none->vs[2]? =some .none:=fun z=>by
  obtain⟨v2,k1,k2⟩:=q3 (q2▸z)
  rw[j3] at k1
  cases k1
  exact k2
 obtain⟨j2,j2'⟩:=j2
 subst j2
 have h3:3<ts.size:=(zau.mp j9).1
 have h1:1<vs.size:=(zau.mp j4).1
 unfold noteFrame
 rw[hf]
 refine yD (zaa j1 j3 j4 ?_)
 refine zaz rfl ?_
 refine yD (zaa j7 j8 j9 ?_)
 refine zG (by simp[rawInt]) ?_
 refine yD (zaK j7 j8 h3 ?_)
 have hd₃:=za1 j8 fun x=>x.setIfInBounds 3 Value.none
 have hT₃:=zaj (Obj.mapFields fun x=>x.setIfInBounds 3 Value.none) j7 (za3 hd₃)
 have keep:∀b o,b≠T->s.heap.get? b=some o->(s.heap.update T (Obj.mapFields fun x=>x.setIfInBounds 3 Value.none)).get? b=some o:=fun b o hb q=>by
  rw[zab _ _ (Ne.symm hb)]
  exact q
 have noT:∀b o,s.heap.get? b=some o->(∀vs,o.data≠ .fields vs)->b≠T:=fun b o hb hnf q=>by
  subst q
  rw[j7] at hb
  cases hb
  exact hnf ts j8
 refine qan hfr (zbd (fun b o hb hnf=>⟨o,keep b o (noT b o hb hnf) hb,rfl⟩) ff) hf (keep _ _ (Ne.symm j6) j1) (fun b o hb=>keep b o (fun q=>by subst q;rw[j5] at hb;cases hb) (st b o hb)) hen j3 h1 j2' hcx fun h' N D=>?_
 obtain⟨n1,n2,n3,n4⟩:=N
 exact h h' ⟨n1,hen,n2,n3⟩ (q2▸D) fun b o hb hnf=>n4 b o (keep b o (noT b o hb hnf) hb) hnf
theorem q9C (hfr:A.frames=some (env::outer))(hf:env.frame=some L)(st:base.StaysIn s.heap)(ff:s.heap.FunFrames base (env::outer))(he:s.heap.get? e=some oe)(hen:base.get? e=none)(hd:oe.data= .fields vs)(h1:vs[1]? =some .none)(h0:vs[0]? =some a0)(hcx:oe.dict=none->vs[2]? =some .none)
  (h:∀h',base.FlyingW outer e oe.cls a0 h'->q1V h' e oe.dict->s.heap.UpToSlots h'->Q () {s with heap:=h'}):wpAny M A (leaving env (.ref e)) Q E s:=by
 unfold leaving
 refine yD ?_
 unfold noteFrame
 rw[hf]
 refine yD (zaa he hd h1 ?_)
 refine zG rfl ?_
 refine qan hfr ff hf he st hen hd (zau.mp h1).1 h0 hcx fun h' N D=>?_
 obtain⟨n1,n2,n3,n4⟩:=N
 refine q8l (L:=L) ⟨n1,hen,n2,n3⟩ D fun h2 f2 D2 u2=>h h2 ⟨f2.1,f2.2.1,f2.2.2.1.2.2,f2.2.2.2⟩ D2 (Heap.UpToSlots.trans n4 u2)
theorem qbz (hfr:A.frames=some (env::outer))(hf:env.frame=some L)(fly:base.FlyingW (env::outer) e cls a0 s.heap)(hD:q1V s.heap e od)
  (h:∀h',base.FlyingW outer e cls a0 h'->q1V h' e od->s.heap.UpToSlots h'->Q () {s with heap:=h'}):wpAny M A (leaving env (.ref e)) Q E s:=by
 unfold leaving
 refine yD (qae hfr hf fly hD fun h1 hl D1 u1=>?_)
 refine q8l hl D1 fun h2 f2 D2 u2=>h h2 ⟨f2.1,f2.2.1,f2.2.2.1.2.2,f2.2.2.2⟩ D2 (u1.trans u2)
end
abbrev q2M (C:Addr)(od:Option Addr)(t:Addr)(sl:Array (Option Value)):Obj:={cls:= .ref C,dict:=od,data:= .fields #[.ref t,.none,.none,.none,.bool false,.none],slots:=sl}
section
variable {prog:Program}{w:World}{A:Around}{E:Value->Shared->Prop}{h:Heap}{g:Array GenState}{d:Drawn}{tk:Nat}{os:OsState}{nm q:Str}{C N e t0:Addr}{bs bm bmB:List Value}{hdct:Bool}{sn:List Str}{sub:List Value}{ab:Bool}{col:Option Bool}{dd od:Option Addr}{k0 k1 k2 k3 k5:Option Value}{B newId initId:String}{sl:Array (Option Value)}{rest:List Value}
theorem q3Z {Q:Value->Shared->Prop}(F:ExcBaseFacts B newId initId bmB)(T:OwnTail h bmB bm)(hC:h.get? C=some (excClassObj nm q C N bs bm hdct sn sub ab col dd k0 k1 k2 k3 k5 newId))(he:h.get? e=some (q2M C od t0 sl))(hrest:rest.length<=sizeLine)
  (hq:∀(h':Heap) (t':Addr),(∀b o,b≠e->h.get? b=some o->h'.get? b=some o)->h'.get? e=some (q2M C od t' sl)->Q .none {heap:=h',gens:=g,drawn:=d,toks:=tk,os:=os}):
  wpAny (model prog w) A (call (.builtin initId) (.ref e::rest)) Q E {heap:=h,gens:=g,drawn:=d,toks:=tk,os:=os}:=by
 refine zbf (za7 F.init.plain F.initEntry (wpAny_check_init_subT F T hC he rfl ?_))
 unfold Builtin.«BaseException.__init__»
 refine zG rfl ?_
 refine yD ?_
 unfold newTuple
 refine zG (by simp;omega) ?_
 unfold newObjAsIs
 refine yD (wpAny_alloc' (zA ?_))
 have he₂:(h.push {cls:= .type "tuple",data:= .seq rest.toArray}).get? e=some (q2M C od t0 sl):=zB _ he
 refine yD ?_
 unfold Builtin.BaseException.bexcPut
 refine yD (zaa he₂ rfl rfl ?_)
 refine yD (zaK he₂ rfl (by simp) ?_)
 refine zcr (zA ?_)
 have he₃:=zaj (Obj.mapFields fun x=>x.setIfInBounds 0 (Value.ref h.objs.size)) he₂ rfl
 refine hq _ h.objs.size (fun b o hb q=>?_) he₃
 show((h.push _).update e _).get? b=some o
 rw[zab _ _ (Ne.symm hb)]
 exact zB _ q
end
section
variable {P:Program}{w:World}{H:Hp}{h:Heap}{a:Addr}{o:HO}
theorem q0j.there (x:q0j P w H h a o):∃u,h.get? a=some u:=by
 cases o with
 |lst xs=>obtain⟨_,_,_,_,e⟩:=x;exact⟨_,e⟩
 |tup xs=>obtain⟨_,_,_,o,e,_⟩:=x;exact⟨_,e⟩
 |dK kvs=>obtain⟨_,_,_,_,o,_,_,e,_⟩:=x;exact⟨_,e⟩
 |dT kvs=>obtain⟨_,_,_,_,o,_,_,e,_⟩:=x;exact⟨_,e⟩
 |set S n=>obtain⟨o,_,_,_,e,_⟩:=x;exact⟨_,e⟩
 |ins C dx fs=>obtain⟨_,_,_,e,_⟩:=x;exact⟨_,e⟩
 |own y=>obtain⟨_,e⟩:=x;exact⟨_,e⟩
 |xd fs=>obtain⟨_,⟨_,_,_,e,_⟩,_⟩:=x;exact⟨_,e⟩
 |rng lo hi=>obtain⟨_,_,_,e⟩:=x;exact⟨_,e⟩
 |frz ob u=>obtain⟨e,_⟩:=x;exact⟨_,e⟩
 |tbl ps=>exact⟨_,x⟩
 |met f y=>exact⟨_,x⟩
 |ext φ=>obtain⟨_,⟨_,e⟩,_⟩:=x;exact⟨_,e⟩
theorem HOk.none_of (x:HOk P w H h)(e:h.get? a=none):H a=none:=by
 cases q:H a with
 |none=>rfl
 |some o=>obtain⟨u,eu⟩:=(x a o q).there;rw[e] at eu;cases eu
end
section
variable {X:Cx}{pins:List (Addr×Obj)}{σ:St}{H:Hp}{s:Shared}
theorem Inv.frame_data (I:Inv X pins σ H s){b:Addr}(hb:b∈frs X.stack):∃o,s.heap.get? b=some o/\∀vs,o.data≠ .fields vs:=(I.stack.mem hb).2
theorem Inv.noted {h5:Heap}{as:List Addr}(I:Inv X pins σ H s)(up:s.heap.UpToSlots h5)(keep:∀b o,s.heap.get? b=some o->b∉as->b∉frs X.stack->h5.get? b=some o)
  (hf:∀b∈as,∀o,s.heap.get? b=some o->∃vs,o.data= .fields vs)(h0:∀b∈as,X.s₀.heap.get? b=none)(hH:∀b∈as,H b=none)(hp:∀b∈as,∀p∈X.pn++pins,p.1≠b):Inv X pins σ H {s with heap:=h5}:=by
 have n0:∀b o,X.s₀.heap.get? b=some o->b∉as:=fun b o e hb=>by rw[h0 b hb] at e;cases e
 have nl:∀b o,X.s₀.heap.get? b=some o->b∉X.fs->b∉frs X.stack:=fun b o e hb hs=>by
  rcases zJ.mp (I.stkSub b hs) with z|z
  ·rw [z] at e
   exact absurd (zD e) (Nat.not_lt.mpr I.ok.above)
  ·exact hb z
 obtain⟨m,hn,hl⟩:=id I.loc
 refine⟨I.ok,I.os,I.bare,⟨fun b o e n hb hx=>?_,fun b o e n hb hx=>?_,I.base.free,fun b o e hx=>?_,I.base.tups,I.base.frzs,I.base.tbls⟩,⟨m,up.ns hn,fun i x v e1 e2 e3=>?_⟩,fun x c e=>?_,I.free,I.freeC,fun p hpp=>?_,fun b ob e=>?_,I.len⟩
 ·exact keep b o (I.base.keep b o e n hb hx) (n0 b o e) (nl b o e hb)
 ·obtain ⟨sl,e1⟩:=I.base.slot b o e n hb hx
  have hbs:b∈frs X.stack:=by
   rcases I.ok.stk with z|⟨z,_⟩
   ·rw [z];exact hb
   ·rw [z]
    obtain⟨env',h1,h2⟩:=zbe.mp hb
    exact zbe.mpr ⟨env',zF _ h1,h2⟩
  obtain⟨o2,e2,d2⟩:=I.frame_data hbs
  rw[e1] at e2
  cases e2
  obtain⟨sl2,e3⟩:=up b _ e1 d2
  exact⟨sl2,e3⟩
 ·obtain ⟨o',e1⟩:=I.base.there b o e hx
  by_cases hb:b∈frs X.stack
  ·obtain ⟨o2,e2,d2⟩:=I.frame_data hb
   obtain⟨sl2,e3⟩:=up b _ e2 d2
   exact⟨_,e3⟩
  ·exact ⟨_,keep b _ e1 (n0 b o e) hb⟩
 ·obtain ⟨u,r,l⟩:=hl i x v e1 e2 e3
  refine⟨u,r,?_⟩
  rcases l with l|⟨k1,c,k2,oc,k3,k4⟩
  ·exact .inl l
  ·obtain ⟨sl,k5⟩:=up c oc k3 (by intro vs z;rw[k4] at z;cases z)
   exact .inr ⟨k1,c,k2,_,k5,k4⟩
 ·obtain ⟨v,oc,k3,k4⟩:=I.cell x c e
  obtain⟨sl,k5⟩:=up c oc k3 (by intro vs z;rw[k4] at z;cases z)
  exact⟨v,_,k5,k4⟩
 ·obtain ⟨e,n,ne,nf,d⟩:=I.pin p hpp
  refine⟨keep _ _ e (fun hb=>hp _ hb p hpp rfl) (fun hb=>?_),n,ne,nf,d⟩
  rcases zJ.mp (I.stkSub _ hb) with z|z
  ·exact ne z
  ·exact nf z
 ·refine (I.hok b ob e).stay (fun c u hc q=>keep c u q (fun hb=>?_) (fun hb=>?_)) (fun _ q=>q) fun _ _ q=>q
  ·have:=hH c hb
   rcases hc with rfl|hc
   ·rw [this] at e;cases e
   ·rw [this] at hc;cases hc
  ·have:=I.stkFree c hb
   rcases hc with rfl|hc
   ·rw [this] at e;cases e
   ·rw [this] at hc;cases hc
end
structure Fly (h0:Heap)(a:Addr)(cls:Value)(od:Option Addr)(H:Hp)(h:Heap):Prop where
 ex:∃oe vs T oT ts a0,h.get? a=some oe/\(oe.cls=cls/\vs[0]? =some a0)/\oe.data= .fields vs/\vs[1]? =some (.ref T)/\T≠a/\h.get? T=some oT/\oT.data= .fields ts/\ts[3]? =some .none/\h0.get? T=none/\H T=none
 new:h0.get? a=none
 free:H a=none
 dict:q1V h a od
def CXf (P:Program)(w:World):CXT:=fun outer H s E e s'=>∃a cls od H',e= .ref a/\s'.os=s.os/\AllBare s'.gens/\Un (frs outer) [] H H' s.heap s'.heap/\HOk P w H' s'.heap/\Fly s.heap a cls od H' s'.heap/\E cls od H'
section
variable {X:Cx}{pins:List (Addr×Obj)}{σ:St}{H H':Hp}{s s':Shared}{E:XK}
theorem q8A (l:List Env):∀env∈l,∀a,env.frame=some a->a∈frs l:=fun env he a ha=>zbe.mpr ⟨env,he,ha⟩
theorem Inv.zero (I:Inv X pins σ H s){b:Addr}(e:s.heap.get? b=none)(hx:X.ex=[]):X.s₀.heap.get? b=none:=by
 cases q:X.s₀.heap.get? b with
 |none=>rfl
 |some o=>obtain⟨o',e'⟩:=I.base.there b o q (by rw[hx];simp);rw[e] at e';cases e'
end
section
variable {P:Program}{w:World}{K:W.Frag}{mg:Str->Option Value}{base:Heap}{N:List Str}{qual:Str}{scope:Scope}{f:Addr}{cd:Value}{A:Around}{outer:List Env}{s0:Shared}{H0:Hp}{E:XK}
theorem q5f {pins:List (Addr×Obj)}{σ:St}{H:Hp}{s:Shared}{e:Addr}{oe:Obj}{vs:Array Value}{a0:Value}(I:Inv (cxOf (CXf P w) P w K mg base N qual scope f cd A outer s0 H0 E) pins σ H s)
  (he:s.heap.get? e=some oe)(hd:oe.data= .fields vs)(h1:vs[1]? =some .none)(h0:vs[0]? =some a0)(hcx:oe.dict=none->vs[2]? =some .none)(new:s0.heap.get? e=none)(free:H e=none)(hpn:∀p∈(cxOf (CXf P w) P w K mg base N qual scope f cd A outer s0 H0 E).pn++pins,p.1≠e)(hE:E oe.cls oe.dict H):
  (cxOf (CXf P w) P w K mg base N qual scope f cd A outer s0 H0 E).xe (.ref e) s:=by
 have st:(PySem.W.hideAll s.heap (e::frs (envOfC qual scope s0.heap.objs.size f cd::outer))).StaysIn s.heap:=fun b o q=>zbt _ q
 show wpAny _ _ (leaving _ (.ref e)) _ _ _
 refine q9C (base:=PySem.W.hideAll s.heap (e::frs (envOfC qual scope s0.heap.objs.size f cd::outer))) I.ok.frames rfl st (zbF I.stack (fun env he b hb=>zF _ (q8A _ env he b hb))) he (zaS _ zam) hd h1 h0 hcx fun h2 fl D2 up=>?_
 obtain⟨f1,f2,f3,oe',vs',T,oT,ts,k1,k2,k3,k4,k5,k6,k7,k8,k9⟩:=fl
 have keep:∀b o,s.heap.get? b=some o->b∉([e]:List Addr)->b∉frs (envOfC qual scope s0.heap.objs.size f cd::outer)->h2.get? b=some o:=fun b o q hb hc=>f1 b o (zaO _ q fun z=>by
  rcases zJ.mp z with z|z
  ·exact hb (by rw[z];simp)
  ·exact hc z)
 have one:∀{p:Addr->Prop},p e->∀b∈([e]:List Addr),p b:=fun h1 b hb=>by rw[zL.mp hb];exact h1
 have J:=I.noted (as:=[e]) up keep (one fun o q=>by rw[he] at q;cases q;exact⟨_,hd⟩) (one new) (one free) (one fun p hp=>hpn p hp)
 have hT:s.heap.get? T=none:=by
  cases q:s.heap.get? T with
  |none=>rfl
  |some o=>
   by_cases hb:T∈frs (envOfC qual scope s0.heap.objs.size f cd::outer)
   ·obtain ⟨o2,e2,d2⟩:=I.frame_data hb
    obtain⟨sl,e3⟩:=up T o2 e2 d2
    rw[k7] at e3
    cases e3
    exact absurd k8 (d2 ts)
   ·have:=zaO (l:=e::frs (envOfC qual scope s0.heap.objs.size f cd::outer)) q (fun z=>by
     rcases zJ.mp z with z|z
     ·exact k6 z
     ·exact hb z)
    rw[k5] at this;cases this
 exact⟨e,oe.cls,oe.dict,H,rfl,J.os,J.bare,J.base,J.hok,⟨⟨oe',vs',T,oT,ts,_,k1,k2,k3,k4,k6,k7,k8,k9,I.zero hT rfl,I.hok.none_of hT⟩,new,free,D2⟩,hE⟩
theorem q9c {pins:List (Addr×Obj)}{σ:St}{H:Hp}{s:Shared}{h':Heap}{e:Addr}{cls:Value}{args:List Value}(I:Inv (cxOf (CXf P w) P w K mg base N qual scope f cd A outer s0 H0 E) pins σ H s)
  (hx:Heap.MadeExcOf s.heap h' e cls args)(hE:E cls none H):(cxOf (CXf P w) P w K mg base N qual scope f cd A outer s0 H0 E).xe (.ref e) {s with heap:=h'}:=by
 obtain⟨t,ht,_⟩:=hx.there
 exact q5f (I.kept (t':=s.toks) hx.keeps) ht rfl rfl rfl (fun _=>rfl) (I.zero hx.new rfl) (I.hok.none_of hx.new) (fun p hp z=>by have:=(I.pin p hp).1;rw[z,hx.new] at this;cases this) hE
theorem qS:q2R (CXf P w) (cxOf (CXf P w) P w K mg base N qual scope f cd A outer s0 H0 E) E:=by
 intro pins σ H s e s' I h
 obtain⟨a,cls,od,H',rfl,os,bare,un,hok,fly,hE⟩:=h
 have J:Inv (cxOf (CXf P w) P w K mg base N qual scope f cd A outer s0 H0 E) pins σ H' s':=I.call' os un hok bare fun b z=>absurd z (by simp)
 obtain⟨oe,vs,T,oT,ts,a0,k1,k2,k3,k4,k6,k7,k8,k9,hT0,hTH⟩:=fly.ex
 have st:(PySem.W.hideAll s'.heap (a::T::frs (envOfC qual scope s0.heap.objs.size f cd::outer))).StaysIn s'.heap:=fun b o q=>zbt _ q
 show wpAny _ _ (leaving _ (.ref a)) _ _ _
 refine qbz (base:=PySem.W.hideAll s'.heap (a::T::frs (envOfC qual scope s0.heap.objs.size f cd::outer))) I.ok.frames rfl (cls:=cls) (a0:=a0)
  ⟨st,zaS _ zam,zbF J.stack (fun env he b hb=>zF _ (zF _ (q8A _ env he b hb))),oe,vs,T,oT,ts,k1,k2,k3,k4,zaS _ (zF _ zam),k6,k7,k8,k9⟩ fly.dict fun h2 fl D2 up=>?_
 obtain⟨f1,f2,f3,oe2,vs2,T2,oT2,ts2,j1,j2,j3,j4,j5,j6,j7,j8,j9⟩:=fl
 have keep:∀b o,s'.heap.get? b=some o->b∉([a,T]:List Addr)->b∉frs (envOfC qual scope s0.heap.objs.size f cd::outer)->h2.get? b=some o:=fun b o q hb hc=>f1 b o (zaO _ q fun z=>by
  rcases zJ.mp z with z|z
  ·exact hb (by rw[z];simp)
  ·rcases zJ.mp z with z|z
   ·exact hb (by rw[z];simp)
   ·exact hc z)
 have two:∀{p:Addr->Prop},p a->p T->∀b∈([a,T]:List Addr),p b:=fun h1 h2 b hb=>by
  rcases zJ.mp hb with rfl|hb
  ·exact h1
  ·rw [zL.mp hb];exact h2
 have Z:=J.noted (as:=[a,T]) up keep (two (fun o q=>by rw[k1] at q;cases q;exact⟨_,k3⟩) (fun o q=>by rw[k7] at q;cases q;exact⟨_,k8⟩)) (two (I.zero fly.new rfl) (I.zero hT0 rfl)) (two fly.free hTH)
  (two (fun p hp z=>by have:=(I.pin p hp).1;rw[z,fly.new] at this;cases this) (fun p hp z=>by have:=(I.pin p hp).1;rw[z,hT0] at this;cases this))
 have hT2:s0.heap.get? T2=none/\H' T2=none:=by
  by_cases eT:T2=T
  ·rw [eT];exact⟨I.zero hT0 rfl,hTH⟩
  have hn:s'.heap.get? T2=none:=by
   cases q:s'.heap.get? T2 with
   |none=>rfl
   |some o=>
    by_cases hb:T2∈frs (envOfC qual scope s0.heap.objs.size f cd::outer)
    ·obtain ⟨o2,e2,d2⟩:=J.frame_data hb
     obtain⟨sl,e3⟩:=up T2 o2 e2 d2
     rw[j7] at e3
     cases e3
     exact absurd j8 (d2 ts2)
    ·have:=zaO (l:=a::T::frs (envOfC qual scope s0.heap.objs.size f cd::outer)) q (fun z=>by
      rcases zJ.mp z with z|z
      ·exact j6 z
      ·rcases zJ.mp z with z|z
       ·exact eT z
       ·exact hb z)
     rw[j5] at this;cases this
  exact⟨J.zero hn rfl,J.hok.none_of hn⟩
 exact⟨a,cls,od,H',rfl,Z.os,Z.bare,Z.base,Z.hok,⟨⟨oe2,vs2,T2,oT2,ts2,a0,j1,j2,j3,j4,j6,j7,j8,j9,hT2.1,hT2.2⟩,I.zero fly.new rfl,fly.free,D2⟩,hE⟩
end
theorem q8F {K:W.Frag}{h:Heap}{C:Addr}{bmB:List Value}{newId:String}(X:K.In h)(q:PySem.W.excIn K C bmB newId=true):
  ∃bm N nm qn bs hd sn sub ab col dd k0 k1 k2 k3 k5 mN,h.get? C=some (excClassObj nm qn C N bs bm hd sn sub ab col dd k0 k1 k2 k3 k5 newId)/\h.Ns N mN/\mN "__init__"=none/\OwnTail h bmB bm:=by
 unfold PySem.W.excIn at q
 split at q
 case h_2=>cases q
 case h_1 dd cd sl ho=>
  split at q
  case h_2=>cases q
  case h_1 C' bm k0 k1 k2 k3 n k5 hm hs=>
   rw[zS,zS,zS,zS,zS] at q
   obtain⟨⟨⟨⟨⟨q1,q2⟩,q3⟩,q4⟩,q5⟩,q6⟩:=q
   have e1:C'=C:=by simpa using q1
   have e2:n=newId:=by simpa using q2
   have e3:cd.hasDel=false:=by simpa using q3
   have e6:PySem.W.nsIn K cd.ns "__init__"=some none:=by simpa using q6
   obtain⟨a1,a2,a3,a4,a5,a6,a7,a8,a9,a10,a11⟩:=cd
   dsimp only at hm e3 e6 q4 q5
   have esl:sl= #[k0,k1,k2,k3,some (.builtin n),k5]:=by
    cases sl
    rename_i l
    dsimp only at hs
    rw[hs]
   subst e1 e2 esl hm e3
   exact⟨bm,a4,a1,a5,a2,a6,a7,a8,a9,a10,dd,k0,k1,k2,k3,k5,_,X _ _ ho,.of_isNs (PySem.W.isNs_of_in X q5),PySem.W.nsMap_none_of_in X q5 e6,PySem.W.tail_of_in X q4⟩
structure ExcC (K:W.Frag)(C:Addr):Prop where
 ex:∃(newId initId:String) (bmB:List Value),ExcBaseFacts "ValueError" newId initId bmB/\PySem.W.excIn K C bmB newId=true/\bmB.contains (.type "BaseException")=true
def qar (X:Cx)(E:XK):Prop:=∀(pins:List (Addr×Obj)) (σ:St) (H:Hp) (s:Shared) (h':Heap) (e:Addr) (cls:Value) (args:List Value),Inv X pins σ H s->Heap.MadeExcOf s.heap h' e cls args->E cls none H->X.xe (.ref e) {s with heap:=h'}
def q9Y (C:Addr)(E:XK)(t:TA):TS:=fun _ σ H=>t σ H fun vs H1=>vs.length<=sizeLine/\E (.ref C) none H1
section
variable {X:Cx}{E:XK}{x:Str}{C:Addr}{e:Expr}{es:List Expr}{t:TA}{np cpos pos:Pos}
theorem q1m (hR:qar X E)(hc:X.calm=true)(hg:Gl X x)(hm:X.mg x=some (.ref C))(q:ExcC X.K C)(ha:PA X (e::es) t)(hd:(x==("__debug__":Str))=false:=by decide)
  (he:starEach (e::es) X.env=(false,eval e X.env)::starEach es X.env:=by rfl)(hpl:(backTo cpos (starEach (e::es) X.env)).any (·.1)=false:=by rfl):PS X (.Raise (some (.Call (.Name x np) (e::es) [] cpos)) none pos) (q9Y C E t):=by
 intro pins s σ H D I h
 obtain⟨newId,initId,bmB,F,qi,hb⟩:=q.ex
 obtain⟨bm,N,nm,qn,bs,hdd,sn,sub,ab,col,dd,k0,k1,k2,k3,k5,mN,hC,hN,hni,TL⟩:=q8F I.ok.mod.kin qi
 refine wpAny_Raise_call_subT (C:=C) (nm:=nm) (q:=qn) (N:=N) (bs:=bs) (bm:=bm) (hdct:=hdd) (sn:=sn) (sub:=sub) (ab:=ab) (col:=col) (dd:=dd) (k0:=k0) (k1:=k1) (k2:=k2) (k3:=k3) (k5:=k5) (mN:=mN) F (TL.hasType hb) (I.ok.hd hc) hpl hni (q1g I hg hm ⟨rfl,?_⟩ hd)
 have hq:=ha cpos pins s σ H _ I h
 rw[he] at hq ⊢
 refine zbS (thn hq fun us s1 ⟨vs,H1,I1,r,hl,hE⟩=>?_)
 exact⟨rfl,by rw[<-r.length];exact hl,I1.bk _ _ hC,hN.keeps I1.bk,TL.keeps I1.bk,fun h' ex hx=>hR pins σ H1 s1 h' ex _ _ I1 hx hE⟩
end
structure FlyX (X:Cx)(pins:List (Addr×Obj))(a:Addr)(cls:Value)(od:Option Addr)(H:Hp)(h:Heap):Prop where
 ex:∃oe vs T oT ts a0,h.get? a=some oe/\(oe.cls=cls/\vs[0]? =some a0)/\oe.data= .fields vs/\vs[1]? =some (.ref T)/\T≠a/\h.get? T=some oT/\oT.data= .fields ts/\ts[3]? =some .none/\X.s₀.heap.get? T=none/\H T=none/\∀p∈X.pn++pins,p.1≠T
 new:X.s₀.heap.get? a=none
 free:H a=none
 pn:∀p∈X.pn++pins,p.1≠a
 dict:q1V h a od
def XP (X:Cx)(pins:List (Addr×Obj))(σ:St)(Ex:Value->Option Addr->Hp->Prop)(e:Value)(s':Shared):Prop:=∃a cls od H',e= .ref a/\Inv X pins σ H' s'/\FlyX X pins a cls od H' s'.heap/\Ex cls od H'
theorem xp_of {X:Cx}{pins:List (Addr×Obj)}{σ:St}{H:Hp}{s s':Shared}{E:XK}{e:Value}(I:Inv X pins σ H s)(hx:X.ex=[])(h:CXf X.prog X.w X.stack H s E e s'):XP X pins σ E e s':=by
 obtain⟨a,cls,od,H',rfl,os,bare,un,hok,fly,hE⟩:=h
 have J:Inv X pins σ H' s':=I.call' os un hok bare fun b z=>absurd z (by simp)
 obtain⟨oe,vs,T,oT,ts,a0,k1,k2,k3,k4,k6,k7,k8,k9,hT0,hTH⟩:=fly.ex
 exact⟨a,cls,od,H',rfl,J,⟨⟨oe,vs,T,oT,ts,a0,k1,k2,k3,k4,k6,k7,k8,k9,I.zero hT0 hx,hTH,fun p hp z=>by have:=(I.pin p hp).1;rw[z,hT0] at this;cases this⟩,I.zero fly.new hx,fly.free,(fun p hp z=>by have:=(I.pin p hp).1;rw[z,fly.new] at this;cases this),fly.dict⟩,hE⟩
abbrev TEx:=St->Hp->VK->(Value->Option Addr->Hp->Prop)->Prop
def PEx (X:Cx)(e:Expr)(t:TEx):Prop:=
 ∀(pins:List (Addr×Obj)) (s:Shared) (σ:St) (H:Hp) (Q:VK) (Ex:Value->Option Addr->Hp->Prop),Inv X pins σ H s->t σ H Q Ex->wpAny (model X.prog X.w) X.A (eval e X.env) (EP X pins σ Q) (XP X pins σ Ex) s
abbrev TSx:=Ends->(St->Value->Option Addr->Hp->Prop)->St->Hp->Prop
def XS (X:Cx)(pins:List (Addr×Obj))(Ex:St->Value->Option Addr->Hp->Prop)(e:Value)(s':Shared):Prop:=∃σ,XP X pins σ (Ex σ) e s'
def PSx (X:Cx)(st:Stmt)(t:TSx):Prop:=
 ∀(pins:List (Addr×Obj)) (s:Shared) (σ:St) (H:Hp) (D:Ends) (Ex:St->Value->Option Addr->Hp->Prop),Inv X pins σ H s->t D Ex σ H->wpAny (model X.prog X.w) X.A (exec st X.env) (SP X pins D) (XS X pins Ex) s
def PSsx (X:Cx)(st:List Stmt)(t:TSx):Prop:=
 ∀(pins:List (Addr×Obj)) (s:Shared) (σ:St) (H:Hp) (D:Ends) (Ex:St->Value->Option Addr->Hp->Prop),Inv X pins σ H s->t D Ex σ H->wpAny (model X.prog X.w) X.A (execs st X.env) (SP X pins D) (XS X pins Ex) s
def qaw (sp:Sp)(dvs:List V)(t:TA):TEx:=fun σ H Q Ex=>t σ H fun vs H1=>sp (vs++dvs) H1 Q Ex
def xSet (i:Nat)(te:TEx):TSx:=fun D Ex σ H=>te σ H (fun v H1=>D.nx (σ.set i (some v)) H1) (Ex σ)
section
variable {X:Cx}{k:Nat}{f:Addr}{fd:FuncData}{ps:List Str}{sp:Sp}{dvs:List V}{ds:List Value}{x:Str}{p pos:Pos}{e:Expr}{es:List Expr}{t:TA}
theorem qaL {pins:List (Addr×Obj)}{σ:St}{H:Hp}{s:Shared}{Q:VK}{E:XK}{us:List Value}{vs:List V}(F:FnOk X.prog X.w X.K X.mg X.base (CXf X.prog X.w) k f fd ps sp)(hr:Room k X.A)(hb:q1h X.K fd ps ds)(hd:Vals dvs ds)(hx:X.ex=[])
  (I:Inv X pins σ H s)(r:Vals vs us)(h:sp (vs++dvs) H Q E):wpAny (model X.prog X.w) X.A (call (.ref f) us) (EP X pins σ Q) (XP X pins σ E) s:=by
 have r2:Vals (vs++dvs) (us++ds):=r.append hd
 have hl:(us++ds).length=ps.length:=by rw[<-r2.length];exact F.len _ _ _ _ h
 refine zbf (zbk (F.run X.A X.stack s H ⟨us,[]⟩ (us++ds) (vs++dvs) Q E hr I.env0 (hb s us I.kIn hl) r2 h) fun r s' hq=>?_)
 cases r with
 |error e=>exact xp_of I hx hq
 |ok fl=>
  cases fl with
  |ret u=>exact I.after hq
  |next=>exact False.elim hq
  |brk=>exact False.elim hq
  |cont=>exact False.elim hq
theorem q9m (F:FnOk X.prog X.w X.K X.mg X.base (CXf X.prog X.w) k f fd ps sp)(hr:Room k X.A)(hg:Gl X x)(hm:X.mg x=some (.ref f))(hk:PySem.W.keepIn X.K (.ref f)=true)(hb:q1h X.K fd ps ds)(hd:Vals dvs ds)(hx:X.ex=[])
  (ha:PA X.nox (e::es) t)(hdb:(x==("__debug__":Str))=false:=by decide)(he:starEach (e::es) X.env=(false,eval e X.env)::starEach es X.env:=by rfl)(hpl:(backTo pos (starEach es X.env)).any (·.1)=false:=by rfl):
  PEx X (.Call (.Name x p) (e::es) [] pos) (qaw sp dvs t):=by
 intro pins s σ H Q Ex I h
 refine zaH (q1g I hg hm ?_ hdb)
 refine za0 (h₀:=X.base) I.ok.mod.kin hk (zZ (ha pos pins s σ H _ (I.wish _) h) (fun us s1 ⟨vs,H1,I1,r,q⟩=>⟨I1.kIn,?_⟩) fun _ _ z=>False.elim z) he hpl
 exact qaL F hr hb hd hx I1.unwish r q
theorem q7O {i:Nat}{te:TEx}{pos':Pos}(hN:X.N.Nodup)(hi:X.N[i]? =some x)(hx:Loc X.env.scope x)(he:PEx X e te)(hs:swapsWith e (some (.Name x pos')) pos.line X.env=pure false:=by rfl)(hf:X.fn x=true\/X.env.scope.names.lookup x=some .local:=by first|exact .inl rfl|exact .inr rfl|assumption):
  PSx X (.Assign [.Name x pos'] e pos) (xSet i te):=by
 intro pins s σ H D Ex I h
 refine wpAny_Assign_Name (zZ (he pins s σ H _ _ I h) (fun v s1 ⟨y,H1,I1,r1,q1⟩=>?_) fun _ _ z=>⟨σ,z⟩) hs
 exact q3j I1 hN hi hx r1 (fun s2 I2=>⟨_,H1,I2,q1⟩) hf
theorem q6j {st:Stmt}{t:TSx}(h1:PSx X st t):PSsx X [st] t:=by
 intro pins s σ H D Ex I h
 refine zbH (thn (h1 pins s σ H D Ex I h) fun f s1 q=>?_)
 cases f with
 |next=>exact zbq q
 |ret v=>exact q
 |brk=>exact q
 |cont=>exact q
end
abbrev Cx.marked (X:Cx)(v:Value):Cx:={X with A:=X.A.mark (some v),calm:=false,xe:=fun _ _=>False}
section
variable {X:Cx}{pins:List (Addr×Obj)}{σ:St}{H:Hp}{s:Shared}{v:Value}
theorem Cx.Ok.marked (ok:X.Ok)(v:Value):(X.marked v).Ok:=
 ⟨ok.mod,ok.kind,ok.glob,ok.blt,ok.above,ok.inj,ok.has,ok.cab,fun z=>Bool.noConfusion z,ok.frames,ok.stk,ok.exf,ok.bs,ok.bsz,ok.noex,ok.exfs,ok.funs,ok.frf⟩
theorem Inv.marked (I:Inv X pins σ H s)(v:Value):Inv (X.marked v) pins σ H s:=⟨I.ok.marked v,I.os,I.bare,I.base,I.loc,I.cell,I.free,I.freeC,I.pin,I.hok,I.len⟩
theorem Inv.unmarked (ok:X.Ok)(I:Inv (X.marked v) pins σ H s):Inv X pins σ H s:=⟨ok,I.os,I.bare,I.base,I.loc,I.cell,I.free,I.freeC,I.pin,I.hok,I.len⟩
theorem SP.unmarked {D:Ends}{f:Flow}{s':Shared}(ok:X.Ok)(h:SP (X.marked v) pins D f s'):SP X pins D f s':=by
 cases f with
 |next=>obtain⟨σ',H',I,q⟩:=h;exact⟨σ',H',I.unmarked ok,q⟩
 |brk=>obtain⟨σ',H',I,q⟩:=h;exact⟨σ',H',I.unmarked ok,q⟩
 |cont=>obtain⟨σ',H',I,q⟩:=h;exact⟨σ',H',I.unmarked ok,q⟩
 |ret u=>obtain⟨v,σ',H',I,r,q⟩:=h;exact⟨v,σ',H',I.unmarked ok,r,q⟩
end
def q2l:List TE->Nat->TE
 |[],n=>fun _ H Q=>∀z:Str,z.length=n->Q (.str z) H
 |t::ts,n=>fun σ H Q=>t σ H fun x H1=>∃z:Str,x= .str z/\n+z.length<=sizeLine/\q2l ts (n+z.length) σ H1 Q
section
variable {X:Cx}{pos:Pos}{e:Expr}{te:TE}
theorem q8r:∀{es:List Expr} {ts:List TE},Paired (PE X) es ts->∀(acc:Str) (pins:List (Addr×Obj)) (s:Shared) (σ:St) (H:Hp) (Q:VK),acc.length<=sizeLine->Inv X pins σ H s->q2l ts acc.length σ H Q->wpAny (model X.prog X.w) X.A (joinParts acc (evalEach es X.env)) (EP X pins σ Q) X.xe s
 |_,_,.nil,acc,pins,s,σ,H,Q,hz,I,h=>joinParts_nilE (joinParts_nil ⟨.str acc,H,I.tok _,⟨_,rfl⟩,h acc rfl⟩ hz)
 |_,_,.cons p r,acc,pins,s,σ,H,Q,hz,I,h=>by
  refine joinParts_consE (joinParts_cons (thn (p pins s σ H _ I h) fun v s1 ⟨x,H1,I1,rx,z,ez,hl,q⟩=>?_))
  subst ez
  obtain⟨t,rfl⟩:=rx
  have el:(acc++z).length=acc.length+z.length:=q5U acc z
  exact⟨by rw[el];exact hl,q8r r (acc++z) pins s1 σ H1 Q (by rw[el];exact hl) I1 (by rw[el];exact q)⟩
theorem q8I:Str.empty.length=0:=by decide
theorem q1v {a b:Expr}{es:List Expr}{ts:List TE}(h:Paired (PE X) (a::b::es) ts):PE X (.JoinedStr (a::b::es) pos) (q2l ts 0):=by
 intro pins s σ H Q I hw
 refine JoinedStr_many (q8r h Str.empty pins s σ H Q (by decide) I ?_)
 rw[q8I]
 exact hw
def tFm (te:TE):TE:=fun σ H Q=>te σ H fun x H1=>(∃i,x= .int i/\i.natAbs.log2<1920/\∀z:Str,z.length<=1921->Q (.str z) H1)\/∃y:Str,x= .str y/\y.length<=sizeLine/\Q (.str y) H1
theorem q3g (he:PE X e te):PE X (.FormattedValue e (-1) none pos) (tFm te):=by
 intro pins s σ H Q I h
 refine FormattedValue_plain (thn (he pins s σ H _ I h) fun v s1 ⟨x,H1,I1,rx,q⟩=>?_)
 rcases q with⟨i,rfl,hi,q⟩|⟨y,rfl,hy,q⟩
 ·obtain ⟨t,rfl⟩:=rx
  exact formatField_int_small hi ⟨.str _,H1,I1.tok _,⟨_,rfl⟩,q _ (q5W hi)⟩
 ·obtain ⟨t,rfl⟩:=rx
  exact formatField_str (fun t' tk=>⟨.str y,H1,I1.tok _,⟨_,rfl⟩,q⟩) hy
def tFr (te:TE):TE:=fun σ H Q=>te σ H fun x H1=>∃i,x= .int i/\i.natAbs.log2<1920/\∀z:Str,z.length<=1921->Q (.str z) H1
theorem pe_fr (he:PE X e te):PE X (.FormattedValue e 114 none pos) (tFr te):=by
 intro pins s σ H Q I h
 refine zbs (thn (he pins s σ H _ I h) fun v s1 ⟨x,H1,I1,rx,i,ei,hi,q⟩=>?_)
 subst ei
 obtain⟨t,rfl⟩:=rx
 refine pyReprObj_int hi (formatField_str (fun t' tk=>⟨.str _,H1,I1.tok _,⟨_,rfl⟩,q _ (q5W hi)⟩) (int_text_fits hi))
end
def q9T:V->Prop
 | .int i=>i.natAbs.log2<1920
 | .str y=>(reprText y).length<=2000
 | .bl _=>True
 | .non=>True
 |_=>False
theorem q7x {h:Heap}{x:V}{u:Value}(r:RelV x u)(hx:q9T x):∃d,Reads h u d []/\d.showable=true/\d.hasDict=false/\d.shown.length<=2000/\d.depth=0:=by
 cases x with
 |non=>cases r;exact⟨.none,.none,rfl,rfl,by walk_at "k",rfl⟩
 |bl b=>cases r;exact⟨.bool b,.bool b,rfl,rfl,by cases b<;>walk_at "k",rfl⟩
 |int i=>
  obtain⟨t,rfl⟩:=r
  exact⟨.int i,.int i t,by simp[PyData.showable];exact hx,rfl,by have:=q5W hx;show(Str.ofString (toString i)).length<=2000;omega,rfl⟩
 |str y=>
  obtain⟨t,rfl⟩:=r
  exact⟨.str y,.str y t,rfl,rfl,hx,rfl⟩
 |byt b=>exact hx.elim
 |flt b=>exact hx.elim
 |ref a=>exact hx.elim
 |ty n=>exact hx.elim
theorem q52 {h:Heap}:∀{xs:List V} {us:List Value},Vals xs us->(∀x∈xs,q9T x)->∃ds,ReadsAll h us ds []/\PyData.showableAll ds=true/\PyData.hasDictAll ds=false/\piled (PyData.shownAll ds)<=2002*xs.length/\(PyData.shownAll ds).length=xs.length/\PyData.depthAll ds=0
 |_,_,.nil,_=>⟨[],.nil,rfl,rfl,by simp[PyData.shownAll,piled],rfl,rfl⟩
 |_,_,.cons (a:=x) r t,hx=>by
  obtain⟨d,k1,k2,k3,k4,k5⟩:=q7x (h:=h) r (hx x zam)
  obtain⟨ds,j1,j2,j3,j4,j5,j6⟩:=q52 (h:=h) t fun y hy=>hx y (zF _ hy)
  refine⟨d::ds,ReadsAll.cons k1 j1,?_,?_,?_,?_,?_⟩
  ·show (d.showable&&PyData.showableAll ds)=true
   rw[k2,j2];rfl
  ·show (d.hasDict||PyData.hasDictAll ds)=false
   rw[k3,j3];rfl
  ·show piled (d.shown::PyData.shownAll ds)<=_
   rw[piled_cons,zaf]
   omega
  ·show (d.shown::PyData.shownAll ds).length=_
   rw[zaf,j5,zaf]
  ·show max d.depth (PyData.depthAll ds)=0
   rw[k5,j6];rfl
theorem q4h {ts:List Str}:(tupleText ts).length<=piled ts+4:=by
 unfold tupleText
 rw[q5U,q5U]
 have h1:((("(":String):Str)).length=1:=by walk_at "k"
 have h2:∀b:Bool,((((if b=true then ",)" else ")"):String):Str)).length<=2:=by intro b;cases b<;>walk_at "k"
 have h3:=h2 (ts.length==1)
 cases ts with
 |nil=>
  have e:(Str.join ((", ":String):Str) []).length=0:=by walk_at "k"
  rw[e]
  omega
 |cons x r=>
  have:=join_length_add (x::r) (by simp)
  omega
section
variable {X:Cx}{pos:Pos}{e:Expr}{te:TE}
def tFt (te:TE):TE:=fun σ H Q=>te σ H fun x H1=>∃p xs,x= .ref p/\H1 p=some (.tup xs)/\xs.length<=20/\(∀y∈xs,q9T y)/\∀z:Str,z.length<=50000->Q (.str z) H1
theorem pe_ft (hg:X.A.guards=some [])(hu:X.A.units+8<cLine)(he:PE X e te):PE X (.FormattedValue e 114 none pos) (tFt te):=by
 intro pins s σ H Q I h
 refine zbs (thn (he pins s σ H _ I h) fun v s1 ⟨x,H1,I1,rx,p,xs,ep,hp,hl,hx,q⟩=>?_)
 subst ep
 cases rx
 obtain⟨_,its,r,o,ho,hc,n,hd⟩:=(show q0j X.prog X.w H1 s1.heap p (.tup xs) from I1.hok p _ hp)
 obtain⟨ds,j1,j2,j3,j4,j5,j6⟩:=q52 (h:=s1.heap) r hx
 have big:=qC
 have hz:(PyData.shown (.tuple ds)).length<=50000:=by
  show(tupleText (PyData.shownAll ds)).length<=50000
  have:=q4h (ts:=PyData.shownAll ds)
  omega
 refine pyReprObj_of_reads (h₀:=s1.heap) (d:= .tuple ds) (as:=[]) (.tuple ho hc hd (by simpa using j1)) (by show PyData.showableAll ds=true;exact j2) (fun z=>by rw[show PyData.hasDict (.tuple ds)=PyData.hasDictAll ds from rfl,j3] at z;cases z) hg
  (by show X.A.units+(PyData.depthAll ds+1)<cLine;rw[j6];omega) (fun _ _ z=>z) (fun h' u tk hk=>?_) (by omega)
 exact formatField_str (fun t' tk'=>⟨.str _,H1,(I1.kept (t':=tk') hk),⟨_,rfl⟩,q _ hz⟩) (by omega)
end
structure Caught (X:Cx)(pins:List (Addr×Obj))(a:Addr)(cls:Value)(od:Option Addr)(σ:St)(H:Hp)(s:Shared):Prop where
 inv:Inv X pins σ H s
 fly:FlyX X pins a cls od H s.heap
section
variable {X:Cx}{pins:List (Addr×Obj)}{a:Addr}{cls:Value}{od:Option Addr}{σ:St}{H:Hp}{s:Shared}{h':Heap}
theorem Caught.opened (c:Caught X pins a cls od σ H s)(hx:X.ex=[]):∃base a0,Heap.FlyingW base X.stack a cls a0 s.heap/\∀h5,Heap.FlyingW base X.stack a cls a0 h5->q1V h5 a od->s.heap.UpToSlots h5->Caught X pins a cls od σ H {s with heap:=h5}:=by
 obtain⟨J,fl⟩:=c
 obtain⟨oe,vs,T,oT,ts',a0,j1,j2,j3,j4,j6,j7,j8,j9,hT0,hTH,hTp⟩:=fl.ex
 have st:(PySem.W.hideAll s.heap (a::T::frs X.stack)).StaysIn s.heap:=fun b o w=>zbt _ w
 have two:∀{p:Addr->Prop},p a->p T->∀b∈([a,T]:List Addr),p b:=fun h1 h2 b hb=>by
  rcases zJ.mp hb with rfl|hb
  ·exact h1
  ·rw [zL.mp hb];exact h2
 have ff:=zbF (as:=a::T::frs X.stack) J.stack (fun env he b hb=>zF _ (zF _ (q8A _ env he b hb)))
 refine⟨_,a0,⟨st,zaS _ zam,ff,oe,vs,T,oT,ts',j1,j2,j3,j4,zaS _ (zF _ zam),j6,j7,j8,j9⟩,fun h5 f D5 up=>?_⟩
 obtain⟨f1,f2,f3,oe2,vs2,T2,oT2,ts2,i1,i2,i3,i4,i5,i6,i7,i8,i9⟩:=f
 have Z:Inv X pins σ H {s with heap:=h5}:=by
  refine J.noted (as:=[a,T]) up (fun b o w hb hc=>f1 b o (zaO _ w fun y=>?_)) (two (fun o w=>by rw[j1] at w;cases w;exact⟨_,j3⟩) (fun o w=>by rw[j7] at w;cases w;exact⟨_,j8⟩)) (two fl.new hT0) (two fl.free hTH) (two fl.pn hTp)
  rcases zJ.mp y with y|y
  ·exact hb (by rw[y];simp)
  ·rcases zJ.mp y with y|y
   ·exact hb (by rw[y];simp)
   ·exact hc y
 have hT2:X.s₀.heap.get? T2=none/\H T2=none/\∀p∈X.pn++pins,p.1≠T2:=by
  by_cases eT:T2=T
  ·rw [eT];exact⟨hT0,hTH,hTp⟩
  have hn:s.heap.get? T2=none:=by
   cases q:s.heap.get? T2 with
   |none=>rfl
   |some o=>
    by_cases hb:T2∈frs X.stack
    ·obtain ⟨o2,e2,d2⟩:=J.frame_data hb
     obtain⟨sl,e3⟩:=up T2 o2 e2 d2
     rw[i7] at e3
     cases e3
     exact absurd i8 (d2 ts2)
    ·have:=zaO (l:=a::T::frs X.stack) q (fun z=>by
      rcases zJ.mp z with z|z
      ·exact i6 z
      ·rcases zJ.mp z with z|z
       ·exact eT z
       ·exact hb z)
     rw[i5] at this;cases this
  exact⟨J.zero hn hx,J.hok.none_of hn,fun p hp z=>by have:=(J.pin p hp).1;rw[z,hn] at this;cases this⟩
 exact⟨Z,⟨⟨oe2,vs2,T2,oT2,ts2,a0,i1,i2,i3,i4,i6,i7,i8,i9,hT2.1,hT2.2.1,hT2.2.2⟩,fl.new,fl.free,fl.pn,D5⟩⟩
theorem Caught.type {M:Model}(c:Caught X pins a cls od σ H s):PySem.W.Looks M s.heap (typeOf (.ref a)) cls:=by
 obtain⟨oe,vs,T,oT,ts',a0,j1,j2,_⟩:=c.fly.ex
 exact j2.1▸(zbm j1).andThen .now
end
abbrev TH:=Value->Option Addr->TS
def PH (X:Cx)(hs:List ExceptHandler)(t:TH):Prop:=
 ∀(pins:List (Addr×Obj)) (s:Shared) (σ:St) (H:Hp) (D:Ends) (a:Addr) (cls:Value) (od:Option Addr),Caught X pins a cls od σ H s->t cls od D σ H->wpAny (model X.prog X.w) X.A (handleBy (.ref a) X.env hs) (SP X pins D) X.xe s
def tTryH (tb:TSx)(th:TH):TS:=fun D σ H=>tb D (fun σ' cls od H'=>th cls od D σ' H') σ H
theorem q7P {X:Cx}{body:List Stmt}{h0:ExceptHandler}{hs:List ExceptHandler}{tb:TSx}{th:TH}{pos:Pos}(hst:X.stack=X.env::X.outer)(hfr:X.env.frame=some X.env.locals)(hx:X.ex=[])
  (hb:PSsx X body tb)(hh:PH X (h0::hs) th):PS X (.Try body (h0::hs) [] [] pos) (tTryH tb th):=by
 intro pins s σ H D I h
 refine wpAny_Try_except (zZ (hb pins s σ H D _ I h) (fun f s1 z=>?_) (fun e s1 z=>?_))
 ·cases f with
  |next=>exact zbq z
  |ret v=>exact z
  |brk=>exact z
  |cont=>exact z
 ·obtain ⟨σ',a,cls,od,H',rfl,J,fl,z⟩:=z
  obtain⟨base,a0,fly,back⟩:=(Caught.mk J fl).opened hx
  rw[hst] at fly back
  refine qae (by rw[<-hst];exact I.ok.frames) hfr fly fl.dict fun h4 held D4 up4=>?_
  refine q8l held D4 fun h5 fly5 D5 up5=>?_
  exact hh pins _ σ' H' D a cls od (back h5 fly5 D5 (up4.trans up5)) z
section
variable {X:Cx}{pins:List (Addr×Obj)}{a:Addr}{cls:Value}{od:Option Addr}{σ:St}{H:Hp}{s:Shared}
theorem Caught.track (c:Caught X pins a cls od σ H s):∃oe,oe.cls=cls/\oe.dict=od/\(∃vs,oe.data= .fields vs)/\Inv X pins σ (upd H a (.frz oe (.own a))) s:=by
 obtain⟨I,fl⟩:=c
 obtain⟨oe,vs,T,oT,ts',a0,j1,j2,j3,_⟩:=fl.ex
 have same:∀{b:Addr} {o:HO},H b=some o->upd H a (.frz oe (.own a)) b=some o:=fun {b o} e=>by
  rw[qm (fun z=>by rw[z,fl.free] at e;cases e)];exact e
 have none':∀{b:Addr},b≠a->H b=none->upd H a (.frz oe (.own a)) b=none:=fun {b} n e=>by rw[qm n];exact e
 obtain⟨m,hn,hl⟩:=id I.loc
 obtain⟨oq,q1,q2,_⟩:=fl.dict
 rw[j1] at q1
 cases q1
 refine⟨oe,j2.1,q2,⟨vs,j3⟩,⟨I.ok,I.os,I.bare,⟨I.base.keep,I.base.slot,fun b o e n hx=>none' (fun z=>by rw[z,fl.new] at e;cases e) (I.base.free b o e n hx),I.base.there,fun b xs e=>same (I.base.tups b xs e),fun b o u e=>same (I.base.frzs b o u e),fun b ps e=>?_⟩,I.loc,I.cell,none' (fun z=>?_) I.free,fun x c e=>none' (fun z=>?_) (I.freeC x c e),fun p hp=>?_,fun b o e=>?_,I.len⟩⟩
 ·obtain ⟨more,e⟩:=I.base.tbls b ps e
  exact⟨more,same e⟩
 ·obtain ⟨o,es,ep,ho,hd,_⟩:=hn
  rw[z,j1] at ho
  cases ho
  rw[j3] at hd;cases hd
 ·obtain ⟨v,oc,k3,k4⟩:=I.cell x c e
  rw[z,j1] at k3
  cases k3
  rw[j3] at k4;cases k4
 ·obtain ⟨e,n,ne,nf,d⟩:=I.pin p hp
  exact⟨e,none' (fl.pn p hp) n,ne,nf,d⟩
 ·by_cases z:b=a
  ·subst z
   rw[qh] at e
   cases e
   exact⟨j1,⟨_,j1⟩⟩
  ·rw [qm z] at e
   exact(I.hok b o e).stay (fun _ _ _ q=>q) (fun _ q=>same q) fun _ _ q=>same q
theorem Inv.gone {i:Nat}{n:Str}{h':Heap}{t':Nat}{m:Str->Option Value}{v:Option Value}(I:Inv X pins σ H s)(hN:X.N.Nodup)(hi:X.N[i]? =some n)(hn0:s.heap.Ns X.env.locals m)(hn:h'.Ns X.env.locals (fun x=>if x=n then v else m x))(hs:Heap.SameBut X.env.locals s.heap h'):
  Inv X pins (σ.set i none) H {s with heap:=h',toks:=t'}:=by
 obtain⟨m1,hn1,hl⟩:=id I.loc
 have hm:m1=m:=by
  obtain⟨o1,es1,ep1,k1,k2,_,k4⟩:=hn1
  obtain⟨o2,es2,ep2,l1,l2,_,l4⟩:=hn0
  rw[k1] at l1
  cases l1
  rw[k2] at l2
  cases l2
  exact funext fun x=>(k4 x).symm.trans (l4 x)
 subst hm
 have hiσ:i<σ.length:=by rw[I.len];exact(yA hi).1
 refine⟨I.ok,I.os,I.bare,⟨fun b o e n hb hx=>?_,fun b o e n hb hx=>?_,I.base.free,fun b o e hx=>?_,I.base.tups,I.base.frzs,I.base.tbls⟩,⟨_,hn,fun j y v' e1 e2 e3=>?_⟩,fun y c e=>?_,I.free,I.freeC,fun p hp=>?_,fun b ob e=>?_,by simpa using I.len⟩
 ·exact (hs.2 b (zP (zR (zD e) I.ok.above))).trans (I.base.keep b o e n hb hx)
 ·obtain ⟨sl,e1⟩:=I.base.slot b o e n hb hx
  exact⟨sl,(hs.2 b (zP (zR (zD e) I.ok.above))).trans e1⟩
 ·obtain ⟨o',e1⟩:=I.base.there b o e hx
  exact⟨o',(hs.2 b (zP (zR (zD e) I.ok.above))).trans e1⟩
 ·by_cases hj:j=i
  ·subst hj
   rw[zbi hiσ] at e2
   cases e2
  ·rw [zbO (Ne.symm hj)] at e2
   obtain⟨u',r',q⟩:=hl j y v' e1 e2 e3
   refine⟨u',r',?_⟩
   rcases q with⟨k,e⟩|⟨k,c,e,z⟩
   ·refine .inl ⟨k,?_⟩
    have:y≠n:=fun e=>hj (q4z hN e1 (e▸hi))
    simp[this,e]
   ·exact .inr ⟨k,c,e,z.sameBut hs (I.cne y c e)⟩
 ·obtain ⟨w',z⟩:=I.cell y c e
  exact⟨w',z.sameBut hs (I.cne y c e)⟩
 ·obtain ⟨e,n,ne,nf,d⟩:=I.pin p hp
  exact⟨(hs.2 p.1 ne).trans e,n,ne,nf,d⟩
 ·refine (I.hok b ob e).stay (fun c w' hc q=>(hs.2 c ?_).trans q) (fun _ q=>q) fun _ _ q=>q
  rintro rfl
  rcases hc with rfl|hc
  ·rw [I.free] at e;cases e
  ·rw [I.free] at hc;cases hc
end
def Ends.lose (D:Ends)(i:Nat):Ends:={nx:=fun σ H=>D.nx (σ.set i none) H,rt:=D.rt,bk:=fun σ H=>D.bk (σ.set i none) H,ct:=fun σ H=>D.ct (σ.set i none) H}
def hAs (K:W.Frag)(C:Addr)(i:Nat)(t:TS):TH:=fun cls od D σ H=>PySem.W.exmOne K cls (.ref C)=some true/\∀(a:Addr) (oe:Obj),oe.cls=cls->oe.dict=od->(∃vs,oe.data= .fields vs)->H a=none->t (D.lose i) (σ.set i (some (.ref a))) (upd H a (.frz oe (.own a)))
theorem ph_as {X:Cx}{x n:Str}{C:Addr}{i:Nat}{b0:Stmt}{suite:List Stmt}{np pos:Pos}{rest:List ExceptHandler}{t:TS}(K:W.Frag)(hx:X.ex=[])(hg:Gl X x)(hm:X.mg x=some (.ref C))(hN:X.N.Nodup)(hi:X.N[i]? =some n)(hl:X.env.scope.names.lookup n=some .local)(hk:X.env.kindOf n=some .local)
  (hs:∀v,PSs (X.marked v) (b0::suite) t)(hd:(x==("__debug__":Str))=false:=by decide)(hK:X.K=K:=by rfl):
  PH X (.ExceptHandler (some (.Name x np)) (some n) (b0::suite) pos::rest) (hAs K C i t):=by
 subst hK
 intro pins s σ H D a cls od c ⟨h1,h2⟩
 refine wpAny_handleBy_cons (codeAny_handlers_test (q1g (X:=X.marked (.ref a)) (c.inv.marked _) hg hm ?_ hd)) (by intro y;cases y)
 refine(PySem.W.exm_one c.inv.kIn c.type h1).here ?_
 refine codeAny_handlers_suite_as ?_
 obtain⟨base,a0,fly,back⟩:=c.opened hx
 refine q3f fly c.fly.dict fun h6 fly6 D6 up6=>?_
 have c6:=back h6 fly6 D6 up6
 obtain⟨oe,ho,ho2,ho3,I6⟩:=c6.track
 refine q3j (X:=X.marked (.ref a)) (I6.marked _) hN hi (.inl hl) (v:= .ref a) rfl (fun s7 I7=>?_) (.inr hl)
 refine zZ (hs (.ref a) pins s7 _ _ _ I7 (h2 a oe ho ho2 ho3 c.fly.free)) (fun f s8 y=>?_) fun _ _ y=>False.elim y
 have y:=y.unmarked c.inv.ok
 have lose:∀{σ':St} {H':Hp} {Q:Unit->Shared->Prop},Inv X pins σ' H' s8->(∀s9,Inv X pins (σ'.set i none) H' s9->Q () s9)->wpAny (model X.prog X.w) X.A (do bindName X.env n .none;unbindBehindTheSuite X.env n pos) Q X.xe s8:=fun {σ' H' Q} J q=>by
  obtain⟨m,hn,_⟩:=id J.loc
  exact wpAny_nameGoes_keeps hk hn (by rw[J.ok.kind];rfl) fun h' v hn' hs'=>q _ (J.gone hN hi hn hn' hs')
 cases f with
 |next=>obtain⟨σ',H',J,q⟩:=y;exact lose J fun s9 J9=>⟨_,_,J9,q⟩
 |brk=>obtain⟨σ',H',J,q⟩:=y;exact lose J fun s9 J9=>⟨_,_,J9,q⟩
 |cont=>obtain⟨σ',H',J,q⟩:=y;exact lose J fun s9 J9=>⟨_,_,J9,q⟩
 |ret u=>obtain⟨v,σ',H',J,r,q⟩:=y;exact lose J fun s9 J9=>⟨v,_,_,J9,r,q⟩
section
variable {K:W.Frag}
open PySem.W in
theorem qbC {M:Program}{w:World}{A:Around}{E:Value->Shared->Prop}{Q:Value->Shared->Prop}{s:Shared}{x t c:Value}(X:K.In s.heap)(LT:∀M,PySem.W.Looks M s.heap (typeOf x) t)(e:PySem.W.kitOne K t c=some true)(hx:x≠ .builtin "__main__.__loader__#opaque")(h:Q (.bool true) s):
  wpAny (model M w) A (call (.builtin "isinstance") [x,c]) Q E s:=by
 obtain⟨h0,g,d,tt,os⟩:=s
 refine call_isinstance_of ?_ hx
 have LT:=LT (model M w)
 unfold kitOne at e
 unfold Builtin.«isinstance.nested»
 refine yD (LT.at ?_)
 by_cases q:(t==c)=true
 ·rw [zM q]
  repeat (first|refine zA ?_|refine zbh ?_|refine yD ?_)
  exact h
 ·rw [zI q] at e
  rw[zI q]
  obtain⟨hty,his,hsub⟩:=kit_cls (M:=model M w) X e
  have LI:Looks (model M w) h0 (isInstance x c) true:=LT.andThen hsub
  refine yD (hty.at ?_)
  rw[zM (by decide)]
  k_delta "plainIsInstance"
  refine yD (yD (his.at ?_))
  simp only[Bool.not_true,Bool.false_eq_true,if_false]
  refine yD (LI.at ?_)
  simp only[if_true]
  exact zA (zA h)
end
structure CalX (P:Program)(w:World)(K:W.Frag)(mg:Str->Option Value)(base:Heap)(k:Nat)(x:Str)(ps:List Str)(sp:Sp):Prop where
 ex:∃f fd,FnOk P w K mg base (CXf P w) k f fd ps sp/\mg x=some (.ref f)/\PySem.W.keepIn K (.ref f)=true/\q1h K fd ps []
structure CalDX (P:Program)(w:World)(K:W.Frag)(mg:Str->Option Value)(base:Heap)(k:Nat)(x:Str)(ps:List Str)(sp:Sp)(st:Stmt)(ds:List Value):Prop where
 ex:∃f fd,FnOk P w K mg base (CXf P w) k f fd ps sp/\mg x=some (.ref f)/\FunD K x st ds f fd
section
variable {P:Program}{w:World}{K:W.Frag}{mg:Str->Option Value}{base:Heap}
theorem Laid.calX {x:Str}{st:Stmt}{N ps:List Str}{k:Nat}{sp:Sp}(L:Laid K mg x st ps)(S:FnScope N ps (qe st))(len:∀vs H Q E,sp vs H Q E->vs.length=ps.length)
  (hbody:∀(f:Addr) (cdv:Value) (A:Around) (outer:List Env) (s:Shared) (H:Hp) (vs:List V) (Q:VK) (E:XK),Room k (A.deeper (envOfC x (qe st) s.heap.objs.size f cdv))->sp vs H Q E->
   ∃t,PSs (cxOf (CXf P w) P w K mg base N x (qe st) f cdv A outer s H E) (qu st) t/\t {nx:=fun _ H'=>Q .non H',rt:=Q} (q1P N vs) H):CalX P w K mg base (k+1) x ps sp:=by
 obtain⟨f,fd,F,m,b⟩:=L.ex
 refine⟨f,fd,?_,m,F.kp,b⟩
 obtain⟨oc,od,kV,doc,pm,an,cdv,ct,osl,rfl,lk,hcd⟩:=F.ex
 exact qbL lk hcd S len fun A outer s H vs Q E hr hsp=>hbody f cdv A outer s H vs Q E hr hsp
theorem LaidD.calX {x:Str}{st:Stmt}{ds:List Value}{N ps:List Str}{k:Nat}{sp:Sp}(L:LaidD K mg x st ds)(S:FnScope N ps (qe st))(len:∀vs H Q E,sp vs H Q E->vs.length=ps.length)
  (hbody:∀(f:Addr) (cdv:Value) (A:Around) (outer:List Env) (s:Shared) (H:Hp) (vs:List V) (Q:VK) (E:XK),Room k (A.deeper (envOfC x (qe st) s.heap.objs.size f cdv))->sp vs H Q E->
   ∃t,PSs (cxOf (CXf P w) P w K mg base N x (qe st) f cdv A outer s H E) (qu st) t/\t {nx:=fun _ H'=>Q .non H',rt:=Q} (q1P N vs) H):CalDX P w K mg base (k+1) x ps sp st ds:=by
 obtain⟨f,fd,F,m⟩:=L.ex
 refine⟨f,fd,?_,m,F⟩
 obtain⟨T,o,n,oc,od,kV,doc,pm,an,cdv,ct,osl,rfl,lk,hcd,ho,hs⟩:=F.ex
 exact qbL lk hcd S len fun A outer s H vs Q E hr hsp=>hbody f cdv A outer s H vs Q E hr hsp
end
section
variable {X:Cx}{k k':Nat}{x:Str}{ps:List Str}{sp:Sp}{p pos:Pos}{e:Expr}{es:List Expr}{t:TA}{E:XK}{st:Stmt}{ds ds':List Value}{dvs:List V}
theorem qV (c:CalX X.prog X.w X.K X.mg X.base k x ps sp)(hx:q2R (CXf X.prog X.w) X E)(hr:Room k' X.A)(hk:k<=k')(hg:Gl X x)(ha:PA X (e::es) t)(hdb:(x==("__debug__":Str))=false:=by decide)(he:starEach (e::es) X.env=(false,eval e X.env)::starEach es X.env:=by rfl)
  (hpl:(backTo pos (starEach es X.env)).any (·.1)=false:=by rfl):PE X (.Call (.Name x p) (e::es) [] pos) (q6O sp [] E t):=by
 obtain⟨f,fd,F,m,kp,b⟩:=c.ex
 exact q5L F (hr.mono hk) hg m kp b .nil hx ha hdb he hpl
theorem q9o (c:CalDX X.prog X.w X.K X.mg X.base k x ps sp st ds)(hx:q2R (CXf X.prog X.w) X E)(hb:∀us:List Value,(us++ds').length=ps.length->BnD x st ds ⟨us,[]⟩ (ps.zip (us++ds')))(hd:Vals dvs ds')(hr:Room k' X.A)(hk:k<=k')(hg:Gl X x)(ha:PA X (e::es) t)
  (hdb:(x==("__debug__":Str))=false:=by decide)(he:starEach (e::es) X.env=(false,eval e X.env)::starEach es X.env:=by rfl)
  (hpl:(backTo pos (starEach es X.env)).any (·.1)=false:=by rfl):PE X (.Call (.Name x p) (e::es) [] pos) (q6O sp dvs E t):=by
 obtain⟨f,fd,F,m,D⟩:=c.ex
 exact q5L F (hr.mono hk) hg m D.kp (fun s us hX hl=>D.bind hX (hb us hl)) hd hx ha hdb he hpl
theorem q6l (c:CalX X.prog X.w X.K X.mg X.base k x ps sp)(hX:X.ex=[])(hr:Room k' X.A)(hk:k<=k')(hg:Gl X x)(ha:PA X.nox (e::es) t)(hdb:(x==("__debug__":Str))=false:=by decide)(he:starEach (e::es) X.env=(false,eval e X.env)::starEach es X.env:=by rfl)
  (hpl:(backTo pos (starEach es X.env)).any (·.1)=false:=by rfl):PEx X (.Call (.Name x p) (e::es) [] pos) (qaw sp [] t):=by
 obtain⟨f,fd,F,m,kp,b⟩:=c.ex
 exact q9m F (hr.mono hk) hg m kp b .nil hX ha hdb he hpl
theorem q7X {te:TE}(h:PE X.nox e te):PE X e te:=fun pins s σ H Q I q=>by
 refine zZ (h pins s σ H Q (I.wish _) q) (fun v s1 ⟨y,H1,I1,r1,q1⟩=>⟨y,H1,I1.unwish,r1,q1⟩) fun _ _ z=>False.elim z
theorem q1L {C:Addr}{D:Ends}{σ:St}{H:Hp}(q:t σ H fun vs H1=>vs.length<=sizeLine/\E (.ref C) none H1):q9Y C E t D σ H:=q
end
section
variable {P:Program}{w:World}{K:W.Frag}{mg:Str->Option Value}{base:Heap}{N:List Str}{qual:Str}{scope:Scope}{f:Addr}{cd:Value}{A:Around}{outer:List Env}{s0:Shared}{H0:Hp}{E:XK}
theorem q0Y:qar (cxOf (CXf P w) P w K mg base N qual scope f cd A outer s0 H0 E) E:=fun pins σ H s h' e cls args I hx hE=>q9c I hx hE
end
section
variable {X:Cx}
def tIsT (ta:TE):TE:=fun σ H Q=>ta σ H fun x H1=>∃b,x= .bl b/\Q (.bl b) H1
theorem pc_isT {a:Expr}{ta:TE}{j pos'}(ha:PE X a ta):PC X .Is a (.Constant (.bool true) j pos') (tIsT ta):=by
 intro pins s σ H Q I h
 refine thn (ha pins s σ H _ I h) fun v s1 ⟨x,H1,I1,r1,b,hb,q1⟩=>?_
 subst hb
 cases(show v=Value.bool b from r1)
 exact Constant_bool (za9 (by cases b<;>rfl) ⟨.bl b,H1,I1,by cases b<;>rfl,q1⟩)
end
theorem q4M:bootBuiltins "ValueError"=some (.type "ValueError"):=by walk_at "k"
def qa8:Expr->Bool
 | .Starred .. =>false
 |_=>true
theorem q3S {e:Expr}{es:List Expr}{env:Env}(h:qa8 e=true):starEach (e::es) env=(false,eval e env)::starEach es env:=by
 cases e<;>first|rfl|cases h
theorem pa_c {X:Cx}{e:Expr}{es:List Expr}{te:TE}{t:TA}(ha:PE X e te)(hr:PA X es t)(h:qa8 e=true:=by rfl):PA X (e::es) (q5J te t):=qa ha hr (q3S h)
end L2
namespace L2
open PySem PySem.Spec PySem.Calls PyProof.Rows PySem.W Builtin Builtin.ObjectAttr Builtin.Getset_descriptor
structure ExcT (K:W.Frag)(C:Addr):Prop where
 ga:PySem.W.findIn K (.ref C) "__getattribute__"=some (some (.builtin "BaseException.__getattribute__"))
 gh:PySem.W.findIn K (.ref C) "__getattr__"=some none
 ca:PySem.W.findIn K (.ref C) "__class__"=some (some (.builtin "object.__class__"))
 mo:PySem.W.mroIn K C (.type "object")=some true
 mb:PySem.W.mroIn K C (.type "BaseException")=some true
section
variable {prog:Program}{w:World}{A:Around}{E:Value->Shared->Prop}{h:Heap}{g:Array GenState}{d:PySem.Drawn}{t:Nat}{os:OsState}{K:W.Frag}{x C:Addr}
theorem xc_get {R:Result->Shared->Prop}{tp:Value}(X:K.In h)(L:∀M,Looks M h (typeOf (.ref x)) (.ref C))(q:ExcT K C)(hq:R (.ok (.ret (.ref C))) ⟨h,g,d,t,os⟩):
  codeAny (model prog w) A (.call (.builtin "getset_descriptor.__get__") ⟨[.builtin "object.__class__",.ref x,tp],[]⟩) R ⟨h,g,d,t,os⟩:=by
 have L0:=L (model prog w)
 have L1:=looks_mroIn (M:=model prog w) X q.mo
 refine za7 KF.slot_gs.plain KF.entry_gs (KF.slot_gs.check _ _ _ _ _ _ _ _ KF.type_class (KF.args_gs _ _ _) ?_)
 unfold Builtin.«getset_descriptor.__get__» descrGet
 rw[dga_obj]
 refine yD (zA ?_)
 unfold descrGetter descrCheckInstance descrNameAndClass isInstance
 simp only[KF.owner_class]
 repeat lk
 refine⟨Code.quiet_builtin _ (by walk_at "k"),codeAny_builtin KF.entry_class ?_⟩
 unfold Builtin.«object.__class__» shownTypeOf
 repeat lk
 exact hq
theorem q94 {tk:Tok}{Q:Fin->Shared->Prop}(X:K.In h)(L:∀M,Looks M h (typeOf (.ref x)) (.ref C))(q:ExcT K C)(hq:Q (.done (.ret (.ref C))) ⟨h,g,d,t,os⟩):
  wpAny (model prog w) A (Builtin.«object.__getattribute__» ⟨[.ref x,.str "__class__" tk],[]⟩) Q E ⟨h,g,d,t,os⟩:=by
 have L0:=L (model prog w)
 have L3:=looks_findIn (M:=model prog w) X q.ca
 have f5:=F.typeOf_object_class
 have hT5:(⟨h,g,d,t,os⟩:Shared).TypeIs (.builtin "object.__class__") "getset_descriptor":=F.typeOf_object_class
 have f6:=F.slot_gs_get.lookup
 have f7:=F.slot_gs_set.lookup
 repeat (any_goals (first|assumption|with_reducible refine L0.at ?_|with_reducible refine L3.at ?_|wp_step))
 refine xc_get X L q ?_
 repeat (any_goals (first|assumption|wp_step))
theorem q66 {M:Model}{nameV:Value}{Q:Unit->Shared->Prop}(X:K.In h)(L:∀M,Looks M h (typeOf (.ref x)) (.ref C))(q:ExcT K C)(hq:Q () ⟨h,g,d,t,os⟩):wpAny M A (checkBuiltinCall "BaseException.__getattribute__" ⟨[.ref x,nameV],[]⟩) Q E ⟨h,g,d,t,os⟩:=by
 have hk:builtinKind "BaseException.__getattribute__"=some .slot:=by walk_at "k"
 have hsplit:splitId "BaseException.__getattribute__"=some ("BaseException","__getattribute__"):=by walk_at "k"
 have ha:=F.args_bexc_ga (.ref x) nameV
 have L0:=L M
 have L1:=looks_mroIn (M:=M) X q.mb
 simp only[checkBuiltinCall,hk,hsplit]
 refine yD ?_
 ·unfold isInstance
  repeat (first|with_reducible refine L0.at ?_|with_reducible refine L1.at ?_|wp_step)
  exact hq
theorem qau {tk:Tok}{R:Result->Shared->Prop}(X:K.In h)(L:∀M,Looks M h (typeOf (.ref x)) (.ref C))(q:ExcT K C)(hq:R (.ok (.ret (.ref C))) ⟨h,g,d,t,os⟩):
  codeAny (model prog w) A (.call (.builtin "BaseException.__getattribute__") ⟨[.ref x,.str "__class__" tk],[]⟩) R ⟨h,g,d,t,os⟩:=
 za7 zbB.ga.plain F.entry_bexc_ga (q66 X L q (q94 X L q hq))
theorem xc_by {tk:Tok}{Q:Value->Shared->Prop}(X:K.In h)(L:∀M,Looks M h (typeOf (.ref x)) (.ref C))(q:ExcT K C)(hq:Q (.ref C) ⟨h,g,d,t,os⟩):
  wpAny (model prog w) A (getAttrBy (.ref x) (.str "__class__" tk) false) Q E ⟨h,g,d,t,os⟩:=by
 have f3:=zbB.ga.bind (.ref x)
 have hx2:(Value.builtin "BaseException.__getattribute__"==Value.builtin "object.__getattribute__")=false:=by walk_at "k"
 have hx1:(onTheHeap (Value.ref C)&&Value.builtin "BaseException.__getattribute__"==Value.builtin "object.__getattribute__")=false:=by rw[hx2];rfl
 have L0:=L (model prog w)
 have L3:=looks_findIn (M:=model prog w) X q.ga
 have L4:=looks_findIn (M:=model prog w) X q.gh
 repeat (any_goals (first|assumption|with_reducible refine L0.at ?_|with_reducible refine L3.at ?_|with_reducible refine L4.at ?_|wp_step))
 refine qau X L q ?_
 repeat (any_goals (first|assumption|wp_step))
theorem qav {Q:Option Value->Shared->Prop}(X:K.In h)(L:∀M,Looks M h (typeOf (.ref x)) (.ref C))(q:ExcT K C)(hq:Q (some (.ref C)) ⟨h,g,d,t+1,os⟩):wpAny (model prog w) A (getAttr? (.ref x) "__class__") Q E ⟨h,g,d,t,os⟩:=by
 unfold getAttr? getAttrBy?
 repeat (any_goals (first|assumption|with_reducible apply xc_by X L q|wp_step))
theorem qbD {Q:Value->Shared->Prop}{c:Value}{b:Bool}(X:K.In h)(L:∀M,Looks M h (typeOf (.ref x)) (.ref C))(q:ExcT K C)(e:PySem.W.kitOne K (.ref C) c=some b)(hq:∀t',Q (.bool b) ⟨h,g,d,t',os⟩):
  wpAny (model prog w) A (call (.builtin "isinstance") [.ref x,c]) Q E ⟨h,g,d,t,os⟩:=by
 cases b with
 |true=>exact qbC X L e (by intro z;cases z) (hq t)
 |false=>
  refine call_isinstance_of ?_ (by intro z;cases z)
  have LT:=L (model prog w)
  unfold kitOne at e
  unfold Builtin.«isinstance.nested»
  refine yD (LT.at ?_)
  by_cases z:((Value.ref C)==c)=true
  ·rw [zM z] at e;cases e
  ·rw [zI z] at e
   rw[zI z]
   obtain⟨hty,his,hsub⟩:=kit_cls (M:=model prog w) X e
   have LI:Looks (model prog w) h (isInstance (.ref x) c) false:=LT.andThen hsub
   have hisC:Looks (model prog w) h (isType (.ref C)) true:=by
    have hm:=q.mo
    unfold mroIn at hm
    cases hc:clsIn K C with
    |none=>rw[hc] at hm;cases hm
    |some cd=>
     unfold clsIn at hc
     split at hc
     ·rename_i c' d' cd' sl' ho
      intro A' Q' E' s' k q
      unfold isType loadHead
      exact yD (zb1 (k _ _ (X _ _ ho)) (zA q))
     ·cases hc
   refine yD (hty.at ?_)
   rw[zM (by decide)]
   k_delta "plainIsInstance"
   refine yD (yD (his.at ?_))
   simp only[Bool.not_true,Bool.false_eq_true,if_false]
   refine yD (LI.at ?_)
   simp only[Bool.false_eq_true,if_false]
   refine yD (qav X L q ?_)
   refine yD (hisC.at ?_)
   simp only[Bool.not_true,Bool.false_eq_true,if_false]
   refine yD (zbh ?_)
   refine hsub.at ?_
   first
    |exact zA (hq _)
    |exact zA (zA (hq _))
    |exact yD (zA (zA (hq _)))
end
def q9g (K:W.Frag):List V->Hp->VK->Prop:=fun xs H Q=>∃a oe u C c cv b,xs=[.ref a,c]/\RelV c cv/\H a=some (.frz oe u)/\oe.cls= .ref C/\ExcT K C/\PySem.W.kitOne K (.ref C) cv=some b/\(∀t,c≠ .int t)/\(∀t,c≠ .str t)/\(∀t,c≠ .byt t)/\(∀t,c≠ .flt t)/\Q (.bl b) H
theorem q8U {X:Cx}:q1d X (.builtin "isinstance") (q9g X.K):=by
 intro pins s σ H xs us Q I r h
 obtain⟨a,oe,uo,C,c,cv,b,rfl,rc,ea,ec,xt,e,n1,n2,n3,n4,q⟩:=h
 obtain⟨u,v,rfl,rx,ry⟩:=q7i r
 cases(show u=Value.ref a from rx)
 have ev:v=cv:=by
  cases c with
  |non=>exact(show v= .none from ry).trans (show cv= .none from rc).symm
  |bl b=>exact(show v= .bool b from ry).trans (show cv= .bool b from rc).symm
  |int i=>exact absurd rfl (n1 i)
  |str i=>exact absurd rfl (n2 i)
  |byt i=>exact absurd rfl (n3 i)
  |flt i=>exact absurd rfl (n4 i)
  |ref b=>exact(show v= .ref b from ry).trans (show cv= .ref b from rc).symm
  |ty n=>exact(show v= .type n from ry).trans (show cv= .type n from rc).symm
 subst ev
 obtain⟨ho,_⟩:=(show q0j X.prog X.w H s.heap a (.frz oe uo) from I.hok a _ ea)
 have L:∀M,PySem.W.Looks M s.heap (typeOf (.ref a)) (.ref C):=fun M=>by rw[<-ec];exact(zbm ho).andThen .now
 obtain⟨h0,g,d,t,os⟩:=s
 exact qbD I.kIn L xt e fun t'=>⟨.bl b,H,I.tok t',rfl,q⟩
theorem q3X {X:Cx}(K:W.Frag)(hK:X.K=K:=by rfl):q1d X (.builtin "isinstance") (q9g K):=by subst hK;exact q8U
theorem q4v {K:W.Frag}{H:Hp}{Q:VK}{a C D:Addr}{oe:Obj}{u:HO}{b:Bool}(h:H a=some (.frz oe u))(ec:oe.cls= .ref C)(xt:ExcT K C)(e:PySem.W.kitOne K (.ref C) (.ref D)=some b)(q:Q (.bl b) H):q9g K [.ref a,.ref D] H Q:=⟨a,oe,u,C,_,_,b,rfl,rfl,h,ec,xt,e,nofun,nofun,nofun,nofun,q⟩
theorem r_isYT {K:W.Frag}{H:Hp}{Q:VK}{a C:Addr}{T:String}{oe:Obj}{u:HO}{b:Bool}(h:H a=some (.frz oe u))(ec:oe.cls= .ref C)(xt:ExcT K C)(e:PySem.W.kitOne K (.ref C) (.type T)=some b)(q:Q (.bl b) H):q9g K [.ref a,.ty T] H Q:=⟨a,oe,u,C,_,_,b,rfl,rfl,h,ec,xt,e,nofun,nofun,nofun,nofun,q⟩
end L2
namespace L2
open PySem PySem.Spec PySem.Calls PyProof.Rows PySem.W Builtin Builtin.ObjectAttr
def q3G:List Value->Bool
 |[]=>false
 | .ref _::l=>q3G l
 | .type n::l=>(n=="object"&&l.isEmpty)||((n=="ValueError"||n=="Exception"||n=="BaseException")&&q3G l)
 |_::_=>false
structure ExcF (K:W.Frag)(C:Addr):Prop where
 sa:PySem.W.findIn K (.ref C) "__setattr__"=some (some (.builtin "object.__setattr__"))
 cd:(PySem.W.clsIn K C).any (fun cd=>cd.hasDict&&q3G cd.mro)=true
section
variable {prog:Program}{w:World}{A:Around}{E:Value->Shared->Prop}{h:Heap}{g:Array GenState}{d:PySem.Drawn}{t:Nat}{os:OsState}{K:W.Frag}{x C:Addr}{ox:Obj}{od:Option Obj}
theorem own_sa (n:String)(h:(n=="ValueError"||n=="Exception"||n=="BaseException")=true):builtinOwn n "__setattr__"=none/\(n=="_thread._local")=false/\(n=="_pickle.Pickler"||n=="_pickle.Unpickler")=false:=by
 simp only[Bool.or_eq_true,beq_iff_eq] at h
 rcases h with(rfl|rfl)|rfl<;>walk_at "k"
theorem own_so:∃v,builtinOwn "object" "__setattr__"=some v/\isObjects "object" ("__setattr__":Str).toString=true:=by
 refine⟨_,rfl,by walk_at "k"⟩
theorem q7F {M:Model}{s:Shared}{Q:Unit->Shared->Prop}{self:Value}(X:K.In s.heap)(LT:Looks M s.heap (typeOf self) (.ref C)){cd:ClassData}(hc:clsIn K C=some cd)(hm:q3G cd.mro=true)(hq:Q () s):wpAny M A (refuseIfOverridden self "__setattr__") Q E s:=by
 unfold refuseIfOverridden
 refine yD (LT.here ?_)
 have LM:Looks M s.heap (mroOf (.ref C)) cd.mro:=(looks_clsIn X hc).andThen .now
 refine yD (LM.here ?_)
 refine yD ?_
 generalize cd.mro=l at hm
 induction l with
 |nil=>cases hm
 |cons v l ih=>
  rw[zcp]
  cases v with
  |ref a=>exact yD (zA (ih hm))
  |type n=>
   unfold q3G at hm
   rw[Bool.or_eq_true] at hm
   rcases hm with hm|hm
   ·rw [zS] at hm
    obtain⟨h1,h2⟩:=hm
    obtain rfl:n="object":=by simpa using h1
    obtain⟨v,e1,e2⟩:=own_so
    refine yD ?_
    refine zG (by walk_at "k") (zG (by walk_at "k") ?_)
    rw[show classOwn (.type "object") "__setattr__"=pure (builtinOwn "object" "__setattr__") from rfl,e1]
    refine yD (zA ?_)
    refine zaz rfl ?_
    rw[e2]
    exact zG rfl (zA (zA (zA hq)))
   ·rw [zS] at hm
    obtain⟨e1,e2,e3⟩:=own_sa n hm.1
    refine yD ?_
    dsimp only
    rw[e2,e3]
    refine zG rfl (zG rfl ?_)
    rw[show classOwn (.type n) "__setattr__"=pure (builtinOwn n "__setattr__") from rfl,e1]
    exact yD (zA (zG rfl (zA (ih hm.2))))
  |_=>cases hm
theorem q6e {Q:Fin->Shared->Prop}{dx:Addr}{mA:Str->Option Value}{name:Str}{v:Value}{tk:Tok}{ns:List Str}{s:Shared}(hn:s.heap.Ns1 dx mA)(hw:PySem.Within mA ns)(hsz:ns.length<=1000)
  (hq:∀h',(h'.Ns1 dx fun y=>if y=name then some v else mA y)->Heap.SameBut dx s.heap h'->Q (.done (.ret .none)) {s with heap:=h',toks:=s.toks+1}):wpAny (model prog w) A (storeInDict dx (.str name tk) name v) Q E s:=by
 unfold storeInDict
 refine yD (zA (yD ?_))
 refine wpAny_nsSet1 hn fun h' hn2 hs2=>?_
 obtain⟨oD,esD,epD,hoD,hdD,hcD⟩:=hn2.count (PySem.Within.cons name v hw)
 refine yD (wpAny_lookBehind hoD (by rw[hdD];exact pastItsLine_dict (zap hcD (by rw[zaf];have:=qC;omega))) ?_)
 exact zA (hq h' hn2 hs2)
theorem q8E {name:Str}{v:Value}{Q:Unit->Shared->Prop}{s:Shared}(X:K.In s.heap)(I:InstAt s.heap x ox C od)(q:ExcF K C)(qt:ExcT K C)(hf:PySem.W.findIn K (.ref C) name=some none)
  (h:∀s',s'.heap=s.heap->s'.gens=s.gens->s'.os=s.os->wpAny (model prog w) A.in1 (do
   let __do_lift<-ownDictForStores (.ref x)
   match __do_lift with
    |some d=>storeInDict d (.str name s.toks) name v
    |none=>noDictFor (.ref x) (.ref C) name false) (fun fin s2=>match fin with
     | .done (.ret _)=>Q () s2
     |_=>False) E s'):wpAny (model prog w) A (setAttr (.ref x) name v) Q E s:=by
 obtain⟨cd,hc,hg⟩:=any_some q.cd
 rw[zS] at hg
 have SF:=F.store_object
 refine PySem.W.set_plain X I q.sa ?_
 have LT:=I.type (M:=model prog w)
 have sub:Looks (model prog w) s.heap (isInstance (.ref x) (.type "object")) true:=LT.andThen (looks_mroIn X qt.mo)
 have sk:=SF.kind
 have ss:=SF.split
 have sa:=SF.args (.ref x) (.str name s.toks) v
 refine za7 SF.slot.plain SF.entry ?_
 refine PySem.W.check_slot (s:={s with toks:=s.toks+1}) (i:="object.__setattr__") (owner:="object") (n:="__setattr__") (self:= .ref x) (rest:=[.str name s.toks,v]) (kw:=[]) sk ss sub sa ?_
 unfold Builtin.«object.__setattr__»
 refine zG rfl ?_
 refine yD (q7F (s:={s with toks:=s.toks+1}) X LT hc hg.2 ?_)
 refine yD (zA ?_)
 refine yD (LT.here (s:={s with toks:=s.toks+1}) ?_)
 refine yD ((looks_findIn X hf).here (s:={s with toks:=s.toks+1}) ?_)
 refine yD (zA ?_)
 unfold storeInOwnDict
 refine yD (zA ?_)
 refine zG rfl ?_
 refine zZ (h {s with toks:=s.toks+1} rfl rfl rfl) (fun fin s2 z=>?_) fun _ _ z=>z
 cases fin with
 |done f=>cases f<;>first|exact z|exact z.elim
 |again c=>exact z.elim
end
end L2
namespace L2
open PySem PySem.Spec PySem.Calls PyProof.Rows PySem.W Builtin Builtin.ObjectAttr
def ExcO (e C:Addr)(od:Option Addr):HO:= .ext fun h=>∃t sl,h.get? e=some (q2M C od t sl)
def XdO (d:Addr)(fs:List (Str×V)):HO:= .ext fun h=>fs.length<=900/\∃mA,h.Ns1 d mA/\(∀f,RelO (fs.lookup f) (mA f))/\PySem.Within mA (fs.map (·.1))
section
variable {P:Program}{w:World}{H:Hp}{h:Heap}{e C d:Addr}{od:Option Addr}{fs:List (Str×V)}
theorem q4I {t:Addr}{sl:Array (Option Value)}(q:h.get? e=some (q2M C od t sl)):q0j P w H h e (ExcO e C od):=⟨⟨t,sl,q⟩,⟨_,q⟩,fun _ _ ⟨t,sl,q⟩ k=>⟨t,sl,k _ q⟩⟩
theorem q7f {mA:Str->Option Value}(hl:fs.length<=900)(n:h.Ns1 d mA)(r:∀f,RelO (fs.lookup f) (mA f))(wi:PySem.Within mA (fs.map (·.1))):q0j P w H h d (XdO d fs):=
 ⟨⟨hl,mA,n,r,wi⟩,let ⟨o,_,_,q,_⟩:=n;⟨o,q⟩,fun _ _ ⟨hl,mA,⟨o,es,ep,q,z⟩,r⟩ k=>⟨hl,mA,⟨o,es,ep,k _ q,z⟩,r⟩⟩
end
section
variable {X:Cx}{pins:List (Addr×Obj)}{σ:St}{H:Hp}{s:Shared}{e C d:Addr}{fs:List (Str×V)}{f:Str}{y:V}{u:Value}{A:Around}{E:Value->Shared->Prop}{Q:Unit->Shared->Prop}
theorem q7e (I:Inv X pins σ H s)(e1:H e=some (ExcO e C (some d)))(e2:H d=some (XdO d fs))(q:ExcF X.K C)(qt:ExcT X.K C)(hf:PySem.W.findIn X.K (.ref C) f=some none)(hl:fs.length<900)(ry:RelV y u)
  (h:∀s',Inv X pins σ (upd H d (XdO d (putF f y fs))) s'->Q () s'):wpAny (model X.prog X.w) A (setAttr (.ref e) f u) Q E s:=by
 obtain⟨⟨t,sl,ho⟩,_,_⟩:=(show q0j X.prog X.w H s.heap e (ExcO e C (some d)) from I.hok e _ e1)
 obtain⟨⟨_,mA,hn,r,wi⟩,_,_⟩:=(show q0j X.prog X.w H s.heap d (XdO d fs) from I.hok d _ e2)
 obtain⟨od,es,ep,hd,hr⟩:=id hn
 obtain⟨cd,hc,hg⟩:=any_some q.cd
 rw[zS] at hg
 refine q8E (ox:=q2M C (some d) t sl) (od:=some od) I.kIn ⟨ho,rfl,rfl,hd⟩ q qt hf fun s' z1 z2 z3=>?_
 unfold ownDictForStores instanceDict
 refine yD (yD (zb1 (by rw[z1];exact ho) ?_))
 refine yD ((looks_clsIn (by rw[z1];exact I.kIn) hc).here ?_)
 rw[hg.1]
 refine zG rfl (zA ?_)
 refine q6e (ns:=fs.map (·.1)) (by rw[z1];exact hn) wi (by rw[yC];omega) fun h' hn2 hs2=>?_
 obtain⟨hp,g,dd,tk,os⟩:=s
 obtain⟨hp',g',dd',tk',os'⟩:=s'
 dsimp only at z1 z2 z3
 subst z1 z2 z3
 refine h _ ?_
 have J:Inv X pins σ (upd H d (XdO d (putF f y fs))) {heap:=h',gens:=g',drawn:=dd,toks:=tk'+1,os:=os'}:=by
  refine I.write (x:=d) (e:=d) (by rw[e2];exact True.intro) (.inl rfl) (fun b q hb z=>(hs2.2 b hb).trans z) (let ⟨o,_,_,q,_⟩:=hn2;⟨o,q⟩) ?_
  refine q7f (by have:=q2z f y fs;omega) hn2 (fun g=>?_) fun g hg=>?_
  ·rw [q0O]
   by_cases q:g=f
   ·rw [zM q,zM q];exact ry
   ·rw [zI q,zI q];exact r g
  ·by_cases q:g=f
   ·rw [q];exact(q2b f y fs).1
   ·refine (q2b f y fs).2 g (wi g fun z=>hg ?_)
    rw[zI q];exact z
 exact⟨J.ok,J.os,J.bare,J.base,J.loc,J.cell,J.free,J.freeC,J.pin,J.hok,J.len⟩
theorem q6K (I:Inv X pins σ H s)(e1:H e=some (ExcO e C none))(q:ExcF X.K C)(qt:ExcT X.K C)(hf:PySem.W.findIn X.K (.ref C) f=some none)(ry:RelV y u)
  (h:∀d s',H d=none->d≠e->Inv X pins σ (upd (upd (upd H d (XdO d [])) e (ExcO e C (some d))) d (XdO d [(f,y)])) s'->Q () s'):wpAny (model X.prog X.w) A (setAttr (.ref e) f u) Q E s:=by
 obtain⟨⟨t,sl,ho⟩,_,_⟩:=(show q0j X.prog X.w H s.heap e (ExcO e C none) from I.hok e _ e1)
 obtain⟨cd,hc,hg⟩:=any_some q.cd
 rw[zS] at hg
 refine q8E (ox:=q2M C none t sl) (od:=none) I.kIn ⟨ho,rfl,rfl,True.intro⟩ q qt hf fun s' z1 z2 z3=>?_
 have hlt:e<s.heap.objs.size:=zD ho
 have hde:s.heap.objs.size≠e:=zbu hlt
 have hdn:H s.heap.objs.size=none:=I.hok.fresh (zC _)
 unfold ownDictForStores instanceDict
 refine yD (yD (zb1 (by rw[z1];exact ho) ?_))
 refine yD ((looks_clsIn (by rw[z1];exact I.kIn) hc).here ?_)
 rw[hg.1]
 refine zG rfl ?_
 refine zG rfl ?_
 obtain⟨hp,g,dd,tk,os⟩:=s
 obtain⟨hp',g',dd',tk',os'⟩:=s'
 dsimp only at z1 z2 z3 ho hlt hde hdn
 subst z1 z2 z3
 refine yD (wpAny_alloc' ?_)
 have ho2:(hp'.push {cls:= .type "dict",data:= .dict #[]}).get? e=some (q2M C none t sl):=zB _ ho
 refine yD (wpAny_update' ho2 ?_)
 refine zA ?_
 have he3:((hp'.push {cls:= .type "dict",data:= .dict #[]}).update e fun o=>{cls:=o.cls,dict:=some hp'.objs.size,data:=o.data,slots:=o.slots}).get? e=some (q2M C (some hp'.objs.size) t sl):=zaj _ ho2 rfl
 have kp:∀b o,b≠e->(hp'.push {cls:= .type "dict",data:= .dict #[]}).get? b=some o->((hp'.push {cls:= .type "dict",data:= .dict #[]}).update e fun o=>{cls:=o.cls,dict:=some hp'.objs.size,data:=o.data,slots:=o.slots}).get? b=some o:=fun b o hb z=>by
  rw[zab _ _ (Ne.symm hb)]
  exact z
 have hd0:(hp'.push {cls:= .type "dict",data:= .dict #[]}).get? hp'.objs.size=some {cls:= .type "dict",data:= .dict #[]}:=zO hp' rfl
 have n1:(hp'.push {cls:= .type "dict",data:= .dict #[]}).Ns1 hp'.objs.size (fun _=>none):=Heap.Ns1.of_empty ⟨_,#[],_,hd0,rfl,(fun e he=>absurd he (by simp)),fun _=>rfl⟩
 have I1:Inv X pins σ (upd H hp'.objs.size (XdO hp'.objs.size [])) {heap:=hp'.push {cls:= .type "dict",data:= .dict #[]},gens:=g',drawn:=dd,toks:=tk',os:=os'}:=
  I.laid (a:=hp'.objs.size) (o:=XdO hp'.objs.size []) (fun b u q=>zB _ q) (zC _) (q7f (by simp) n1 (fun _=>True.intro) fun y hy=>absurd rfl hy)
 have e1':upd H hp'.objs.size (XdO hp'.objs.size []) e=some (ExcO e C none):=by rw[qm (Ne.symm hde)];exact e1
 have I2:Inv X pins σ (upd (upd H hp'.objs.size (XdO hp'.objs.size [])) e (ExcO e C (some hp'.objs.size))) {heap:=(hp'.push {cls:= .type "dict",data:= .dict #[]}).update e fun o=>{cls:=o.cls,dict:=some hp'.objs.size,data:=o.data,slots:=o.slots},gens:=g',drawn:=dd,toks:=tk',os:=os'}:=
  I1.write (x:=e) (e:=e) (by rw[e1'];exact True.intro) (.inl rfl) kp ⟨_,he3⟩ (q4I he3)
 have n2:=n1.at (h':=(hp'.push {cls:= .type "dict",data:= .dict #[]}).update e fun o=>{cls:=o.cls,dict:=some hp'.objs.size,data:=o.data,slots:=o.slots}) fun o q=>kp _ o hde q
 refine q6e (ns:=[]) n2 (fun y hy=>absurd rfl hy) (by simp) fun h' hn2 hs2=>?_
 refine h hp'.objs.size _ hdn hde ?_
 have e2':upd (upd H hp'.objs.size (XdO hp'.objs.size [])) e (ExcO e C (some hp'.objs.size)) hp'.objs.size=some (XdO hp'.objs.size []):=by rw[qm hde,qh]
 have J:Inv X pins σ (upd (upd (upd H hp'.objs.size (XdO hp'.objs.size [])) e (ExcO e C (some hp'.objs.size))) hp'.objs.size (XdO hp'.objs.size [(f,y)])) {heap:=h',gens:=g',drawn:=dd,toks:=tk'+1,os:=os'}:=by
  refine I2.write (x:=hp'.objs.size) (e:=hp'.objs.size) (by rw[e2'];exact True.intro) (.inl rfl) (fun b q hb z=>(hs2.2 b hb).trans z) (let ⟨o,_,_,q,_⟩:=hn2;⟨o,q⟩) ?_
  refine q7f (by simp) hn2 (fun g=>?_) fun g hg=>?_
  ·by_cases q:g=f
   ·rw [zM q,q]
    show RelO (match f==f with|true=>some y|false=>none) (some u)
    rw[show(f==f)=true by simp]
    exact ry
   ·rw [zI q]
    show RelO (match g==f with|true=>some y|false=>none) none
    rw[show(g==f)=false by simpa using q]
    exact True.intro
  ·by_cases q:g=f
   ·rw [q];simp
   ·exact absurd (by rw[zI q]) hg
 exact⟨J.ok,J.os,J.bare,J.base,J.loc,J.cell,J.free,J.freeC,J.pin,J.hok,J.len⟩
end
def sFldX (K:W.Frag)(ta tv:TE)(f:Str):TS:=fun D σ H=>tv σ H fun y H1=>ta σ H1 fun x H2=>∃e C,x= .ref e/\ExcF K C/\ExcT K C/\PySem.W.findIn K (.ref C) f=some none/\
 ((H2 e=some (ExcO e C none)/\∀d,H2 d=none->d≠e->D.nx σ (upd (upd (upd H2 d (XdO d [])) e (ExcO e C (some d))) d (XdO d [(f,y)])))\/
  ∃d fs,H2 e=some (ExcO e C (some d))/\H2 d=some (XdO d fs)/\fs.length<900/\D.nx σ (upd H2 d (XdO d (putF f y fs))))
section
variable {X:Cx}{o value:Expr}{ta tv:TE}{f:Str}{pos pos':Pos}
theorem q7S (K:W.Frag)(ha:PE X o ta)(hv:PE X value tv)(hs:swapsWith value (some (.Attribute o f pos')) pos.line X.env=pure false)(hK:X.K=K:=by rfl):PS X (.Assign [.Attribute o f pos'] value pos) (sFldX K ta tv f):=by
 subst hK
 intro pins s σ H D I h
 refine plainObj_wpAny_Assign_Attribute (thn (hv pins s σ H _ I h) fun u s1 ⟨y,H1,I1,ry,q⟩=>thn (ha pins s1 σ H1 _ I1 q) fun ov s2 ⟨x,H2,I2,rx,e,C,ex,qf,qt,hf,q2⟩=>?_) hs
 subst ex
 obtain rfl:ov=Value.ref e:=rx
 rcases q2 with⟨e1,q2⟩|⟨d,fs,e1,e2,hl,q2⟩
 ·exact q6K I2 e1 qf qt hf ry fun d s3 hd hn I3=>⟨σ,_,I3,q2 d hd hn⟩
 ·exact q7e I2 e1 e2 qf qt hf hl ry fun s3 I3=>⟨σ,_,I3,q2⟩
end
structure BaseI (K:W.Frag)(D:Addr):Prop where
 rd:PySem.W.readsIn K D (.type "type")=true
 fc:PySem.W.findCls K (.ref D) (.type "type") "__init__"=some (.val (.builtin "ValueError.__init__"))
 sg:PySem.W.specialIn K (.ref D) "__getattribute__"=some (some (.builtin "type.__getattribute__"))
abbrev vmro:List Value:=[.type "ValueError",.type "Exception",.type "BaseException",.type "object"]
structure ExcL (K:W.Frag)(C D:Addr):Prop where
 c:∃dd n1 n2 n4 n5 n7 n8 n9 n10 k0 k1 k2 k3 k5,K.lookup C=some ⟨.type "type",dd,.cls ⟨n1,n2,[.ref C,.ref D,.type "ValueError",.type "Exception",.type "BaseException",.type "object"],n4,n5,true,n7,n8,n9,n10,false⟩,#[k0,k1,k2,k3,some (.builtin "ValueError.__new__"),k5]⟩
 d:∃dd n1 n2 n4 n5 n6 n7 n8 n9 n10 n11 sl,K.lookup D=some ⟨.type "type",dd,.cls ⟨n1,n2,[.ref D,.type "ValueError",.type "Exception",.type "BaseException",.type "object"],n4,n5,n6,n7,n8,n9,n10,n11⟩,sl⟩
 e:PySem.W.excIn K D vmro "ValueError.__new__"=true
def q7c (K:W.Frag)(C:Addr):Prop:=∃D,ExcL K C D
theorem ExcL.f {K:W.Frag}{C D:Addr}(l:ExcL K C D)(sa:PySem.W.findIn K (.ref C) "__setattr__"=some (some (.builtin "object.__setattr__"))):ExcF K C:=by
 refine⟨sa,?_⟩
 obtain⟨dd,n1,n2,n4,n5,n7,n8,n9,n10,k0,k1,k2,k3,k5,h⟩:=l.c
 unfold PySem.W.clsIn
 rw[h]
 rfl
theorem q2L {K:W.Frag}{h:Heap}{C:Addr}(X:K.In h)(q:q7c K C):
  ∃bm N nm qn bs hd sn sub ab col dd k0 k1 k2 k3 k5,h.get? C=some (excClassObj nm qn C N bs bm hd sn sub ab col dd k0 k1 k2 k3 k5 "ValueError.__new__")/\OwnTail h vmro bm:=by
 obtain⟨D,l⟩:=q
 obtain⟨dd,n1,n2,n4,n5,n7,n8,n9,n10,k0,k1,k2,k3,k5,hC⟩:=l.c
 obtain⟨dd',m1,m2,m4,m5,m6,m7,m8,m9,m10,m11,sl,hD⟩:=l.d
 obtain⟨bm,N,nm,qn,bs,hdd,sn,sub,ab,col,ddd,j0,j1,j2,j3,j5,mN,hD2,hN,hni,TL⟩:=q8F X l.e
 have e:=(X _ _ hD).symm.trans hD2
 have eb:bm=vmro:=by
  injection e with e
  injection e with _ _ e3 _
  injection e3 with e3
  injection e3 with _ _ e4
  injection e4 with _ e5
  exact e5.symm
 subst eb
 exact⟨.ref D::vmro,n4,n1,n5,n2,true,n7,n8,n9,n10,dd,k0,k1,k2,k3,k5,X _ _ hC,.own hD2 hN hni .base⟩
structure ExcI (K:W.Frag)(C f:Addr):Prop where
 cls:q7c K C
 init:PySem.W.findIn K (.ref C) "__init__"=some (some (.ref f))
 fn:PySem.W.isFn K (.ref f)=true
 kp:PySem.W.keepIn K (.ref C)=true
def tBI (K:W.Frag)(t:TA):TE:=fun σ H Q=>t σ H fun vs H1=>∃a C od rest,vs= .ref a::rest/\H1 a=some (ExcO a C od)/\q7c K C/\rest.length<=sizeLine/\Q .non H1
section
variable {X:Cx}{x:Str}{D:Addr}{e:Expr}{es:List Expr}{t:TA}{op apos pos:Pos}
theorem pe_bi {pl:Sem Bool}(K:W.Frag)(b:BaseI K D)(hg:Gl X x)(hm:X.mg x=some (.ref D))(ha:PA X (e::es) t)(hdb:(x==("__debug__":Str))=false:=by decide)
  (hst:starEach (e::es) X.env=(false,eval e X.env)::starEach es X.env:=by rfl)(hpl:(backTo pos (starEach es X.env)).any (·.1)=false:=by rfl)
  (ht:eval (.Call (.Attribute (.Name x op) "__init__" apos) (e::es) [] pos) X.env=(do
   let ov<-eval (.Name x op) X.env
   standAt apos.atName
   let (f,first)<-holding [ov] (getMethod ov "__init__" pl)
   callWith pos f first (backTo pos (starEach (e::es) X.env)) (backToKw pos (keywordEach [] X.env))):=by rfl)(hK:X.K=K:=by rfl):
  PE X (.Call (.Attribute (.Name x op) "__init__" apos) (e::es) [] pos) (tBI K t):=by
 subst hK
 intro pins s σ H Q I h
 refine zbL (pl:=pl) (q1g I hg hm ?_ hdb) ht
 refine PySem.W.method_cls I.kIn b.sg (PySem.W.cls_value I.kIn b.rd b.fc rfl ?_)
 have I1:=I.tok (s.toks+1)
 have hA:=ha pos pins _ σ H _ I1 h
 rw[hst] at hA ⊢
 refine Calls.callWith_builtin (by show(false||(backTo pos (starEach es X.env)).any (·.1))=false;rw[hpl];rfl) (zbS ?_)
 refine thn hA fun us s2 ⟨vs,H2,I2,r2,a,C,od,rest,ev,e1,q,hl,q2⟩=>?_
 subst ev
 cases r2 with
 |cons rx rr=>
  have rx':=(show _=Value.ref a from rx)
  subst rx'
  obtain⟨⟨t0,sl,ho⟩,_,_⟩:=(show q0j X.prog X.w H2 s2.heap a (ExcO a C od) from I2.hok a _ e1)
  obtain⟨bm,N,nm,qn,bs,hd,sn,sub,ab,col,dd,k0,k1,k2,k3,k5,hC,TL⟩:=q2L I2.kIn q
  obtain⟨hp,g,d,tk,os⟩:=s2
  refine q3Z F.excBase_ValueError TL hC ho (by rw[<-rr.length];exact hl) fun h' t' kp he'=>?_
  refine⟨.non,H2,?_,rfl,q2⟩
  have J:Inv X pins σ (upd H2 a (ExcO a C od)) {heap:=h',gens:=g,drawn:=d,toks:=tk,os:=os}:=I2.write (x:=a) (e:=a) (by rw[e1];exact True.intro) (.inl rfl) (fun b u hb z=>kp b u hb z) ⟨_,he'⟩ (q4I he')
  have eq:upd H2 a (ExcO a C od)=H2:=by
   funext b
   by_cases hb:b=a
   ·rw [hb,qh,e1]
   ·rw [qm hb]
  rw[eq] at J
  exact J
end
def del (H:Hp)(e:Addr):Hp:=fun b=>if b=e then none else H b
theorem q2N {H:Hp}{e:Addr}:del H e e=none:=by unfold del;rw[if_pos rfl]
theorem q2c {H:Hp}{e b:Addr}(h:b≠e):del H e b=H b:=by unfold del;rw[if_neg h]
section
variable {X:Cx}{pins:List (Addr×Obj)}{σ:St}{H:Hp}{s:Shared}{h':Heap}
theorem Inv.laidN {a:Addr}{o:HO}{t':Nat}(I:Inv X pins σ H s)(k:∀b u,s.heap.get? b=some u->h'.get? b=some u)(new:s.heap.get? a=none)(ok:q0j X.prog X.w (upd H a o) h' a o):Inv X pins σ (upd H a o) {s with heap:=h',toks:=t'}:=by
 have hn:=I.hok.none_of new
 refine I.un ⟨fun b u q _ _ _=>k b u q,fun b u q _ _ _=>⟨u.slots,k b u q⟩,fun b u q n _=>?_,fun b u q _=>⟨u,k b u q⟩,fun b xs q=>?_,fun b u xs q=>?_,fun b ps q=>⟨#[],?_⟩⟩ fun b u e=>?_
 ·rw [qm (fun z=>by rw[z,new] at q;cases q)];exact n
 ·rw [qm (ql q hn)];exact q
 ·rw [qm (ql q hn)];exact q
 ·rw [qm (ql q hn),q];simp
 ·by_cases hb:b=a
  ·subst hb;rw[qh] at e;cases e;exact ok
  ·rw [qm hb] at e
   exact(I.hok b u e).stay (fun c v _ q=>k c v q) (fun c q=>by rw[qm (ql q hn)];exact q) fun c xs q=>by rw[qm (ql q hn)];exact q
theorem Inv.drop {a:Addr}{φ:Heap->Prop}(I:Inv X pins σ H s)(new:X.s₀.heap.get? a=none)(e:H a=some (.ext φ)):Inv X pins σ (del H a) s:=by
 have nt:∀{b:Addr} {xs:List V},H b=some (.tup xs)->b≠a:=fun {b xs} q z=>by subst z;rw[e] at q;cases q
 have no:∀{b c:Addr},H b=some (.own c)->b≠a:=fun {b c} q z=>by subst z;rw[e] at q;cases q
 have none':∀{b:Addr},H b=none->del H a b=none:=fun {b} q=>by
  by_cases z:b=a
  ·rw [z,q2N]
  ·rw [q2c z];exact q
 refine⟨I.ok,I.os,I.bare,⟨I.base.keep,I.base.slot,fun b o q n hx=>none' (I.base.free b o q n hx),I.base.there,fun b xs q=>?_,fun b o u q=>?_,fun b ps q=>?_⟩,I.loc,I.cell,none' I.free,fun x c q=>none' (I.freeC x c q),fun p hp=>?_,fun b o q=>?_,I.len⟩
 ·have:=I.base.tups b xs q
  rw[q2c (nt this)];exact this
 ·have:=I.base.frzs b o u q
  rw[q2c (fun z=>by subst z;rw[e] at this;cases this)];exact this
 ·obtain ⟨more,q2⟩:=I.base.tbls b ps q
  exact⟨more,by rw[q2c (fun z=>by subst z;rw[e] at q2;cases q2)];exact q2⟩
 ·obtain ⟨q,n,r⟩:=I.pin p hp
  exact⟨q,none' n,r⟩
 ·have z:b≠a:=fun z=>by rw[z,q2N] at q;cases q
  rw[q2c z] at q
  exact(I.hok b o q).stay (fun _ _ _ q=>q) (fun c q=>by rw[q2c (no q)];exact q) fun c xs q=>by rw[q2c (nt q)];exact q
end
section
variable {X:Cx}{k:Nat}{f C:Addr}{fd:FuncData}{ps:List Str}{sp:Sp}{x:Str}{p pos np cpos:Pos}{e:Expr}{es:List Expr}{t:TA}{E:XK}
theorem q7B {pins:List (Addr×Obj)}{σ:St}{H:Hp}{s:Shared}{Q:Addr->Hp->Prop}{us:List Value}{vs:List V}(c:ExcI X.K C f)(F:FnOk X.prog X.w X.K X.mg X.base CX0 k f fd ps sp)(hr:Room (k+1) X.A)(hb:q1h X.K fd ps [])(I:Inv X pins σ H s)(r:Vals vs us)(hl:vs.length<=sizeLine)
  (h:∀e,H e=none->sp (.ref e::vs) (upd H e (ExcO e C none)) (fun v H2=>v= .non/\Q e H2) E0):wpAny (model X.prog X.w) X.A (call (.ref C) us) (fun u s'=>∃a H',u= .ref a/\s.heap.get? a=none/\Inv X pins σ H' s'/\Q a H') X.xe s:=by
 obtain⟨bm,N,nm,qn,bs,hd,sn,sub,ab,col,dd,k0,k1,k2,k3,k5,hC,TL⟩:=q2L I.kIn c.cls
 have hfn:∃oI,s.heap.get? f=some oI/\oI.cls= .type "function":=by
  have q:Option.map (fun x:Obj=>x.cls) (X.K.lookup f)=some (.type "function"):=beq_iff_eq.mp c.fn
  cases hk:X.K.lookup f with
  |none=>rw[hk] at q;cases q
  |some o=>
   rw[hk] at q
   exact⟨o,I.kIn _ _ hk,zE q⟩
 obtain⟨oI,hfI,hfc⟩:=hfn
 obtain⟨hp,g,d,tk,os⟩:=s
 refine q4d zbo TL hC (zbP I.kIn c.init) hfI hfc (fun h' a hm=>?_) (by rw[<-r.length];exact hl)
 obtain⟨t0,ht,_⟩:=hm.there
 have I2:Inv X pins σ (upd H a (ExcO a C none)) {heap:=h',gens:=g,drawn:=d,toks:=tk,os:=os}:=I.laidN hm.keeps hm.new (q4I (sl:= #[]) ht)
 have hq:=h a (I.hok.none_of hm.new)
 have r2:Vals (V.ref a::vs) (Value.ref a::us):= .cons rfl r
 have hl2:(Value.ref a::us++([]:List Value)).length=ps.length:=by
  rw[zaU,<-r2.length]
  exact F.len _ _ _ _ hq
 refine zbf (zbk (F.run _ X.stack _ _ ⟨Value.ref a::us,[]⟩ (Value.ref a::us) _ _ E0 (hr.make C us []) (I2.env0.make C us []) (by have:=hb _ (Value.ref a::us) I2.kIn hl2;rw[zaU] at this;exact this) r2 hq) fun r s' hq'=>?_)
 cases r with
 |error e=>exact q5M pins σ _ _ e s' I2 hq'
 |ok fl=>
  cases fl with
  |ret u=>
   obtain⟨v,H',I3,rv,ev,q3⟩:=I2.after hq'
   subst ev
   exact⟨rv,a,H',rfl,hm.new,I3,q3⟩
  |next=>exact False.elim hq'
  |brk=>exact False.elim hq'
  |cont=>exact False.elim hq'
def q4S (X:Cx)(E:XK):Prop:=∀(pins:List (Addr×Obj)) (σ:St) (H:Hp) (s:Shared) (e:Addr) (oe:Obj) (vs:Array Value) (a0:Value),Inv X pins σ H s->s.heap.get? e=some oe->oe.data= .fields vs->vs[1]? =some .none->vs[0]? =some a0->(oe.dict=none->vs[2]? =some .none)->X.s₀.heap.get? e=none->H e=none->(∀p∈X.pn++pins,p.1≠e)->E oe.cls oe.dict H->X.xe (.ref e) s
def q5I (C:Addr)(sp:Sp)(E:XK)(t:TA):TS:=fun _ σ H=>t σ H fun vs H1=>vs.length<=sizeLine/\∀e,H1 e=none->sp (.ref e::vs) (upd H1 e (ExcO e C none)) (fun v H2=>v= .non/\∃od,H2 e=some (ExcO e C od)/\E (.ref C) od (del H2 e)) E0
theorem q7R (hR:q4S X E)(hX:X.ex=[])(hc:X.calm=true)(hg:Gl X x)(hm:X.mg x=some (.ref C))(c:ExcI X.K C f)(F:FnOk X.prog X.w X.K X.mg X.base CX0 k f fd ps sp)(hr:Room (k+1) X.A)(hb:q1h X.K fd ps [])(ha:PA X (e::es) t)(hd:(x==("__debug__":Str))=false:=by decide)
  (he:starEach (e::es) X.env=(false,eval e X.env)::starEach es X.env:=by rfl)(hpl:(backTo cpos (starEach es X.env)).any (·.1)=false:=by rfl):PS X (.Raise (some (.Call (.Name x np) (e::es) [] cpos)) none pos) (q5I C sp E t):=by
 intro pins s σ H D I h
 obtain⟨bm,N,nm,qn,bs,hdd,sn,sub,ab,col,dd,k0,k1,k2,k3,k5,hC,TL⟩:=q2L I.ok.mod.kin c.cls
 rw[arm_exec_Raise]
 refine yD (zaW ?_)
 refine q3V (C:=C) (nm:=nm) (q:=qn) (N:=N) (bs:=bs) (bm:=bm) (hdct:=hdd) (sn:=sn) (sub:=sub) (ab:=ab) (col:=col) (dd:=dd) (k0:=k0) (k1:=k1) (k2:=k2) (k3:=k3) (k5:=k5) (newId:="ValueError.__new__") (TL.hasType (by decide)) (I.ok.hd hc) ?_
 refine yD ?_
 refine zZ (zaH (Q:=fun v s'=>∃a H2,v= .ref a/\X.s₀.heap.get? a=none/\(∀p∈X.pn++pins,p.1≠a)/\Inv X pins σ H2 s'/\∃od,H2 a=some (ExcO a C od)/\E (.ref C) od (del H2 a)) (q1g I hg hm ?_ hd)) (fun v s3 h3=>?_) fun _ _ z=>z
 ·refine za0 (h₀:=X.base) I.ok.mod.kin c.kp (thn (ha cpos pins s σ H _ I h) fun us s1 ⟨vs,H1,I1,r,hl,q⟩=>⟨I1.kIn,?_⟩) he hpl
  refine zZ (q7B (Q:=fun a H2=>∃od,H2 a=some (ExcO a C od)/\E (.ref C) od (del H2 a)) c F hr hb I1 r hl q) (fun v s2 h2=>?_) fun _ _ z=>z
  obtain⟨a,H2,rfl,hnew,I2,q2⟩:=h2
  exact⟨a,H2,rfl,I1.zero hnew hX,(fun p hp z=>by have:=(I1.pin p hp).1;rw[z,hnew] at this;cases this),I2,q2⟩
 ·obtain ⟨a,H2,rfl,new,hpn,I2,od,e1,hE⟩:=h3
  obtain⟨⟨t0,sl,ho⟩,_,_⟩:=(show q0j X.prog X.w H2 s3.heap a (ExcO a C od) from I2.hok a _ e1)
  refine yD (zaW (zA ⟨a,_,_,rfl,I2.bk _ _ hC,ho,rfl,rfl,rfl,?_⟩))
  exact hR pins σ _ s3 a _ _ _ (I2.drop new e1) ho rfl rfl rfl (fun _=>rfl) new q2N hpn hE
end
section
variable {P:Program}{w:World}{K:W.Frag}{mg:Str->Option Value}{base:Heap}{N:List Str}{qual:Str}{scope:Scope}{f:Addr}{cd:Value}{A:Around}{outer:List Env}{s0:Shared}{H0:Hp}{E:XK}
theorem q44:q4S (cxOf (CXf P w) P w K mg base N qual scope f cd A outer s0 H0 E) E:=fun pins σ H s e oe vs a0 I he hd h1 h0 hcx new free hpn hE=>q5f I he hd h1 h0 hcx new free hpn hE
end
end L2
set_option maxHeartbeats 1000000
namespace L2
open PySem PySem.Spec PySem.Calls PyProof.Rows PySem.W Builtin Builtin.ObjectAttr Builtin.Getset_descriptor
section
variable {prog:Program}{w:World}{A:Around}{E:Value->Shared->Prop}{h:Heap}{g:Array GenState}{d:PySem.Drawn}{t:Nat}{os:OsState}{K:W.Frag}{x C dx:Addr}{ox:Obj}{mA:Str->Option Value}{f:Str}{v:Value}
theorem q93 {tk:Tok}{Q:Fin->Shared->Prop}(X:K.In h)(ho:h.get? x=some ox)(hc:ox.cls= .ref C)(hd:ox.dict=some dx){vs:Array Value}(hda:ox.data= .fields vs){cd:ClassData}(hcd:clsIn K C=some cd)(hhd:cd.hasDict=true)(hn:h.Ns1 dx mA)(hv:mA f=some v)(hf:PySem.W.findIn K (.ref C) f=some none)(hq:Q (.done (.ret v)) ⟨h,g,d,t,os⟩):
  wpAny (model prog w) A (Builtin.«object.__getattribute__» ⟨[.ref x,.str f tk],[]⟩) Q E ⟨h,g,d,t,os⟩:=by
 have L0:Looks (model prog w) h (typeOf (.ref x)) (.ref C):=hc▸(zbm ho).andThen .now
 have L3:=looks_findIn (M:=model prog w) X hf
 have L4:=looks_clsIn (M:=model prog w) X hcd
 unfold Builtin.«object.__getattribute__»
 refine yD (zA ?_)
 refine yD (zA ?_)
 refine yD (L0.at ?_)
 unfold find
 refine yD (yD (L3.at ?_))
 refine yD (zA ?_)
 refine yD (zA ?_)
 unfold ownThenClass inOwnDict ObjectAttr.ownDict inDict
 refine yD (yD ?_)
 obtain⟨c0,dct,dt,sl⟩:=ox
 dsimp only at hc hd hda
 subst hc hd hda
 refine yD (zag ho ?_)
 unfold instanceDict
 refine yD (zag ho ?_)
 refine yD (L4.at ?_)
 rw[hhd]
 refine zG rfl (zA ?_)
 refine wpAny_nsGet hn.ns ?_
 rw[hv]
 exact yD (zbh (zA (zA hq)))
theorem qas {tk:Tok}{R:Result->Shared->Prop}(X:K.In h)(ho:h.get? x=some ox)(hc:ox.cls= .ref C)(hd:ox.dict=some dx){vs:Array Value}(hda:ox.data= .fields vs){cd:ClassData}(hcd:clsIn K C=some cd)(hhd:cd.hasDict=true)(hn:h.Ns1 dx mA)(hv:mA f=some v)(hf:PySem.W.findIn K (.ref C) f=some none)(q:ExcT K C)(hq:R (.ok (.ret v)) ⟨h,g,d,t,os⟩):
  codeAny (model prog w) A (.call (.builtin "BaseException.__getattribute__") ⟨[.ref x,.str f tk],[]⟩) R ⟨h,g,d,t,os⟩:=
 za7 zbB.ga.plain F.entry_bexc_ga (q66 X (fun M=>hc▸(zbm ho).andThen .now) q (q93 X ho hc hd hda hcd hhd hn hv hf hq))
theorem qat {Q:Value->Shared->Prop}(X:K.In h)(ho:h.get? x=some ox)(hc:ox.cls= .ref C)(hd:ox.dict=some dx){vs:Array Value}(hda:ox.data= .fields vs){cd:ClassData}(hcd:clsIn K C=some cd)(hhd:cd.hasDict=true)(hn:h.Ns1 dx mA)(hv:mA f=some v)(hf:PySem.W.findIn K (.ref C) f=some none)(q:ExcT K C)(hh:handedIn v=true)(hq:Q v ⟨h,g,d,t+1,os⟩):
  wpAny (model prog w) A (getAttr (.ref x) f true) Q E ⟨h,g,d,t,os⟩:=by
 have f3:=zbB.ga.bind (.ref x)
 have hx2:(Value.builtin "BaseException.__getattribute__"==Value.builtin "object.__getattribute__")=false:=by walk_at "k"
 have hx1:(onTheHeap (Value.ref C)&&Value.builtin "BaseException.__getattribute__"==Value.builtin "object.__getattribute__")=false:=by rw[hx2];rfl
 have L0:Looks (model prog w) h (typeOf (.ref x)) (.ref C):=hc▸(zbm ho).andThen .now
 have L3:=looks_findIn (M:=model prog w) X q.ga
 have L4:=looks_findIn (M:=model prog w) X q.gh
 unfold getAttr
 refine yD (wpAny_mkText ?_)
 unfold getAttrBy
 refine zar (yD (L0.at (yD (L3.at ?_))))
 dsimp only
 rw[hx1]
 refine zG rfl ?_
 unfold getAttrByItsOwn hookBefore
 refine yD ?_
 refine zaz rfl (L4.at ?_)
 refine yD (wpAny_attempt (zar ?_))
 unfold callGetattribute
 refine zG rfl ?_
 unfold boundAndCalled
 refine yD (wpAny_of_eq f3 ?_)
 refine zbf (qas X ho hc hd hda hcd hhd hn hv hf q ?_)
 dsimp only
 cases v with
 |builtin i=>
  unfold handedOut
  have hh:(withoutEnding? i "#data").isNone=true:=hh
  refine zG ?_ (zA hq)
  cases z:withoutEnding? i "#data" with
  |none=>rfl
  |some y=>rw[z] at hh;cases hh
 |_=>exact zA hq
end
def tFldX (K:W.Frag)(f:Str)(ta:TE):TE:=fun σ H Q=>ta σ H fun x H1=>∃a oe u C d fs v,x= .ref a/\H1 a=some (.frz oe u)/\oe.cls= .ref C/\oe.dict=some d/\(∃vs,oe.data= .fields vs)/\ExcF K C/\ExcT K C/\PySem.W.findIn K (.ref C) f=some none/\H1 d=some (XdO d fs)/\fs.lookup f=some v/\Q v H1
section
variable {X:Cx}{o:Expr}{ta:TE}{f:Str}{pos:Pos}
theorem q7Y (K:W.Frag)(ha:PE X o ta)(hb:attributeBase o f X.env (eval o X.env)=eval o X.env:=by rfl)(hK:X.K=K:=by rfl):PE X (.Attribute o f pos) (tFldX K f ta):=by
 subst hK
 intro pins s σ H Q I h
 refine q91 hb (thn (ha pins s σ H _ I h) fun ov s1 ⟨x,H1,I1,rx,a,oe,u,C,d,fs,v,ex,ea,hc,hd,⟨vs,hda⟩,qf,qt,hf,e2,l,q⟩=>?_)
 subst ex
 obtain rfl:ov=Value.ref a:=rx
 obtain⟨ho,_⟩:=(show q0j X.prog X.w H1 s1.heap a (.frz oe u) from I1.hok a _ ea)
 obtain⟨⟨_,mA,hn,r,wi⟩,_,_⟩:=(show q0j X.prog X.w H1 s1.heap d (XdO d fs) from I1.hok d _ e2)
 obtain⟨cd,hcd,hg⟩:=any_some qf.cd
 rw[zS] at hg
 obtain⟨uv,hu,ru⟩:=RelO.some_of (v:=v) (o:=mA f) (by rw[<-l];exact r f)
 have IK:=I1.kIn
 have I2:=I1.tok (s1.toks+1)
 obtain⟨hp,g,dd,tk,os⟩:=s1
 exact qat IK ho hc hd hda hcd hg.1 hn hu hf qt (q5s ru) ⟨v,H1,I2,ru,q⟩
end
end L2
namespace L2
open PySem PySem.Spec PyProof.Rows
structure LaidX (K:W.Frag)(mg:Str->Option Value)(x:Str)(C:Addr)(qual:Str)(st:Stmt)(ps:List Str):Prop where
 ex:∃f fd,Fun K "__init__" qual st f fd/\ExcI K C f/\q1h K fd ps []
 at_:mg x=some (.ref C)
structure MakesX (P:Program)(w:World)(K:W.Frag)(mg:Str->Option Value)(base:Heap)(k:Nat)(x:Str)(C:Addr)(ps:List Str)(sp:Sp):Prop where
 ex:∃f fd,ExcI K C f/\FnOk P w K mg base CX0 k f fd ps sp/\q1h K fd ps []
 at_:mg x=some (.ref C)
section
variable {P:Program}{w:World}{K:W.Frag}{mg:Str->Option Value}{base:Heap}
theorem LaidX.makes {x:Str}{C:Addr}{qual:Str}{st:Stmt}{N ps:List Str}{k:Nat}{sp:Sp}(L:LaidX K mg x C qual st ps)(S:FnScope N ps (qe st))(len:∀vs H Q E,sp vs H Q E->vs.length=ps.length)
  (hbody:∀(f:Addr) (cdv:Value) (A:Around) (outer:List Env) (s:Shared) (H:Hp) (vs:List V) (Q:VK) (E:XK),Room k (A.deeper (envOfC qual (qe st) s.heap.objs.size f cdv))->sp vs H Q E->
   ∃t,PSs (cxOf CX0 P w K mg base N qual (qe st) f cdv A outer s H E).nox (qu st) t/\t {nx:=fun _ H'=>Q .non H',rt:=Q} (q1P N vs) H):MakesX P w K mg base (k+1) x C ps sp:=by
 obtain⟨f,fd,F,M,b⟩:=L.ex
 exact⟨⟨f,fd,M,F.ok S len (fun cdv A outer s H vs Q E hr h=>hbody f cdv A outer s H vs Q E hr h),b⟩,L.at_⟩
end
section
variable {X:Cx}{k k':Nat}{C:Addr}{ps:List Str}{sp:Sp}{x:Str}{np cpos pos:Pos}{e:Expr}{es:List Expr}{t:TA}{E:XK}
theorem q7Q (c:MakesX X.prog X.w X.K X.mg X.base k x C ps sp)(hR:q4S X E)(hX:X.ex=[])(hc:X.calm=true)(hr:Room k' X.A)(hk:k+1<=k')(hg:Gl X x)(ha:PA X (e::es) t)(hd:(x==("__debug__":Str))=false:=by decide)
  (he:starEach (e::es) X.env=(false,eval e X.env)::starEach es X.env:=by rfl)(hpl:(backTo cpos (starEach es X.env)).any (·.1)=false:=by rfl):PS X (.Raise (some (.Call (.Name x np) (e::es) [] cpos)) none pos) (q5I C sp E t):=by
 obtain⟨f,fd,I,F,b⟩:=c.ex
 exact q7R hR hX hc hg c.at_ I F (hr.mono hk) b ha hd he hpl
end
section
variable {σ:St}{H:Hp}{Q:VK}{K:W.Frag}{ta tv:TE}{t:TA}{f:Str}{D:Ends}
theorem q9d {C:Addr}{sp:Sp}{E:XK}(q:t σ H fun vs H1=>vs.length<=sizeLine/\∀e,H1 e=none->sp (.ref e::vs) (upd H1 e (ExcO e C none)) (fun v H2=>v= .non/\∃od,H2 e=some (ExcO e C od)/\E (.ref C) od (del H2 e)) E0):q5I C sp E t D σ H:=q
def rBI (K:W.Frag)(vs:List V)(H1:Hp)(Q:VK):Prop:=∃a C od rest,vs= .ref a::rest/\H1 a=some (ExcO a C od)/\q7c K C/\rest.length<=sizeLine/\Q .non H1
theorem r_bi0 (q:t σ H fun vs H1=>rBI K vs H1 Q):tBI K t σ H Q:=q
theorem r_bi {a C:Addr}{od:Option Addr}{rest:List V}(h:H a=some (ExcO a C od))(c:q7c K C)(l:rest.length<=sizeLine)(q:Q .non H):rBI K (.ref a::rest) H Q:=⟨a,C,od,rest,rfl,h,c,l,q⟩
def rSetX (K:W.Frag)(f:Str)(x y:V)(H2:Hp)(R:Hp->Prop):Prop:=∃e C,x= .ref e/\ExcF K C/\ExcT K C/\PySem.W.findIn K (.ref C) f=some none/\
 ((H2 e=some (ExcO e C none)/\∀d,H2 d=none->d≠e->R (upd (upd (upd H2 d (XdO d [])) e (ExcO e C (some d))) d (XdO d [(f,y)])))\/
  ∃d fs,H2 e=some (ExcO e C (some d))/\H2 d=some (XdO d fs)/\fs.length<900/\R (upd H2 d (XdO d (putF f y fs))))
theorem q7H (q:tv σ H fun y H1=>ta σ H1 fun x H2=>rSetX K f x y H2 fun H3=>D.nx σ H3):sFldX K ta tv f D σ H:=q
def rGetX (K:W.Frag)(f:Str)(x:V)(H1:Hp)(Q:VK):Prop:=∃a oe u C d fs v,x= .ref a/\H1 a=some (.frz oe u)/\oe.cls= .ref C/\oe.dict=some d/\(∃vs,oe.data= .fields vs)/\ExcF K C/\ExcT K C/\PySem.W.findIn K (.ref C) f=some none/\H1 d=some (XdO d fs)/\fs.lookup f=some v/\Q v H1
theorem q7K (q:ta σ H fun x H1=>rGetX K f x H1 Q):tFldX K f ta σ H Q:=q
end
end L2
namespace L2
open PySem PySem.Spec PyProof.Rows
end L2
namespace L2
open PySem PySem.Spec PyProof.Rows
end L2
namespace L2
open PySem PySem.Spec PyProof.Rows
end L2
namespace L2
open PySem PySem.Spec PyProof.Rows
end L2
namespace L2
open PySem PySem.Spec PyProof.Rows
section
variable {κ:Type}[DecidableEq κ]
def valV (kvs:List (κ×V))(k:κ):Option V:=(kvs.find? fun kv=>decide (kv.1=k)).map (·.2)
def putK (kvs:List (κ×V))(k:κ)(v:V):List (κ×V):=
 if (kvs.any fun kv=>decide (kv.1=k))=true then kvs.map (fun kv=>if kv.1=k then(kv.1,v) else kv) else kvs++[(k,v)]
theorem q1W {p:κ×V}{r:List (κ×V)}{k:κ}(e:p.1=k):valV (p::r) k=some p.2:=by simp[valV,List.find?_cons,e]
theorem q4g {p:κ×V}{r:List (κ×V)}{k:κ}(e:¬p.1=k):valV (p::r) k=valV r k:=by simp[valV,List.find?_cons,e]
theorem q5T (kvs:List (κ×V))(k:κ)(v:V):(putK kvs k v).length<=kvs.length+1:=by
 unfold putK
 split
 ·rw [yC];omega
 ·rw [zai,zaf,zcq];omega
theorem RelO.isSome_eq {o:Option V}{u:Option Value}(r:RelO o u):o.isSome=u.isSome:=by
 cases o with
 |none=>cases u with
  |none=>rfl
  |some _=>exact(show False from r).elim
 |some _=>cases u with
  |none=>exact(show False from r).elim
  |some _=>rfl
theorem KV.val {kvs:List (κ×V)}{vs:List (κ×Value)}(r:KV kvs vs)(k:κ):RelO (valV kvs k) (valueAt vs k):=by
 unfold KV at r
 induction r with
 |nil=>exact True.intro
 | @cons p q ps qs h t ih=>
  obtain⟨h1,h2⟩:=h
  by_cases e:p.1=k
  ·have e':q.1=k:=h1.symm.trans e
   have b:valueAt (q::qs) k=some q.2:=by simp[valueAt,List.find?_cons,e']
   rw[q1W e,b];exact h2
  ·have e':¬q.1=k:=fun z=>e (h1.trans z)
   have b:valueAt (q::qs) k=valueAt qs k:=by simp[valueAt,List.find?_cons,e']
   rw[q4g e,b];exact ih
theorem KV.any {kvs:List (κ×V)}{vs:List (κ×Value)}(r:KV kvs vs)(k:κ):(kvs.any fun kv=>decide (kv.1=k))=vs.any fun kv=>decide (kv.1=k):=by
 unfold KV at r
 induction r with
 |nil=>rfl
 |cons h t ih=>rw[zce,zce,ih,h.1]
theorem KV.repl {kvs:List (κ×V)}{vs:List (κ×Value)}(r:KV kvs vs)(k:κ){y:V}{u:Value}(ry:RelV y u):
  KV (kvs.map fun kv=>if kv.1=k then(kv.1,y) else kv) (vs.map fun kv=>if kv.1=k then(kv.1,u) else kv):=by
 unfold KV at r ⊢
 induction r with
 |nil=>exact .nil
 | @cons p q ps qs h t ih=>
  rw[zao,zao]
  refine .cons ?_ ih
  obtain⟨h1,h2⟩:=h
  by_cases e:p.1=k
  ·rw [zM e,zM (h1.symm.trans e)];exact⟨h1,ry⟩
  ·rw [zI e,zI (fun z=>e (h1.trans z))];exact⟨h1,h2⟩
theorem KV.put {kvs:List (κ×V)}{vs:List (κ×Value)}(r:KV kvs vs)(k:κ){y:V}{u:Value}(ry:RelV y u):KV (putK kvs k y) (stored vs k u):=by
 unfold putK stored
 rw[r.any k]
 by_cases e:(vs.any fun kv=>decide (kv.1=k))=true
 ·rw [zM e,zM e];exact r.repl k ry
 ·rw [zI e,zI e];exact Paired.snoc r ⟨rfl,ry⟩
end
theorem q9F {P:Program}{w:World}{k:Key}{u:Value}(r:RelV (kV k) u):(q12 P w).is k u=true:=by
 cases k with
 |inl i=>obtain⟨t,e⟩:=(show∃t,u=Value.int i t from r);subst e;exact q5R P w i t
 |inr x=>obtain⟨t,e⟩:=(show∃t,u=Value.str x t from r);subst e;exact q5Q P w x t
theorem q5q {P:Program}{w:World}:∀{ks:List Key} {us:List Value},Vals (ks.map kV) us->ItemsAre (q12 P w) ks us
 |[],_,r=>by rw[zcl] at r;cases r;exact .nil
 |k::ks,_,r=>by
  rw[zao] at r
  cases r with
  |cons h t=>exact .cons (q9F h) (q5q t)
abbrev KT (H:Hp):List (List Key×V)->List (List Key×Addr×Value)->Prop:=Paired fun p q=>p.1=q.1/\H q.2.1=some (.tup (p.1.map kV))/\RelV p.2 q.2.2
theorem KT.val {H:Hp}{kvs:List (List Key×V)}{xs:List (List Key×Addr×Value)}(r:KT H kvs xs)(k:List Key):RelO (valV kvs k) ((atKey xs k).map (·.2)):=by
 induction r with
 |nil=>exact True.intro
 | @cons p q ps qs h t ih=>
  obtain⟨h1,_,h2⟩:=h
  by_cases e:p.1=k
  ·have e':q.1=k:=h1.symm.trans e
   have b:atKey (q::qs) k=some q.2:=by simp[atKey,List.find?_cons,e']
   rw[q1W e,b];exact h2
  ·have e':¬q.1=k:=fun z=>e (h1.trans z)
   have b:atKey (q::qs) k=atKey qs k:=by simp[atKey,List.find?_cons,e']
   rw[q4g e,b];exact ih
section
variable {P:Program}{w:World}{H:Hp}{h:Heap}{a:Addr}
theorem rd_of {u:HO}(ok:HOk P w H h)(e:Rd H a u):q0j P w H h a u:=e.ok ok
theorem q9L {kvs:List (Key×V)}(ok:HOk P w H h)(e:Rd H a (.dK kvs)):kvs.length<=sizeLine/\(a==sysModules)=false/\∃vs,KV kvs vs/\h.DictOf (q12 P w) a vs:=
 show q0j P w H h a (.dK kvs) from rd_of ok e
theorem dk_of {kvs:List (Key×V)}(ok:HOk P w H h)(e:H a=some (.dK kvs)):kvs.length<=sizeLine/\(a==sysModules)=false/\∃vs,KV kvs vs/\h.DictOf (q12 P w) a vs:=q9L ok (.inl e)
theorem q8n {ks:List Key}(ok:HOk P w H h)(e:H a=some (.tup (ks.map kV))):(tupleKind (q12 P w)).is h ks a:=by
 obtain⟨_,its,r,o,h1,h2,n,h3⟩:=(show q0j P w H h a (.tup (ks.map kV)) from ok a _ e)
 exact⟨o,its.toArray,n,h1,h2,h3,by simpa using q5q r⟩
theorem qbQ {kvs:List (List Key×V)}(ok:HOk P w H h)(e:Rd H a (.dT kvs)):kvs.length<=sizeLine/\(a==sysModules)=false/\
  ∃xs,KT H kvs xs/\h.DictOfH (tupleKind (q12 P w)) a xs:=by
 obtain⟨z,y,xs,r,o,es,ep,h1,h2,h3,h4,h5⟩:=(show q0j P w H h a (.dT kvs) from rd_of ok e)
 refine⟨z,y,xs,r,o,es,ep,h1,h2,h3,h4,fun x hx=>?_,h5⟩
 have all:∀{l:List (List Key×V)} {m:List (List Key×Addr×Value)},KT H l m->∀x∈m,(tupleKind (q12 P w)).is h x.1 x.2.1:=by
  intro l m q
  induction q with
  |nil=>intro x hx;exact nomatch hx
  | @cons p q ps qs hq t ih=>
   intro x hx
   rcases zJ.mp hx with e|hx
   ·subst e
    exact q8n ok (by rw[<-hq.1];exact hq.2.1)
   ·exact ih x hx
 exact all r x hx
end
def DGet (H:Hp)(a:Addr)(y:V)(r:Option V):Prop:=
 (∃kvs k,Rd H a (.dK kvs)/\y=kV k/\r=valV kvs k)\/∃kvs k b,Rd H a (.dT kvs)/\y= .ref b/\H b=some (.tup (k.map kV))/\r=valV kvs k
theorem DGet.k {H:Hp}{a:Addr}{kvs:List (Key×V)}{k:Key}(e:H a=some (.dK kvs)):DGet H a (kV k) (valV kvs k):= .inl ⟨kvs,k,.inl e,rfl,rfl⟩
section
variable {X:Cx}{pins:List (Addr×Obj)}{σ:St}{H:Hp}{s:Shared}{a:Addr}{y v:V}{u r:Value}{o:Option V}{A:Around}{E:Value->Shared->Prop}
theorem Inv.big (I:Inv X pins σ H s):sysModules<s.heap.objs.size:=by
 have h:mainGlobals<s.heap.objs.size:=(I.mod.glob.keeps I.bk).lt
 exact zcm (by decide) h
theorem q8N {Q:Value->Shared->Prop}(hu:A.units+1<cLine)(I:Inv X pins σ H s)(g:DGet H a y (some v))(ry:RelV y u)(h:∀w' s',Inv X pins σ H s'->RelV v w'->Q w' s'):
  wpAny (model X.prog X.w) A (getItem (.ref a) u) Q E s:=by
 rcases g with⟨kvs,k,e,ey,l⟩|⟨kvs,k,b,e,ey,eb,l⟩
 ·subst ey
  obtain⟨z,hd,vs,rel,dd⟩:=q9L I.hok e
  obtain⟨w',hw,rw'⟩:=RelO.some_of (v:=v) (o:=valueAt vs k) (by rw[l];exact rel.val k)
  exact wpAny_getItem_of (q9F ry) dd.mapOf hw (h w' _ (I.tok _) rw')
 ·subst ey
  cases(show u=Value.ref b from ry)
  obtain⟨z,hd,xs,rel,dd⟩:=qbQ I.hok e
  obtain⟨w',hw,rw'⟩:=RelO.some_of (v:=v) (o:=(atKey xs k).map (·.2)) (by rw[l];exact rel.val k)
  obtain⟨p,hp,hp2⟩:=zaG.mp hw
  refine wpAny_getItem_heap (tupleKind_room_in1 hu) (q8n I.hok eb) dd hp ?_
  rw[hp2]
  exact h w' _ (I.tok _) rw'
theorem d_in {Q:Value->Shared->Prop}(hu:A.units+1<cLine)(I:Inv X pins σ H s)(g:DGet H a y o)(ry:RelV y u)(h:∀s',Inv X pins σ H s'->Q (.bool o.isSome) s'):
  wpAny (model X.prog X.w) A (compareOp .In u (.ref a)) Q E s:=by
 rcases g with⟨kvs,k,e,ey,l⟩|⟨kvs,k,b,e,ey,eb,l⟩
 ·subst ey
  obtain⟨z,hd,vs,rel,dd⟩:=q9L I.hok e
  refine wpAny_in_of (q9F ry) hd dd.mapOf ?_
  rw[<-(rel.val k).isSome_eq,<-l]
  exact h _ (I.tok _)
 ·subst ey
  cases(show u=Value.ref b from ry)
  obtain⟨z,hd,xs,rel,dd⟩:=qbQ I.hok e
  refine wpAny_in_heap (tupleKind_room_in1 hu) (q8n I.hok eb) hd dd ?_
  have q:=(rel.val k).isSome_eq
  rw[Option.isSome_map] at q
  rw[<-q,<-l]
  exact h _ (I.tok _)
theorem qbS {h':Heap}{t':Nat}{ob:HO}(I:Inv X pins σ H s)(mu:Mut (H a))(hs:Heap.SameBut a s.heap h')(he:∃q,h'.get? a=some q)(new:q0j X.prog X.w (upd H a ob) h' a ob):
  Inv X pins σ (upd H a ob) {s with heap:=h',toks:=t'}:=
 I.write (x:=a) (e:=a) mu (.inl rfl) (fun b q hb z=>(hs.2 b hb).trans z) he new
theorem dk_new {P:Program}{w:World}{H':Hp}{h':Heap}{kvs:List (Key×V)}{vs:List (Key×Value)}(z:kvs.length<=sizeLine)(hd:(a==sysModules)=false)(rel:KV kvs vs)(dd:h'.DictOf (q12 P w) a vs):
  q0j P w H' h' a (.dK kvs):=⟨z,hd,vs,rel,dd⟩
end
def NoSl (i:Expr):Prop:=∀ov iv,subscripted i false ov iv=operate [ov,iv] (getItem ov iv)
theorem qaD {prog:Program}{w:World}{A:Around}{E:Value->Shared->Prop}{s:Shared}{env:Env}{value slice:Expr}{pos:Pos}{T id:String}{Q:Value->Shared->Prop}
  (hl:typeLookup (.type T) "__getitem__"=pure (some (.builtin id)))(hs:NoSl slice)
  (h:wpAny (model prog w) A (eval value env) (fun o s₁=>wpAny (model prog w) A (eval slice env) (fun i s₂=>s₂.TypeIs o T/\wpAny (model prog w) A (getItem o i) Q E s₂) E s₁) E s):
  wpAny (model prog w) A (eval (.Subscript value slice pos) env) Q E s:=by
 refine Subscript_ (zZ h (fun o s₁ h₁=>zZ h₁ (fun i s₂ h₂=>?_) fun _ _ x=>x) fun _ _ x=>x)
 obtain⟨hT,h₂⟩:=h₂
 unfold subscriptTail
 refine yD ?_
 rw[getitemInPython_of_ne hT.not_modules]
 refine yD (wpAny_specialOf hT hl ?_)
 have fin:wpAny (model prog w) A (subscripted slice false o i) (fun r s₃=>wpAny (model prog w) A (letTemporaryGo value o r >>= fun _=>pure r) Q E s₃) E s₂:=by
  rw[hs o i]
  exact wpAny_operating (zZ h₂ (fun r s₃ h₃=>yD (wpAny_letTemporaryGo (zA h₃))) fun _ _ x=>x)
 first
  |exact zA (yD fin)
  |exact yD (zA (yD fin))
  |exact yD fin
theorem q61 {X:Cx}{pins:List (Addr×Obj)}{σ:St}{H:Hp}{s:Shared}{a:Addr}{y:V}{o:Option V}(I:Inv X pins σ H s)(g:DGet H a y o):s.TypeIs (.ref a) "dict":=by
 rcases g with⟨kvs,k,e,_,_⟩|⟨kvs,k,b,e,_,_,_⟩
 ·obtain ⟨_,_,vs,_,dd⟩:=q9L I.hok e
  exact dd.typeIs
 ·obtain ⟨_,_,xs,_,dd⟩:=qbQ I.hok e
  exact dd.typeIs
def tDGet (td ty:TE):TE:=fun σ H Q=>td σ H fun x H1=>ty σ H1 fun y H2=>∃a v,x= .ref a/\DGet H2 a y (some v)/\Q v H2
def tDIn (ty td:TE):TE:=fun σ H Q=>ty σ H fun y H1=>td σ H1 fun x H2=>∃a o,x= .ref a/\DGet H2 a y o/\Q (.bl o.isSome) H2
section
variable {X:Cx}{o i e value:Expr}{pos pos' tpos:Pos}{td ty tv:TE}
theorem qbc (hu:X.A.units+1<cLine)(ho:PE X o td)(hi:PE X i ty)(hs:NoSl i):PE X (.Subscript o i pos) (tDGet td ty):=by
 intro pins s σ H Q I h
 refine qaD PySem.F.slot_dict_getitem.lookup hs (thn (ho pins s σ H _ I h) fun u s1 ⟨x,H1,I1,rx,q1⟩=>thn (hi pins s1 σ H1 _ I1 q1) fun iv s2 ⟨y,H2,I2,ry,a,v,ex,g,q2⟩=>?_)
 subst ex
 obtain rfl:u=Value.ref a:=rx
 exact⟨q61 I2 g,q8N hu I2 g ry fun w' s3 I3 rw'=>⟨v,H2,I3,rw',q2⟩⟩
theorem pc_din (hu:X.A.units+1<cLine)(hi:PE X i ty)(ho:PE X o td):PC X .In i o (tDIn ty td):=by
 intro pins s σ H Q I h
 refine thn (hi pins s σ H _ I h) fun iv s1 ⟨y,H1,I1,ry,q1⟩=>thn (ho pins s1 σ H1 _ I1 q1) fun u s2 ⟨x,H2,I2,rx,a,ov,ex,g,q2⟩=>?_
 subst ex
 obtain rfl:u=Value.ref a:=rx
 exact d_in hu I2 g ry fun s3 I3=>⟨.bl ov.isSome,H2,I3,rfl,q2⟩
end
theorem q9M {P:Program}{w:World}{H:Hp}(h:Heap)(hb:sysModules<h.objs.size):q0j P w H (h.push {cls:= .type "dict",data:= .dict #[]}) h.objs.size (.dK []):=
 ⟨zbC _,beq_eq_false_iff_ne.mpr (Ne.symm (zP hb)),[],.nil,Heap.DictOf.new h⟩
def q4W:List (TE×TE)->St->Hp->(List (V×V)->Hp->Prop)->Prop
 |[],_,H,Q=>Q [] H
 |(tk,tv)::r,σ,H,Q=>tk σ H fun x H1=>tv σ H1 fun y H2=>q4W r σ H2 fun ps H3=>Q ((x,y)::ps) H3
abbrev VV:List (V×V)->List (Value×Value)->Prop:=Paired fun p q=>RelV p.1 q.1/\RelV p.2 q.2
def PPs (X:Cx)(pos:Pos)(keys:List (Option Expr))(values:List Expr)(trs:List (TE×TE)):Prop:=
 ∀(pins:List (Addr×Obj)) (s:Shared) (σ:St) (H:Hp) (Q:List (V×V)->Hp->Prop),Inv X pins σ H s->q4W trs σ H Q->
  wpAny (model X.prog X.w) X.A (evalPairs (pairTrees keys values X.env pos)) (fun vs s'=>∃ps H',Inv X pins σ H' s'/\VV ps vs/\Q ps H') X.xe s
theorem qb4 {X:Cx}{pos:Pos}:PPs X pos [] [] []:=fun pins s σ H Q I h=>pairTrees_nil_walk ⟨[],H,I,.nil,h⟩
theorem q2D {X:Cx}{pos:Pos}{k v:Expr}{ks:List (Option Expr)}{vs:List Expr}{tk tv:TE}{trs:List (TE×TE)}(hk:PE X k tk)(hv:PE X v tv)(hr:PPs X pos ks vs trs):
  PPs X pos (some k::ks) (v::vs) ((tk,tv)::trs):=fun pins s σ H Q I h=>
 pairTrees_cons_walk (thn (hk pins s σ H _ I h) fun u s1 ⟨x,H1,I1,rx,q1⟩=>thn (hv pins s1 σ H1 _ I1 q1) fun w2 s2 ⟨y,H2,I2,ry,q2⟩=>
  thn (hr pins s2 σ H2 _ I2 q2) fun ws s3 ⟨ps,H3,I3,rel,q3⟩=>⟨(x,y)::ps,H3,I3,.cons ⟨rx,ry⟩ rel,q3⟩)
def q2a (kvs more:List (Key×V)):List (Key×V):=more.foldl (fun acc kv=>putK acc kv.1 kv.2) kvs
theorem KV.merge:∀{more:List (Key×V)} {rs:List (Key×Value)} {kvs:List (Key×V)} {vs:List (Key×Value)},KV more rs->KV kvs vs->KV (q2a kvs more) (merged vs rs):=by
 intro more rs kvs vs r
 unfold KV at r
 induction r generalizing kvs vs with
 |nil=>intro q;exact q
 | @cons p q ps qs h t ih=>
  intro r0
  have e:KV (putK kvs p.1 p.2) (stored vs q.1 q.2):=by
   have:=r0.put p.1 h.2
   rw[<-h.1];exact this
  exact ih e
theorem q2J:∀(more kvs:List (Key×V)),(q2a kvs more).length<=kvs.length+more.length
 |[],kvs=>by show kvs.length<=kvs.length+0;omega
 |p::r,kvs=>by
  have h1:=q2J r (putK kvs p.1 p.2)
  have h2:=q5T kvs p.1 p.2
  show(q2a (putK kvs p.1 p.2) r).length<=_
  rw[zaf];omega
theorem q4c {P:Program}{w:World}:∀{kvs:List (Key×V)} {ws:List (Value×Value)},VV (kvs.map fun kv=>(kV kv.1,kv.2)) ws->∃rs,Carries (q12 P w) ws rs/\KV kvs rs
 |[],_,r=>by rw[zcl] at r;cases r;exact⟨[],True.intro,.nil⟩
 |p::kvs,_,r=>by
  rw[zao] at r
  cases r with
  | @cons a b as bs h t=>
   obtain⟨rs,c,q⟩:=q4c (P:=P) (w:=w) t
   obtain⟨b1,b2⟩:=b
   exact⟨(p.1,b2)::rs,⟨q9F h.1,rfl,c⟩,.cons ⟨rfl,h.2⟩ q⟩
def tDisp (trs:List (TE×TE)):TE:=fun σ H Q=>∀p,H p=none->q4W trs σ (upd H p (.dK [])) fun ps H2=>H2 p=some (.dK [])/\∃kvs:List (Key×V),ps=kvs.map (fun kv=>(kV kv.1,kv.2))/\kvs.length<=15/\Q (.ref p) (upd H2 p (.dK (q2a [] kvs)))
theorem qbb {X:Cx}{pos:Pos}{keys:List (Option Expr)}{values:List Expr}{trs:List (TE×TE)}(h:PPs X pos keys values trs)(hall:keys.all (·.isSome)=true)(hl:keys.length=values.length)(h0:keys≠[])
  (h15:keys.length<=15):PE X (.Dict keys values pos) (tDisp trs):=by
 intro pins s σ H Q I q
 have hn:=I.hok.fresh (zC s.heap.objs.size)
 have I1:=I.laid (a:=s.heap.objs.size) (o:= .dK []) (h':=s.heap.push {cls:= .type "dict",data:= .dict #[]}) (t':=s.toks) (fun _ _ q=>zB _ q) (zC _) (q9M s.heap I.big)
 refine wpAny_Dict_walk (knd:=q12 X.prog X.w) hall hl h0 h15 (thn (h pins _ σ _ _ I1 (q _ hn)) fun ws s2 ⟨ps,H2,I2,rel,e,kvs,ep,lk,q2⟩=>?_)
 subst ep
 obtain⟨rs,c,rk⟩:=q4c (P:=X.prog) (w:=X.w) rel
 obtain⟨z,hd,vs0,r0,dd⟩:=dk_of I2.hok e
 cases r0
 refine⟨rs,c,dd,fun h' dd' hs=>⟨.ref s.heap.objs.size,_,?_,rfl,q2⟩⟩
 have hz:(q2a [] kvs).length<=sizeLine:=by
  have h1:=q2J kvs []
  rw[zcq] at h1
  rw[sizeLine_eq];omega
 have he:∃q,h'.get? s.heap.objs.size=some q:=let ⟨q,_,_,hq,_⟩:=dd';⟨q,hq⟩
 exact qbS I2 (by rw[e];exact True.intro) hs he (dk_new hz hd (rk.merge .nil) dd')
end L2
namespace Att
open PySem PySem.W PySem.Calls PyProof.Rows
end Att
namespace L2
open PySem PySem.Spec PyProof.Rows
end L2
namespace L2
open PySem PySem.Spec PyProof.Rows
def d3 (a1 b1 a2 b2 a3 b3:Str):List (Key×V):=q2a [] [(.inr a1,.str b1),(.inr a2,.str b2),(.inr a3,.str b3)]
open Builtin.Str (occurrences partsBetween strKind)
section
variable {X:Cx}
def rSplit:V->List V->Hp->VK->Prop:=fun x vs H Q=>∃a b:Str,x= .str a/\vs=[.str b]/\(b.length==0)=false/\a.length<=sizeLine/\(Txt.split a b).length<=sizeLine/\∀p,H p=none->Q (.ref p) (upd H p (.lst ((Txt.split a b).map V.str)))
theorem q2B:∀(zs:List Str) (k:Nat),Vals (zs.map V.str) (strsFrom k zs)
 |[],_=> .nil
 |z::zs,k=> .cons ⟨_,rfl⟩ (q2B zs (k+1))
theorem q2h:MtM X "str.split" rSplit:=by
 intro pins s σ H x vs v us Q I rx rv h
 obtain⟨a,b,rfl,rfl,hb,ha,hs,q⟩:=h
 obtain⟨t,rfl⟩:=rx
 obtain⟨u,rfl,ru⟩:=q2u rv
 obtain⟨t',rfl⟩:=ru
 have one:Txt.split a b=[a]->Q (.ref s.heap.objs.size) (upd H s.heap.objs.size (.lst [.str a])):=fun e=>by
  have:=q _ (I.hok.fresh (zC _))
  rw[e] at this
  exact this
 by_cases h1:(decide (a.length<b.length)||decide (strKind a<strKind b))=true
 ·refine call_meets zcn (typeIs_str _ _ _) zch (zb9 _ _) (meets_str_split_cannot_occur a b t t' h1) ?_
  exact⟨.ref _,_,I.lnew (its:=[.str a t]) (ys:=[.str a]) (.cons ⟨_,rfl⟩ .nil) (by show 1<=sizeLine;have:=qC;omega),rfl,one (zM h1)⟩
 have h1':(decide (a.length<b.length)||decide (strKind a<strKind b))=false:=by simpa using h1
 by_cases hf:(occurrences a b 0 a.length (a.length+1)).isEmpty=true
 ·refine call_meets zcn (typeIs_str _ _ _) zch (zb9 _ _) (meets_str_split_not_found a b t t' h1' hb hf) ?_
  exact⟨.ref _,_,I.lnew (its:=[.str a t]) (ys:=[.str a]) (.cons ⟨_,rfl⟩ .nil) (by show 1<=sizeLine;have:=qC;omega),rfl,one (by unfold Txt.split;rw[if_neg h1,if_pos hf])⟩
 ·have es:Txt.split a b=partsBetween a (occurrences a b 0 a.length (a.length+1)) b.length:=by unfold Txt.split;rw[if_neg h1,if_neg hf]
  have hf':(occurrences a b 0 a.length (a.length+1)).isEmpty=false:=by simpa using hf
  rw[es] at hs q
  refine call_meets zcn (typeIs_str _ _ _) zch (zb9 _ _) (meets_str_split_sep a b t t' h1' hb hf' ha hs) ?_
  exact⟨.ref _,_,I.lnew (q2B _ _) (by rw[yC];exact hs),rfl,q _ (I.hok.fresh (zC _))⟩
def rIntT:List V->Hp->VK->Prop:=fun xs H Q=>∃(z:Str) (n:Int),xs=[.str z]/\PySem.intText? z=some n/\z.length<=640/\Q (.int n) H
theorem intT:q1d X (.type "int") rIntT:=by
 intro pins s σ H xs us Q I r h
 obtain⟨z,n,rfl,hn,hl,q⟩:=h
 obtain⟨u,rfl,rx⟩:=q2u r
 obtain⟨t,rfl⟩:=rx
 exact PySem.W.KIN.call_text hn hl ⟨.int n,H,I.tok _,⟨_,rfl⟩,q⟩
def rInS:R2:=fun x y H Q=>∃a b:Str,x= .str a/\y= .str b/\Q (.bl (Txt.contains b a)) H
theorem op_inS:OpR X (compareOp .In) rInS:=by
 intro pins s σ H x y v u Q I rx ry h
 obtain⟨a,b,rfl,rfl,q⟩:=h
 obtain⟨t,rfl⟩:=rx
 obtain⟨t',rfl⟩:=ry
 exact PyProof.Rows.in_str ⟨.bl _,H,I,rfl,q⟩
def Its (x:Str):It:=⟨fun i _=>i<x.cps.size,fun i H v H'=>H'=H/\∃c,x.cps[i]? =some c/\v= .str ⟨#[c]⟩,fun i _=>x.cps.size<=i⟩
theorem q97 {P:Program}{w:World}{K:W.Frag}{tg:Expr}(it:Addr)(x:Str)(t:Tok):Turn P w K tg (Its x) [it] it (fun i h=>h.IsStrIter it "str_ascii_iterator" x t i) where
 mem:=by simp
 obj:=fun i h st b hb=>by
  have e:b=it:=by simpa using hb
  subst e
  obtain⟨o,e,c,d⟩:=st
  exact⟨o,e,fun v z=>by rw[d] at z;cases z⟩
 keep:=fun i h h' st k=>let ⟨o,ho,r⟩:=st;⟨o,k it (by simp) o ho,r⟩
 item:=by
  intro X hP hw hK hc i pins s σ H E I hf st hg
  subst hP hw hK
  have hi:i<x.cps.size:=hg
  obtain⟨f0,f1,f2,f3,f4,f5⟩:=hf it (by simp)
  refine wpAny_pyNext_ascii_item st (c:=x.cps[i]) (by simp[hi]) fun h' st' sb=>?_
  have I1:Inv X pins σ H {s with heap:=h',toks:=s.toks+1}:=I.turned (t':=s.toks+1) (fun b o hb e=>(sb.2 b hb).trans e) f0 f1 f3 f4 f5
  obtain⟨o,e,c,d⟩:=id st'
  exact⟨_,rfl,go_of (s:={s with heap:=h',toks:=s.toks+1}) e c d (by decide) ⟨.str ⟨#[x.cps[i]]⟩,H,I1,⟨_,rfl⟩,⟨rfl,_,by simp[hi],rfl⟩,st',fun b hb=>(hf b hb).1⟩⟩
 done:=by
  intro X hP hw hK hc i pins s σ H E I hf st hg
  subst hP hw hK
  have hi:x.cps.size<=i:=hg
  obtain⟨f0,f1,f2,f3,f4,f5⟩:=hf it (by simp)
  exact wpAny_pyNext_ascii_end (I.ok.hd hc) st (by simp[hi]) fun h' eb=>⟨rfl,I.turned (t':=s.toks) (fun b o hb e=>eb b o hb e) f0 f1 f3 f4 f5⟩
 self:=fun _ _ _ _ _ st h=>wpAny_pyIter_striter_ascii st h
def iStr (tl:TE):TI:=fun σ H R=>tl σ H fun v H1=>∃z:Str,v= .str z/\z.cps.all (· <128)=true/\R (Its z) H1
theorem pi_str {tg l:Expr}{tl:TE}(hl:PE X l tl):PI X tg l (iStr tl):=by
 intro pins s σ H R I h
 refine thn (hl pins s σ H _ I h) fun v s1 ⟨x,H1,I1,r1,q1⟩=>?_
 obtain⟨z,e,ha,q⟩:=q1
 subst e
 obtain⟨t,rfl⟩:=r1
 refine wpAny_pyIter_ascii ha ?_
 refine⟨s1.heap.objs.size,[s1.heap.objs.size],_,_,H1,rfl,I1.kept (t':=s1.toks) fun b o e=>zB _ e,q97 _ z t,⟨_,zO _ rfl,rfl,rfl⟩,fun b hb=>?_,q⟩
 have e:b=s1.heap.objs.size:=by simpa using hb
 subst e
 exact I1.fpOk (zC _) (I1.hok.fresh (zC _))
theorem q7U {tg l:Expr}{tl:TE}(K:W.Frag)(hl:PE X l tl):PI X tg l (iStr tl):=pi_str hl
end
section
variable {σ:St}{H:Hp}{Q:VK}{tl:TE}{g:TG}{tc:TT}{te:TE}{R:Hp->Prop}{D:Addr}
theorem r_iS {Rr:It->Hp->Prop}(q:tl σ H fun v H1=>∃z:Str,v= .str z/\z.cps.all (· <128)=true/\Rr (Its z) H1):iStr tl σ H Rr:=q
theorem q6C {z:Str}(Pv:Nat->St->Hp->Prop)(h0:Pv 0 σ H)(go:∀i c σ H,z.cps[i]? =some c->Pv i σ H->g (.str ⟨#[c]⟩) σ H fun σ3 H3=>tc σ3 H3 fun b H4=>
   if b=true then te σ3 H4 fun y H5=>∃ys,H5 D=some (.lst ys)/\ys.length<sizeLine/\Pv (i+1) σ3 (upd H5 D (.lst (ys++[y]))) else Pv (i+1) σ3 H4)(stop:∀σ H,Pv z.cps.size σ H->R H):q9U (Its z) g tc te R D σ H:=
 q3N z.cps.size Pv h0 (fun i σ H hi p=>⟨hi,fun x H' ⟨e1,c,e2,e3⟩=>by subst e1 e3;exact go i c σ _ e2 p⟩) fun σ H p=>⟨zC _,stop σ H p⟩
end
end L2
namespace Tx
open PySem PySem.StrLaws Builtin Builtin.Str
theorem q4Y (x:Str)(c i:Nat):subAt x ⟨#[c]⟩ i=true↔x.cps.toList[i]? =some c:=by
 rw[subAt_eq]
 exact take1_drop
theorem q3F (x:Str)(c:Nat):∀(n lo:Nat) (st:Array Nat×Nat),lo+n=x.length+1->st.fst.size<=lo->st.snd<=lo->(forIn (List.range' lo n) st (occBody x ⟨#[c]⟩ x.length (x.length+1))).run.fst.size=st.fst.size+(x.cps.toList.drop lo).count c
 |0,lo,st,h,_,_=>by
  have hl:x.cps.toList.length=x.length:=by simp[Str.length]
  rw[zbG (by omega)]
  rfl
 |n+1,lo,st,h,h1,h2=>by
  have hl:x.cps.toList.length=x.length:=by simp[Str.length]
  rw[List.range'_succ,zcp]
  unfold occBody
  by_cases hc:x.cps.toList[lo]? =some c
  ·have hlt:lo<x.cps.toList.length:=(yA hc).1
   have he:x.cps.toList[lo]=c:=(yA hc).2
   have c1:((st.fst.size<x.length+1/\st.snd<=lo)/\lo+(⟨#[c]⟩:Str).length<=x.length)/\subAt x ⟨#[c]⟩ lo=true:=⟨⟨⟨by omega,h2⟩,by show lo+1<=x.length;omega⟩,(q4Y x c lo).mpr hc⟩
   rw[zM c1]
   have ih:=q3F x c n (lo+1) (st.fst.push lo,lo+(⟨#[c]⟩:Str).length) (by omega) (by simp;omega) (by show lo+1<=lo+1;omega)
   refine ih.trans ?_
   rw[zci hlt,he,List.count_cons_self]
   simp
   omega
  ·have c2:¬(((st.fst.size<x.length+1/\st.snd<=lo)/\lo+(⟨#[c]⟩:Str).length<=x.length)/\subAt x ⟨#[c]⟩ lo=true):=fun z=>hc ((q4Y x c lo).mp z.2)
   rw[zI c2]
   have ih:=q3F x c n (lo+1) (st.fst,st.snd) (by omega) (by show st.fst.size<=lo+1;omega) (by show st.snd<=lo+1;omega)
   refine ih.trans ?_
   by_cases hlt:lo<x.cps.toList.length
   ·have he:x.cps.toList[lo]≠c:=fun z=>hc (by rw[zay hlt,z])
    rw[zci hlt,List.count_cons_of_ne he]
   ·rw [zbG (by omega),zbG (by omega)]
theorem qbm (x:Str)(c:Nat):(occurrences x ⟨#[c]⟩ 0 x.length (x.length+1)).length=x.cps.toList.count c:=by
 rw[occ_eq]
 have:=q3F x c (x.length+1 - 0) 0 (#[],0) (by omega) (zC _) (zC _)
 rw[List.drop_zero] at this
 simpa using this
theorem q50 (x:Str){c:Nat}(hc:c<256):(Txt.split x ⟨#[c]⟩).length=x.cps.toList.count c+1:=by
 have hl:x.cps.toList.length=x.length:=by simp[Str.length]
 have k1:Builtin.Str.strKind ⟨#[c]⟩=1:=by unfold Builtin.Str.strKind;rw[if_pos (by simpa using hc)]
 have ol:=qbm x c
 unfold Txt.split
 by_cases h1:(decide (x.length<(⟨#[c]⟩:Str).length)||decide (Builtin.Str.strKind x<Builtin.Str.strKind ⟨#[c]⟩))=true
 ·rw [zM h1]
  have:x.length=0:=by
   rcases Bool.or_eq_true_iff.mp h1 with z|z
   ·have:x.length<(⟨#[c]⟩:Str).length:=zbA z
    have e1:(⟨#[c]⟩:Str).length=1:=rfl
    omega
   ·rw [k1] at z
    have z:Builtin.Str.strKind x<1:=by simpa using z
    unfold Builtin.Str.strKind at z
    split at z
    ·omega
    ·split at z<;>omega
  rw[zaX.mp (by omega:x.cps.toList.length=0)]
  rfl
 ·rw [zI h1]
  by_cases h2:(occurrences x ⟨#[c]⟩ 0 x.length (x.length+1)).isEmpty=true
  ·rw [zM h2]
   rw[List.isEmpty_iff.mp h2] at ol
   rw[<-ol]
   rfl
  ·rw [zI h2,<-ol]
   unfold partsBetween
   simp
def jl (c:Nat):List (List Nat)->List Nat
 |[]=>[]
 |[x]=>x
 |x::y::r=>x++c::jl c (y::r)
theorem q1M (c:Nat):∀ws:List Str,(Str.join ⟨#[c]⟩ ws).cps.toList=jl c (ws.map fun w=>w.cps.toList)
 |[]=>rfl
 |[x]=>rfl
 |x::y::r=>by
  show(x++⟨#[c]⟩++Str.join ⟨#[c]⟩ (y::r)).cps.toList=_
  rw[Str.cps_append,Str.cps_append,zb0,zb0,q1M c (y::r)]
  simp[jl]
theorem q6v (c:Nat):∀ps:List (List Nat),ps≠[]->(jl c ps).count c+1=ps.length+(ps.map fun p=>p.count c).sum
 |[],h=>absurd rfl h
 |[x],_=>by simp[jl];omega
 |x::y::r,_=>by
  have ih:=q6v c (y::r) (by simp)
  show(x++c::jl c (y::r)).count c+1=_
  rw[List.count_append,List.count_cons_self]
  simp only[List.map_cons,List.sum_cons,List.length_cons] at ih ⊢
  omega
theorem q6B {c:Nat}:∀{p w A B:List Nat},c∉p->c∉w->p++c::A=w++c::B->p=w/\A=B
 |[],[],A,B,_,_,h=>by simp at h;exact⟨rfl,h⟩
 |[],b::w,A,B,_,hw,h=>by
  simp at h
  exact absurd (by rw[h.1];simp) hw
 |a::p,[],A,B,hp,_,h=>by
  simp at h
  exact absurd (by rw[<-h.1];simp) hp
 |a::p,b::w,A,B,hp,hw,h=>by
  simp only[List.cons_append,List.cons.injEq] at h
  obtain⟨e1,e2⟩:=q6B (p:=p) (w:=w) (fun z=>hp (zF _ z)) (fun z=>hw (zF _ z)) h.2
  exact⟨by rw[h.1,e1],e2⟩
theorem qaf {c:Nat}:∀{ps ws:List (List Nat)},ps≠[]->ws≠[]->(∀p∈ps,c∉p)->(∀w∈ws,c∉w)->jl c ps=jl c ws->ps=ws
 |[],_,h,_,_,_,_=>absurd rfl h
 |_::_,[],_,h,_,_,_=>absurd rfl h
 |[p],[w],_,_,_,_,h=>by rw[show p=w from h]
 |[p],w::w2::r,_,_,hp,_,h=>by
  have h:p=w++c::jl c (w2::r):=h
  exact absurd (by rw[h];simp) (hp p (by simp))
 |p::p2::q,[w],_,_,_,hw,h=>by
  have h:p++c::jl c (p2::q)=w:=h
  exact absurd (by rw[<-h];simp) (hw w (by simp))
 |p::p2::q,w::w2::r,_,_,hp,hw,h=>by
  have h:p++c::jl c (p2::q)=w++c::jl c (w2::r):=h
  obtain⟨e1,e2⟩:=q6B (hp p (by simp)) (hw w (by simp)) h
  have ih:=qaf (by simp) (by simp) (fun z hz=>hp z (zF _ hz)) (fun z hz=>hw z (zF _ hz)) e2
  rw[e1,ih]
theorem q6a:∀{l:List Nat},l.sum=0->∀x∈l,x=0
 |a::l,h,x,hx=>by
  rw[List.sum_cons] at h
  rcases zJ.mp hx with rfl|hx
  ·omega
  ·exact q6a (by omega) x hx
theorem q3H:∀{a b:List Str},a.map (fun w=>w.cps.toList)=b.map (fun w=>w.cps.toList)->a=b
 |[],[],_=>rfl
 |x::a,y::b,h=>by
  simp only[List.map_cons,List.cons.injEq] at h
  rw[q3H h.2,Str.ext' (zbJ.mp h.1)]
theorem q6Q {c:Nat}(hc:c<256){ws:List Str}(h0:ws≠[])(hf:∀w∈ws,c∉w.cps.toList):Txt.split (Str.join ⟨#[c]⟩ ws) ⟨#[c]⟩=ws:=by
 have e:=join_split (Str.join ⟨#[c]⟩ ws) ⟨#[c]⟩
 have l:=q50 (Str.join ⟨#[c]⟩ ws) hc
 generalize hp:Txt.split (Str.join ⟨#[c]⟩ ws) ⟨#[c]⟩=ps at e l ⊢
 have n0:ps≠[]:=fun z=>by rw[z] at l;simp at l
 have ej:jl c (ps.map fun w=>w.cps.toList)=jl c (ws.map fun w=>w.cps.toList):=by rw[<-q1M,<-q1M,e]
 have ct:=q6v c (ps.map fun w=>w.cps.toList) (by simpa using n0)
 rw[q1M] at l
 rw[ej,yC] at ct
 have sz:((ps.map fun w=>w.cps.toList).map fun p=>p.count c).sum=0:=by omega
 refine q3H (qaf (c:=c) (by simpa using n0) (by simpa using h0) (fun p hpm=>?_) (fun w hw=>?_) ej)
 ·exact List.count_eq_zero.mp (q6a sz _ (zaw.mpr ⟨p,hpm,rfl⟩))
 ·obtain ⟨w',hw',rfl⟩:=zaw.mp hw
  exact hf w' hw'
end Tx
namespace L2
open PySem PySem.Spec PyProof.Rows
section
variable {X:Cx}
theorem q4N (bs:List Bool):((List.range bs.length).any fun i=>bs.getD i true)=bs.any id:=by
 rw[zaT]
 simp only[List.any_eq_true,List.mem_range,id]
 constructor
 ·rintro ⟨i,hi,h⟩
  exact⟨bs[i],zN hi,by simpa[List.getD,hi] using h⟩
 ·rintro ⟨x,hx,h⟩
  obtain⟨i,hi,rfl⟩:=zbl.mp hx
  exact⟨i,hi,by simpa[List.getD,hi] using h⟩
def rAny (K:W.Frag):List V->Hp->VK->Prop:=fun xs H Q=>∃(p:Addr) (bs:List Bool),xs=[.ref p]/\SqL K H p (bs.map V.bl)/\Q (.bl (bs.any id)) H
theorem q9P (hc:X.calm=true):q1d X (.builtin "any") (rAny X.K):=by
 intro pins s σ H xs us Q I r h
 obtain⟨p,bs,rfl,hq,q⟩:=h
 obtain⟨u,rfl,rx⟩:=q2u r
 cases rx
 obtain⟨its,rv,pl,hz⟩:=I.list hq
 have hits:=q67 rv
 have hl:=pl.isList
 have hlt:p<s.heap.objs.size:=by obtain⟨o,e,_⟩:=hl;exact zD e
 have hh:X.A.in1.handled=none:=I.ok.hd hc
 refine call_any_walk (zcg hl ?_)
 refine⟨s.heap.objs.size,_,_,_,_,_,fun i=>bs.getD i true,rfl,Walks.list hh s.heap.objs.size p (zP hlt) its.toArray,⟨⟨_,zO _ rfl,rfl,rfl⟩,hl.push _⟩,?_,fun h' tk hk=>?_⟩
 ·intro i v s' Q' E' hv hQ
  have e:v= .bool (bs.getD i true):=by
   have hv':its[i]? =some v:=by simpa using hv
   rw[hits,zaq] at hv'
   cases e:bs[i]? with
   |none=>rw[e] at hv';cases hv'
   |some b=>rw[e] at hv';simp[List.getD,e];exact(zE hv').symm
  subst e
  first
   |exact zA hQ
   |exact hQ
 ·have e:its.toArray.size=bs.length:=by rw[hits];simp
  have I1:Inv X pins σ H {s with heap:=s.heap.push {cls:= .type "list_iterator",data:= .fields #[.ref p,.int 0 0]}}:=I.kept (t':=s.toks) fun b o e=>zB _ e
  have f:∀b∈[s.heap.objs.size],FpOk X pins H b:=fun b hb=>by rw[zL.mp hb];exact I.fpOk (zC _) (I.hok.fresh (zC _))
  refine⟨.bl (bs.any id),H,I1.turnedL (t':=tk) (ch:=[s.heap.objs.size]) f fun b o hb e=>hk b o hb e,?_,q⟩
  show Value.bool _=Value.bool _
  rw[e,q4N]
theorem q8X (K:W.Frag)(hc:X.calm=true)(h:X.K=K:=by rfl):q1d X (.builtin "any") (rAny K):=by subst h;exact q9P hc
end
end L2
namespace Tx
open PySem PySem.StrLaws Builtin Builtin.Str
def sI (n:Int):Str:=(toString n:String)
structure NumT (z:Str)(n:Int):Prop where
 ne:¬z=""
 dg:(z.cps.toList.all fun c=>Txt.contains "0123456789" ⟨#[c]⟩)=true
 lead:z="0"\/∃c,L2.atI z.cps.toList 0=some c/\¬(⟨#[c]⟩:Str)="0"
 it:PySem.intText? z=some n
 len:z.length<=3
 asc:z.cps.all (· <128)=true
 fr:∀c∈z.cps.toList,48<=c/\c<=57
def numB (n:Nat):Bool:=
 let z:=sI n
 !decide (z="")&&(z.cps.toList.all fun c=>Txt.contains "0123456789" ⟨#[c]⟩)&&(decide (z="0")||match z.cps.toList with|[]=>false|c::_=> !decide ((⟨#[c]⟩:Str)="0"))
  &&decide (PySem.intText? z=some (n:Int))&&decide (z.length<=3)&&z.cps.all (· <128)&&z.cps.toList.all fun c=>decide (48<=c)&&decide (c<=57)
theorem qbq:((List.range 256).all numB)=true:=by walk_at "k"
theorem numT {n:Int}(h0:0<=n)(h1:n<=255):NumT (sI n) n:=by
 obtain⟨m,rfl⟩:∃m:Nat,n=(m:Int):=⟨n.toNat,by omega⟩
 have:=zH.mp qbq m (by simp;omega)
 unfold numB at this
 simp only[Bool.and_eq_true,Bool.or_eq_true,Bool.not_eq_true',decide_eq_true_eq,decide_eq_false_iff_not] at this
 obtain⟨⟨⟨⟨⟨⟨a,b⟩,c⟩,d⟩,e⟩,f⟩,g⟩:=this
 refine⟨a,b,?_,d,e,f,fun x hx=>?_⟩
 ·rcases c with c|c
  ·exact .inl c
  ·refine .inr ?_
   cases hz:(sI (m:Int)).cps.toList with
   |nil=>rw[hz] at c;exact absurd c (by simp)
   |cons y ys=>
    rw[hz] at c
    exact⟨y,L2.qE (xs:=y::ys) (j:=0) rfl,by simpa using c⟩
 ·have:=zH.mp g x hx
  simpa using this
theorem q5p (s:Str)(ws:List Str):Txt.join s ws=Str.join s ws:=glued_eq_join s ws
theorem qag (c:Nat):∀{a b:List (List Nat)},a≠[]->b≠[]->jl c (a++b)=jl c a++c::jl c b
 |[],_,h,_=>absurd rfl h
 |[x],b,_,h=>by
  match b,h with
  |y::r,_=>rfl
 |x::y::r,b,_,h=>by
  have ih:=qag c (a:=y::r) (by simp) h
  show x++c::jl c ((y::r)++b)=(x++c::jl c (y::r))++c::jl c b
  rw[ih]
  simp
theorem qaE {a b:Str}(h:a.cps.toList=b.cps.toList):a=b:=Str.ext' (zbJ.mp h)
theorem q9G {c:Nat}{a b:List Str}(ha:a≠[])(hb:b≠[]):Txt.join ⟨#[c]⟩ [Txt.join ⟨#[c]⟩ a,Txt.join ⟨#[c]⟩ b]=Txt.join ⟨#[c]⟩ (a++b):=by
 rw[q5p,q5p,q5p,q5p]
 refine qaE ?_
 rw[q1M,q1M,zY,qag c (by simpa using ha) (by simpa using hb)]
 show(Str.join ⟨#[c]⟩ a).cps.toList++c::(Str.join ⟨#[c]⟩ b).cps.toList=_
 rw[q1M,q1M]
theorem q4k {c:Nat}(hc:c<256){ws:List Str}(h0:ws≠[])(hf:∀w∈ws,c∉w.cps.toList):Txt.split (Txt.join ⟨#[c]⟩ ws) ⟨#[c]⟩=ws:=by
 rw[q5p]
 exact q6Q hc h0 hf
theorem qac {c x:Nat}:∀{ps:List (List Nat)},x∈jl c ps->x=c\/∃p∈ps,x∈p
 |[],h=>by simp[jl] at h
 |[p],h=> .inr ⟨p,by simp,h⟩
 |p::q::r,h=>by
  have h:x∈p++c::jl c (q::r):=h
  rcases zad.mp h with h|h
  ·exact .inr ⟨p,by simp,h⟩
  ·rcases zJ.mp h with h|h
   ·exact .inl h
   ·rcases qac h with h|⟨y,hy,h⟩
    ·exact .inl h
    ·exact .inr ⟨y,zF _ hy,h⟩
theorem mem_jn {c x:Nat}{ws:List Str}(h:x∈(Txt.join ⟨#[c]⟩ ws).cps.toList):x=c\/∃w∈ws,x∈w.cps.toList:=by
 rw[q5p,q1M] at h
 rcases qac h with h|⟨p,hp,h⟩
 ·exact .inl h
 ·obtain ⟨w,hw,rfl⟩:=zaw.mp hp
  exact .inr ⟨w,hw,h⟩
theorem q4X {ws:List Str}{n:Nat}(h:∀w∈ws,w.length<=n):(ws.map (·.length)).sum<=ws.length*n:=by
 induction ws with
 |nil=>simp
 |cons w ws ih=>
  have:=h w (by simp)
  have:=ih fun x hx=>h x (zF _ hx)
  rw[zao,List.sum_cons,zaf,Nat.succ_mul]
  omega
theorem q8s {c:Nat}{ws:List Str}{n:Nat}(h:∀w∈ws,w.length<=n):(Txt.join ⟨#[c]⟩ ws).length<=ws.length*(n+1):=by
 rw[q5p]
 refine zap (join_length_le _ ws) ?_
 have e:=q4X h
 show _+ws.length*1<=_
 have h2:ws.length*(n+1)=ws.length*n+ws.length:=Nat.mul_succ _ _
 omega
open Ce
def wrd (b:Bool):Str:=if b=true then "way" else "drop"
def lnN (z:Str)(ns:List Int):List Str:=z::ns.map sI
def lnP (z:Str)(x:Int×Int):List Str:=lnN z [x.1,x.2]
def lnW (x:Way):List Str:=lnN (wrd x.back) [x.a,x.b]++lnN x.g.word x.g.ns
def lns (C:Cl):List (List Str):=[lnN "rooms" [C.rooms,C.fst,C.lst],lnN "bars" [C.bars],lnN "water" [C.water]]++(C.ways.map lnW++(C.things.map (lnP "thing")++(C.levers.map (lnP "lever")++C.wheels.map (lnP "wheel"))))
def lin (C:Cl):List Str:=(lns C).map (Txt.join " ")
def txt (C:Cl):Str:=Txt.join "\n" (lin C)
def Wd (z:Str):Prop:=z.length<=5/\∀c∈z.cps.toList,48<=c/\c<128
theorem q0V {z:Str}(h:(decide (z.length<=5)&&z.cps.toList.all fun c=>decide (48<=c)&&decide (c<128))=true):Wd z:=by
 simp only[Bool.and_eq_true,decide_eq_true_eq,List.all_eq_true] at h
 exact h
theorem wd_num {n:Int}(h0:0<=n)(h1:n<=255):Wd (sI n):=by
 have t:=numT h0 h1
 exact⟨by have:=t.len;omega,fun c hc=>by have:=t.fr c hc;omega⟩
def q7b (ns:List Int):Prop:=∀n∈ns,0<=n/\n<=255
theorem q1O {z:Str}{ns:List Int}(hz:Wd z)(h:q7b ns):∀x∈lnN z ns,Wd x:=fun x hx=>by
 rcases zJ.mp hx with rfl|hx
 ·exact hz
 ·obtain ⟨n,hn,rfl⟩:=zaw.mp hx
  exact wd_num (h n hn).1 (h n hn).2
theorem q5H (g:Gt):Wd g.word:=by
 cases g with
 |plain=>exact q0V (z:="plain") (by walk_at "k")
 |door=>exact q0V (z:="door") (by walk_at "k")
 |need=>exact q0V (z:="need") (by walk_at "k")
 |bar=>exact q0V (z:="bar") (by walk_at "k")
 |wade=>exact q0V (z:="wade") (by walk_at "k")
 |float=>exact q0V (z:="float") (by walk_at "k")
theorem q4T (b:Bool):Wd (wrd b):=by cases b<;>exact q0V (by walk_at "k")
theorem q1A {a b:Int}(h1:0<=a/\a<=255)(h2:0<=b/\b<=255):q7b [a,b]:=fun n hn=>by
 simp at hn
 rcases hn with rfl|rfl
 ·exact h1
 ·exact h2
theorem q75 {g:Gt}(h:g.ok):q7b g.ns:=fun n hn=>by
 cases g<;>simp[Gt.ns] at hn<;>simp[Gt.ok] at h<;>first|omega|(rcases hn with rfl|rfl<;>omega)
theorem q4f {C:Cl}(o:ClOk C):∀ws∈lns C,ws≠[]/\ws.length<=6/\∀x∈ws,Wd x:=by
 have r2:=o.r2
 have f:=o.f
 have l:=o.l
 have b:=o.b
 have wa:=o.wa
 intro ws h
 unfold lns at h
 simp only[List.mem_append,List.mem_cons,List.mem_map,List.not_mem_nil,or_false] at h
 rcases h with(rfl|rfl|rfl)|⟨x,hx,rfl⟩|⟨x,hx,rfl⟩|⟨x,hx,rfl⟩|⟨x,hx,rfl⟩
 ·exact ⟨by simp[lnN],by simp[lnN],q1O (q0V (by walk_at "k")) fun n hn=>by simp at hn;rcases hn with rfl|rfl|rfl<;>omega⟩
 ·exact ⟨by simp[lnN],by simp[lnN],q1O (q0V (by walk_at "k")) fun n hn=>by simp at hn;omega⟩
 ·exact ⟨by simp[lnN],by simp[lnN],q1O (q0V (by walk_at "k")) fun n hn=>by simp at hn;omega⟩
 ·obtain ⟨⟨a0,a1⟩,⟨b0,b1⟩,_,gk⟩:=o.w x hx
  have gl:=x.g.ns_len
  refine⟨by simp[lnW,lnN],by simp[lnW,lnN];omega,fun y hy=>?_⟩
  rcases zad.mp hy with hy|hy
  ·exact q1O (q4T _) (q1A (by omega) (by omega)) y hy
  ·exact q1O (q5H _) (q75 gk) y hy
 ·obtain ⟨⟨a0,a1⟩,b0,b1⟩:=o.t x hx
  exact⟨by simp[lnP,lnN],by simp[lnP,lnN],q1O (q0V (by walk_at "k")) (q1A (by omega) (by omega))⟩
 ·obtain ⟨⟨a0,a1⟩,b0,b1⟩:=o.lv x hx
  exact⟨by simp[lnP,lnN],by simp[lnP,lnN],q1O (q0V (by walk_at "k")) (q1A (by omega) (by omega))⟩
 ·obtain ⟨⟨a0,a1⟩,b0,b1⟩:=o.wh x hx
  exact⟨by simp[lnP,lnN],by simp[lnP,lnN],q1O (q0V (by walk_at "k")) (q1A (by omega) (by omega))⟩
theorem q5S {C:Cl}(o:ClOk C):(lns C).length<=39:=by
 have:=o.wl
 have:=o.tl
 have:=o.ll
 have:=o.vl
 unfold lns
 simp
 omega
theorem q2K {ws:List Str}(h:ws.length<=6/\∀x∈ws,Wd x):(Txt.join " " ws).length<=36:=
 zap (q8s (c:=32) (n:=5) fun x hx=>(h.2 x hx).1) (by omega)
theorem q6b {ws:List Str}(h:ws≠[]/\ws.length<=6/\∀x∈ws,Wd x):Txt.split (Txt.join " " ws) " "=ws:=by
 refine q4k (c:=32) (by omega) h.1 fun z hz hc=>?_
 have:=(h.2.2 z hz).2 _ hc
 omega
end Tx
namespace L2
open PySem PySem.Spec PyProof.Rows
theorem q4J:entryFor table "proto.unchain"=some Builtin.«proto.unchain» :=entryFor_of_fast (by kernel_rfl)
section
variable {prog:Program}{w:World}{A:Around}{E:Value->Shared->Prop}{env:Env}{nm q:Str}{C N:Addr}{bs bm:List Value}{hdct:Bool}{sn:List Str}{sub:List Value}{ab:Bool}{col:Option Bool}{dd:Option Addr}{k0 k1 k2 k3 k5:Option Value}{newId:String}
theorem q4u {α:Type}{e b:Addr}{oe ob:Obj}{vs vb:Array Value}{s:Shared}{Q:α->Shared->Prop}(hh:A.handled=some (.ref b))(hb:s.heap.get? b=some ob)(hbd:ob.data= .fields vb)(hb2:vb[2]? =some .none)(he:s.heap.get? e=some oe)(hd:oe.data= .fields vs)(h2:2<vs.size)(hne:b≠e)
  (h:E (.ref e) {s with heap:=s.heap.update e (Obj.mapFields (·.setIfInBounds 2 (.ref b)))}):wpAny (model prog w) A (raiseNew (.ref e):Sem α) Q E s:=by
 unfold raiseNew
 refine yD (wpAny_handled ?_)
 rw[hh]
 have hn:((Value.ref b) != .ref e)=true:=by simpa using hne
 dsimp only
 rw[zM hn]
 refine yD (zar (wpAny_runValue (codeAny_builtin q4J ?_)))
 unfold Builtin.«proto.unchain»
 refine yD (zaa hb hbd hb2 ?_)
 refine zaz rfl ?_
 refine zA ?_
 dsimp only
 refine yD (zZ (zaK (Q:=fun _ s1=>E (.ref e) s1) he hd h2 h) (fun _ s1 z=>?_) fun _ _ z=>z)
 exact wpAny_throw z
theorem q3U {b:Addr}{s:Shared}{x:Sem Value}{c:Sem Value}{Q:Flow->Shared->Prop}(hbase:bm.contains (.type "BaseException")=true)(hh:A.handled=some (.ref b))(hc0:∀(s:Shared) (Q:Value->Shared->Prop),Q .none s->wpAny (model prog w) A c Q E s)
  (h:wpAny (model prog w) A x (fun v s₁=>∃e oe vs ob vb,v= .ref e/\s₁.heap.get? C=some (excClassObj nm q C N bs bm hdct sn sub ab col dd k0 k1 k2 k3 k5 newId)/\s₁.heap.get? e=some oe/\oe.cls= .ref C/\oe.data= .fields vs/\vs.size=6/\vs[1]? =some .none/\C≠e/\b≠e/\s₁.heap.get? b=some ob/\ob.data= .fields vb/\vb[2]? =some .none/\
   ∀h',(∀a o,a≠e->s₁.heap.get? a=some o->h'.get? a=some o)->(∀vs',vs'[1]? =some .none->vs'[0]? =vs[0]? ->h'.get? e=some {oe with data:= .fields vs'}->E (.ref e) {s₁ with heap:=h'})) E s):wpAny (model prog w) A (raiseStmt env (some x) (some c)) Q E s:=by
 have hcB:(Value.ref C::bm).contains (.type "BaseException")=true:=by rw[List.contains_cons,hbase,Bool.or_true]
 unfold raiseStmt
 refine yD (zZ h (fun v s₁ h₁=>?_) fun _ _ z=>z)
 obtain⟨e,oe,vs,ob,vb,rfl,hC,he,hc,hd,hz,h1,hCe,hbe,hb,hbd,hb2,hE⟩:=h₁
 obtain⟨hp,g,d,tk,os⟩:=s₁
 obtain⟨c0,dct,dt,sl⟩:=oe
 dsimp only at hc hd he hC hb
 subst hc hd
 refine yD (zar (hc0 _ _ (yD (zA ?_))))
 dsimp only
 refine yD (zar ?_)
 unfold excFromValue isExcClass
 refine yD (yD ?_)
 unfold isType
 refine yD (zag he (zA ?_))
 refine zG rfl (zA (zG rfl ?_))
 unfold isInstance typeOf
 refine yD (yD (yD (zag he (zA ?_))))
 refine zbZ hC ?_
 rw[hcB]
 refine zaz rfl (zA ?_)
 dsimp only
 refine zaz rfl (yD (zA ?_))
 refine yD (zaK he rfl (by omega) ?_)
 have he3:=zaj (Obj.mapFields fun x=>x.setIfInBounds 3 Value.none) he rfl
 have keep3:∀a o,a≠e->hp.get? a=some o->(hp.update e (Obj.mapFields fun x=>x.setIfInBounds 3 Value.none)).get? a=some o:=fun a o ha z=>by
  rw[zab _ _ (Ne.symm ha)];exact z
 generalize hp.update e (Obj.mapFields fun x=>x.setIfInBounds 3 Value.none)=hp3 at he3 keep3 ⊢
 refine yD (zaK he3 rfl (by simp;omega) ?_)
 have he4:=zaj (Obj.mapFields fun x=>x.setIfInBounds 4 (Value.bool true)) he3 rfl
 have keep4:∀a o,a≠e->hp.get? a=some o->(hp3.update e (Obj.mapFields fun x=>x.setIfInBounds 4 (Value.bool true))).get? a=some o:=fun a o ha z=>by
  rw[zab _ _ (Ne.symm ha)];exact keep3 a o ha z
 generalize hp3.update e (Obj.mapFields fun x=>x.setIfInBounds 4 (Value.bool true))=hp4 at he4 keep4 ⊢
 have he4:hp4.get? e=some ⟨.ref C,dct,.fields ((vs.setIfInBounds 3 .none).setIfInBounds 4 (.bool true)),sl⟩:=he4
 have hC4:=keep4 _ _ hCe hC
 have g1:((vs.setIfInBounds 3 Value.none).setIfInBounds 4 (Value.bool true))[1]? =some .none:=by
  rw[zae (by decide),zae (by decide)];exact h1
 refine yD (yD (zag he4 (zA ?_)))
 refine zG rfl ?_
 unfold raisedInstance
 refine yD (yD (yD (zag he4 (zA ?_))))
 refine yD (yD (zag hC4 (zA ?_)))
 refine zaz rfl (zA ?_)
 refine yD ?_
 unfold setFlight
 refine yD (zaa he4 rfl g1 ?_)
 refine zG rfl (zA ?_)
 refine q4u hh (keep4 _ _ hbe hb) hbd hb2 he4 rfl (by simp;omega) hbe ?_
 refine hE _ (fun a o ha z=>?_) _ ?_ ?_ (zaj _ he4 rfl)
 ·show (hp4.update e _).get? a=some o
  rw[zab _ _ (Ne.symm ha)];exact keep4 a o ha z
 ·rw [zae (by decide)];exact g1
 ·rw [zae (by decide),zae (by decide),zae (by decide)]
end
structure RoomM (k:Nat)(A:Around):Prop where
 dp:A.depth+3*k+5<recursionLimit
 un:A.units+16*k+200<cLine
 gd:A.guards=some []
theorem Room.mark {k:Nat}{A:Around}(r:Room k A)(v:Option Value):RoomM k (A.mark v):=⟨r.dp,r.un,r.gd⟩
theorem RoomM.deeper {k:Nat}{A:Around}(r:RoomM (k+1) A)(env:Env):RoomM k (A.deeper env):=
 ⟨by have:=r.dp;show A.depth+1+3*k+5<_;omega,by have:=r.un;show A.units+3+16*k+200<_;omega,r.gd⟩
theorem RoomM.make {k:Nat}{A:Around}(r:RoomM (k+1) A)(C:Addr)(us:List Value)(kw:List (Str×Value)):RoomM k (A.under (.builtin "type.__call__" ⟨.ref C::us,kw⟩)):=
 ⟨by have:=r.dp;rw[q49];omega,by have:=r.un;rw[q48];omega,by simp[Around.under,Code.guards,Code.isGuard,guardIds,pushGuards,r.gd]⟩
abbrev Cx.m (X:Cx):Cx:={X with calm:=false}
structure FnOkM (P:Program)(w:World)(K:W.Frag)(mg:Str->Option Value)(base:Heap)(k:Nat)(f:Addr)(fd:FuncData)(ps:List Str)(sp:Sp):Prop where
 len:∀vs H Q E,sp vs H Q E->vs.length=ps.length
 run:∀(A:Around) (outer:List Env) (s:Shared) (H:Hp) (args:Args) (us:List Value) (vs:List V) (Q:VK) (E:XK),RoomM k A->Env0 P w K mg base A outer s H->BindsTo s fd args (ps.zip us)->Vals vs us->sp vs H Q E->
  codeAny (model P w) A (.call (.ref f) args) (CR CX0 outer P w H s Q E) s
section
variable {P:Program}{w:World}{K:W.Frag}{mg:Str->Option Value}{base:Heap}
theorem q73 {N ps:List Str}{qual:Str}{scope:Scope}{f:Addr}{cd:Value}{A:Around}{outer:List Env}{s s1:Shared}{H:Hp}{E:XK}{us:List Value}{vs:List V}
  (S:FnScope N ps scope)(e0:Env0 P w K mg base A outer s H)(hl:vs.length=ps.length)(r:Vals vs us)
  (x:InCallC s s.heap.objs.size (bindL (envOfC qual scope s.heap.objs.size f cd).kindOf (ps.zip us) fun _=>none) (cellsFrom (s.heap.objs.size+1) scope.names []) (bindC (envOfC qual scope s.heap.objs.size f cd).kindOf (ps.zip us) fun _=>none) s1):
  Inv (cxOf CX0 P w K mg base N qual scope f cd A outer s H E).m [] (q1P N vs) H s1:=by
 have I:=q5r (CX:=CX0) (A:={A with handled:=none}) (E:=E) S rfl ⟨e0.frames,e0.mod,e0.bs,e0.bsz,e0.funs,e0.frf,e0.hok,e0.bare⟩ hl r x
 exact⟨⟨I.ok.mod,I.ok.kind,I.ok.glob,I.ok.blt,I.ok.above,I.ok.inj,I.ok.has,I.ok.cab,fun z=>Bool.noConfusion z,Around.frames_deeper e0.frames,I.ok.stk,I.ok.exf,I.ok.bs,I.ok.bsz,I.ok.noex,I.ok.exfs,I.ok.funs,I.ok.frf⟩,I.os,I.bare,I.base,I.loc,I.cell,I.free,I.freeC,I.pin,I.hok,I.len⟩
theorem fn_ofM {k:Nat}{f:Addr}{name qual:Str}{params:Arguments}{body:List Stmt}{scope:Scope}{dV kV doc pm cdv ct oc:Value}{an od:Option Addr}
  {osl:Array (Option Value)}{N ps:List Str}{sp:Sp}(lk:K.lookup f=some ⟨oc,od,.func (PySem.W.fnOf name qual params body scope dV kV doc pm an cdv ct),osl⟩)(hcd:PySem.W.codeIn K cdv qual=true)(S:FnScope N ps scope)
  (len:∀vs H Q E,sp vs H Q E->vs.length=ps.length)
  (hbody:∀(A:Around) (outer:List Env) (s:Shared) (H:Hp) (vs:List V) (Q:VK) (E:XK),RoomM k (A.deeper (envOfC qual scope s.heap.objs.size f cdv))->sp vs H Q E->
   ∃t,PSs (cxOf CX0 P w K mg base N qual scope f cdv A outer s H E).m body t/\t {nx:=fun _ H'=>Q .non H',rt:=Q} (q1P N vs) H):
  FnOkM P w K mg base (k+1) f (PySem.W.fnOf name qual params body scope dV kV doc pm an cdv ct) ps sp:=by
 refine⟨len,fun A outer s H args us vs Q E hr e0 hb r hsp=>?_⟩
 have hl:=len _ _ _ _ hsp
 have KX:K.In s.heap:=e0.mod.kin.keeps fun b o e=>(e0.bs b o e).1
 have lim:s.heap.NoLimit:=e0.mod.nolimit.keeps fun b o e=>(e0.bs b o e).1
 have hkind:∀y∈ps.zip us,scope.names.lookup y.1=some .local\/(scope.names.lookup y.1=some .cell/\((cellsFrom (s.heap.objs.size+1) scope.names []).lookup y.1).isSome=true):=fun⟨n,v⟩ hy=>by
  rcases S.par n (zbR hy).1 with q|q
  ·exact .inl q
  ·exact .inr ⟨q,zbD _ _ _ (.inl q)⟩
 refine codeAny_call_function (by have:=hr.dp;omega) (KX _ _ lk) rfl S.co S.gen rfl (PySem.W.codeRec_of KX hcd) (hb _ _ _ _ ?_)
 refine zcd S.kind hkind fun env he s1 x=>?_
 subst he
 refine⟨lim.keeps x.toInCall.keep,codeAny_func ?_⟩
 obtain⟨t,ht,hq⟩:=hbody A outer s H vs Q E (hr.deeper _) hsp
 have I:Inv (cxOf CX0 P w K mg base N qual scope f cdv A outer s H E).m [] (q1P N vs) H s1:=q73 S e0 hl r x
 refine zZ (ht [] s1 (q1P N vs) H _ I hq) (fun fl s' hs=>?_) fun e s' hs=>hs
 have fin:∀{σ':St} {H':Hp} {v:V} {u:Value},Inv (cxOf CX0 P w K mg base N qual scope f cdv A outer s H E).m [] σ' H' s'->RelV v u->Q v H'->CE outer P w H s Q u s':=
  fun {σ' H' v u} J rv q=>⟨v,H',J.os,J.bare,J.base,J.hok,rv,q⟩
 cases fl with
 |ret u=>
  obtain⟨v,σ',H',J,rv,q⟩:=hs
  exact fin J rv q
 |next=>
  obtain⟨σ',H',J,q⟩:=hs
  exact fin (v:=V.non) (u:=Value.none) J rfl q
 |brk=>
  obtain⟨_,_,_,q⟩:=hs
  exact False.elim q
 |cont=>
  obtain⟨_,_,_,q⟩:=hs
  exact False.elim q
structure MakesM (P:Program)(w:World)(K:W.Frag)(mg:Str->Option Value)(base:Heap)(k:Nat)(x:Str)(C:Addr)(ps:List Str)(sp:Sp):Prop where
 ex:∃f fd,ExcI K C f/\FnOkM P w K mg base k f fd ps sp/\q1h K fd ps []
 at_:mg x=some (.ref C)
theorem LaidX.makesM {x:Str}{C:Addr}{qual:Str}{st:Stmt}{N ps:List Str}{k:Nat}{sp:Sp}(L:LaidX K mg x C qual st ps)(S:FnScope N ps (qe st))(len:∀vs H Q E,sp vs H Q E->vs.length=ps.length)
  (hbody:∀(f:Addr) (cdv:Value) (A:Around) (outer:List Env) (s:Shared) (H:Hp) (vs:List V) (Q:VK) (E:XK),RoomM k (A.deeper (envOfC qual (qe st) s.heap.objs.size f cdv))->sp vs H Q E->
   ∃t,PSs (cxOf CX0 P w K mg base N qual (qe st) f cdv A outer s H E).m.nox (qu st) t/\t {nx:=fun _ H'=>Q .non H',rt:=Q} (q1P N vs) H):MakesM P w K mg base (k+1) x C ps sp:=by
 obtain⟨f,fd,F,M,b⟩:=L.ex
 obtain⟨oc,od,kV,doc,pm,an,cdv,ct,osl,rfl,lk,hcd⟩:=F.ex
 exact⟨⟨f,_,M,fn_ofM lk hcd S len (fun A outer s H vs Q E hr h=>by
  obtain⟨t,h1,q⟩:=hbody f cdv A outer s H vs Q E hr h
  exact⟨t,h1.nox,q⟩),b⟩,L.at_⟩
end
section
variable {X:Cx}{k:Nat}{f C:Addr}{fd:FuncData}{ps:List Str}{sp:Sp}{x:Str}{p pos np cpos:Pos}{e:Expr}{es:List Expr}{t:TA}{E:XK}
theorem q7C {pins:List (Addr×Obj)}{σ:St}{H:Hp}{s:Shared}{Q:Addr->Hp->Prop}{us:List Value}{vs:List V}(c:ExcI X.K C f)(F:FnOkM X.prog X.w X.K X.mg X.base k f fd ps sp)(hr:RoomM (k+1) X.A)(hb:q1h X.K fd ps [])(I:Inv X pins σ H s)(r:Vals vs us)(hl:vs.length<=sizeLine)
  (h:∀e,H e=none->sp (.ref e::vs) (upd H e (ExcO e C none)) (fun v H2=>v= .non/\Q e H2) E0):wpAny (model X.prog X.w) X.A (call (.ref C) us) (fun u s'=>∃a H',u= .ref a/\s.heap.get? a=none/\Inv X pins σ H' s'/\Q a H') X.xe s:=by
 obtain⟨bm,N,nm,qn,bs,hd,sn,sub,ab,col,dd,k0,k1,k2,k3,k5,hC,TL⟩:=q2L I.kIn c.cls
 have hfn:∃oI,s.heap.get? f=some oI/\oI.cls= .type "function":=by
  have q:Option.map (fun x:Obj=>x.cls) (X.K.lookup f)=some (.type "function"):=beq_iff_eq.mp c.fn
  cases hk:X.K.lookup f with
  |none=>rw[hk] at q;cases q
  |some o=>
   rw[hk] at q
   exact⟨o,I.kIn _ _ hk,zE q⟩
 obtain⟨oI,hfI,hfc⟩:=hfn
 obtain⟨hp,g,d,tk,os⟩:=s
 refine q4d zbo TL hC (zbP I.kIn c.init) hfI hfc (fun h' a hm=>?_) (by rw[<-r.length];exact hl)
 obtain⟨t0,ht,_⟩:=hm.there
 have I2:Inv X pins σ (upd H a (ExcO a C none)) {heap:=h',gens:=g,drawn:=d,toks:=tk,os:=os}:=I.laidN hm.keeps hm.new (q4I (sl:= #[]) ht)
 have hq:=h a (I.hok.none_of hm.new)
 have r2:Vals (V.ref a::vs) (Value.ref a::us):= .cons rfl r
 have hl2:(Value.ref a::us++([]:List Value)).length=ps.length:=by
  rw[zaU,<-r2.length]
  exact F.len _ _ _ _ hq
 refine zbf (zbk (F.run _ X.stack _ _ ⟨Value.ref a::us,[]⟩ (Value.ref a::us) _ _ E0 (hr.make C us []) (I2.env0.make C us []) (by have:=hb _ (Value.ref a::us) I2.kIn hl2;rw[zaU] at this;exact this) r2 hq) fun r s' hq'=>?_)
 cases r with
 |error e=>exact q5M pins σ _ _ e s' I2 hq'
 |ok fl=>
  cases fl with
  |ret u=>
   obtain⟨v,H',I3,rv,ev,q3⟩:=I2.after hq'
   subst ev
   exact⟨rv,a,H',rfl,hm.new,I3,q3⟩
  |next=>exact False.elim hq'
  |brk=>exact False.elim hq'
  |cont=>exact False.elim hq'
end
abbrev Cx.over (X:Cx)(v:Value):Cx:={X with A:=X.A.mark (some v),calm:=false}
section
variable {X:Cx}{pins:List (Addr×Obj)}{σ:St}{H:Hp}{s:Shared}{v:Value}
theorem Inv.over (I:Inv X pins σ H s)(v:Value):Inv (X.over v) pins σ H s:=
 ⟨⟨I.ok.mod,I.ok.kind,I.ok.glob,I.ok.blt,I.ok.above,I.ok.inj,I.ok.has,I.ok.cab,fun z=>Bool.noConfusion z,I.ok.frames,I.ok.stk,I.ok.exf,I.ok.bs,I.ok.bsz,I.ok.noex,I.ok.exfs,I.ok.funs,I.ok.frf⟩,I.os,I.bare,I.base,I.loc,I.cell,I.free,I.freeC,I.pin,I.hok,I.len⟩
theorem Inv.unover (ok:X.Ok)(I:Inv (X.over v) pins σ H s):Inv X pins σ H s:=⟨ok,I.os,I.bare,I.base,I.loc,I.cell,I.free,I.freeC,I.pin,I.hok,I.len⟩
end
def hRaise (K:W.Frag)(C D:Addr)(sp:Sp)(E:XK)(t:TA):TH:=fun cls od _ σ H=>PySem.W.exmOne K cls (.ref C)=some true/\od=none/\∀(a:Addr) (oe:Obj),H a=none->
 t σ (upd H a (.frz oe (.own a))) fun vs H1=>vs.length<=sizeLine/\∀e,H1 e=none->sp (.ref e::vs) (upd H1 e (ExcO e D none)) (fun v H2=>v= .non/\H2 a=some (.frz oe (.own a))/\∃d,H2 e=some (ExcO e D (some d))/\E (.ref D) (some d) (del H2 e)) E0
section
variable {X:Cx}{k k':Nat}{C D:Addr}{ps:List Str}{sp:Sp}{x y:Str}{np yp cpos rpos pos npos:Pos}{kk:Nat}{e:Expr}{es:List Expr}{t:TA}{E:XK}{rest:List ExceptHandler}
theorem q9l (K:W.Frag)(c:MakesM X.prog X.w X.K X.mg X.base k y D ps sp)(hR:q4S X E)(hP:∀v,PassesOwnAt (model X.prog X.w) (X.A.mark v) X.A X.env X.xe)(hx:X.ex=[])(hr:Room k' X.A)(hk:k+1<=k')(hg:Gl X x)(hm:X.mg x=some (.ref C))(hgy:Gl X y)
  (ha:∀v,PA (X.over v) (e::es) t)(hd:(x==("__debug__":Str))=false:=by decide)(hdy:(y==("__debug__":Str))=false:=by decide)(hK:X.K=K:=by rfl)
  (he:starEach (e::es) X.env=(false,eval e X.env)::starEach es X.env:=by rfl)(hpl:(backTo cpos (starEach es X.env)).any (·.1)=false:=by rfl):
  PH X (.ExceptHandler (some (.Name x np)) none [.Raise (some (.Call (.Name y yp) (e::es) [] cpos)) (some (.Constant .none kk npos)) rpos] pos::rest) (hRaise K C D sp E t):=by
 subst hK
 intro pins s σ H Dn a cls od cg ⟨h1,h0,h2⟩
 subst h0
 obtain⟨f,fd,cI,F,hb⟩:=c.ex
 refine wpAny_handleBy_cons (codeAny_handlers_test (q1g (X:=X.marked (.ref a)) (cg.inv.marked _) hg hm ?_ hd)) (by intro y;cases y)
 refine(PySem.W.exm_one cg.inv.kIn cg.type h1).here ?_
 refine codeAny_handlers_suite ?_
 obtain⟨base,a0,fly,back⟩:=cg.opened hx
 refine q3f fly cg.fly.dict fun h6 fly6 D6 up6=>?_
 have c6:=back h6 fly6 D6 up6
 obtain⟨oe,e1,e2,⟨va,e3⟩,I6⟩:=c6.track
 have ga:h6.get? a=some oe:=by
  have:=I6.hok a _ qh
  exact this.1
 obtain⟨o6,z1,z2,z3⟩:=D6
 rw[ga] at z1
 cases z1
 obtain⟨va',z4,z5⟩:=z3 rfl
 rw[e3] at z4
 cases z4
 refine wpAny_passesOwnAt (hP _) ?_
 have J:=I6.over (.ref a)
 obtain⟨bm,N,nm,qn,bs,hdd,sn,sub,ab,col,dd,k0,k1,k2,k3,k5,hC,TL⟩:=q2L I6.ok.mod.kin cI.cls
 refine zbH ?_
 rw[arm_exec_Raise]
 refine yD (zaW ?_)
 refine q3U (b:=a) (C:=D) (nm:=nm) (q:=qn) (N:=N) (bs:=bs) (bm:=bm) (hdct:=hdd) (sn:=sn) (sub:=sub) (ab:=ab) (col:=col) (dd:=dd) (k0:=k0) (k1:=k1) (k2:=k2) (k3:=k3) (k5:=k5) (newId:="ValueError.__new__") (TL.hasType (by decide)) rfl (fun s Q z=>yD (wpAny_Constant_none (yD (zaW (zA z))))) ?_
 refine yD ?_
 refine zZ (zaH (Q:=fun v s'=>∃e H2,v= .ref e/\X.s₀.heap.get? e=none/\(∀p∈X.pn++pins,p.1≠e)/\Inv (X.over (.ref a)) pins σ H2 s'/\H2 a=some (.frz oe (.own a))/\∃d,H2 e=some (ExcO e D (some d))/\E (.ref D) (some d) (del H2 e)) (q1g J hgy c.at_ ?_ hdy)) (fun v s3 h3=>?_) fun _ _ z=>z
 ·refine za0 (h₀:=X.base) I6.ok.mod.kin cI.kp (thn (ha (.ref a) cpos pins _ σ _ _ J (h2 a oe cg.fly.free)) fun us s1 ⟨vs,H1,I1,r,hl,q⟩=>⟨I1.kIn,?_⟩) he hpl
  refine zZ (q7C (X:=X.over (.ref a)) (Q:=fun e H2=>H2 a=some (.frz oe (.own a))/\∃d,H2 e=some (ExcO e D (some d))/\E (.ref D) (some d) (del H2 e)) cI F ((hr.mono hk).mark _) hb I1 r hl q) (fun v s2 h2=>?_) fun _ _ z=>z
  obtain⟨e,H2,rfl,hnew,I2,q2⟩:=h2
  exact⟨e,H2,rfl,I1.zero hnew hx,(fun p hp z=>by have:=(I1.pin p hp).1;rw[z,hnew] at this;cases this),I2,q2⟩
 ·obtain ⟨e,H2,rfl,new,hpn,I2,ha2,d,e1,hE⟩:=h3
  obtain⟨⟨t0,sl,ho⟩,_,_⟩:=(show q0j X.prog X.w H2 s3.heap e (ExcO e D (some d)) from I2.hok e _ e1)
  have ga3:s3.heap.get? a=some oe:=(I2.hok a _ ha2).1
  have hae:a≠e:=fun z=>by
   subst z
   rw[ha2] at e1
   exact HO.noConfusion (zE e1)
  have hDe:D≠e:=fun z=>by
   have:=(I6.ok.bs _ _ hC).1
   rw[z,new] at this
   cases this
  refine yD (zaW (zA ⟨e,_,_,oe,va,rfl,I2.bk _ _ hC,ho,rfl,rfl,rfl,rfl,hDe,hae,ga3,e3,z5,fun h' kp vs' q1 q0 he'=>?_⟩))
  have K2:Inv X pins σ (del H2 e) s3:=(I2.drop new e1).unover I6.ok
  have one:∀{p:Addr->Prop},p e->∀b∈([e]:List Addr),p b:=fun h1 b hb=>by rw[zL.mp hb];exact h1
  have J2:Inv X pins σ (del H2 e) {s3 with heap:=h'}:=K2.noted (as:=[e]) (fun b o hb hnf=>⟨o.slots,kp b o (fun z=>by subst z;rw[ho] at hb;cases hb;exact hnf _ rfl) hb⟩) (fun b o hb hn _=>kp b o (fun z=>hn (by rw[z];simp)) hb) (one fun o w=>by rw[ho] at w;cases w;exact⟨_,rfl⟩) (one new) (one q2N) (one hpn)
  exact hR pins σ _ _ e _ vs' _ J2 he' rfl q1 (by rw[q0];rfl) (fun z=>nomatch z) new q2N hpn hE
end
end L2
namespace Tx
open PySem PySem.StrLaws Builtin Builtin.Str PySem.NumText
def dgt (c:Nat):Bool:=Txt.contains "0123456789" ⟨#[c]⟩
def led (z:Str):Bool:=match z.cps.toList with|[]=>false|c::_=> !decide ((⟨#[c]⟩:Str)="0")
def isN (z:Str):Bool:= !decide (z="")&&z.cps.toList.all dgt&&(decide (z="0")||led z)
def vN (z:Str):Int:=((digitsVal z.cps.toList:Nat):Int)
theorem qbR:((List.range 128).all fun c=>dgt c==(decide (48<=c)&&decide (c<=57)))=true:=by walk_at "k"
theorem q8J {c:Nat}(h:c<128):dgt c=(decide (48<=c)&&decide (c<=57)):=by
 have:=zH.mp qbR c (by simpa using h)
 exact beq_iff_eq.mp this
theorem Asc.mem {z:Str}(h:z.cps.all (· <128)=true){c:Nat}(hc:c∈z.cps.toList):c<128:=by
 have:=zca.mp h c (by simpa using hc)
 simpa using this
theorem q4P {z:Str}(ha:z.cps.all (· <128)=true):(z.cps.toList.all dgt=true)↔AllDigits z.cps.toList:=by
 rw[zH]
 constructor
 ·intro h c hc
  have:=h c hc
  rw[q8J (Asc.mem ha hc)] at this
  simpa using this
 ·intro h c hc
  rw[q8J (Asc.mem ha hc)]
  simpa using h c hc
theorem q4j {z:Str}:z=""↔z.cps.toList=[]:=by
 constructor
 ·rintro rfl;rfl
 ·intro h
  refine Str.ext' (zbJ.mp ?_)
  rw[h];rfl
theorem q7r {c:Nat}:(⟨#[c]⟩:Str)="0"↔c=48:=by
 constructor
 ·intro h
  have:(⟨#[c]⟩:Str).cps.toList=("0":Str).cps.toList:=by rw[h]
  exact(zbp this).1
 ·rintro rfl;rfl
theorem q2k {z:Str}(ha:z.cps.all (· <128)=true)(hl:z.length<=640)(h:isN z=true):PySem.intText? z=some (vN z):=by
 simp only[isN,Bool.and_eq_true,Bool.not_eq_true',decide_eq_false_iff_not] at h
 exact intText_digits ((q4P ha).mp h.1.2) (fun e=>h.1.1 (q4j.mpr e)) (by omega)
theorem q0U (z:Str):0<=vN z:=Int.natCast_nonneg _
theorem q8C:∀(cs:List Nat) (n:Nat),n*10 ^ cs.length<=cs.foldl (fun acc c=>acc*10+(c - 48)) n
 |[],n=>by simp
 |c::cs,n=>by
  have:=q8C cs (n*10+(c - 48))
  refine zap ?_ this
  rw[zaf,Nat.pow_succ,Nat.mul_comm (10 ^ cs.length) 10,<-Nat.mul_assoc]
  exact zaV _ (by omega)
theorem q9W {z:Str}(ha:z.cps.all (· <128)=true)(h:isN z=true)(hl:3<z.length):1000<=vN z:=by
 have hlen:z.cps.toList.length=z.length:=zaY
 simp only[isN,Bool.and_eq_true,Bool.or_eq_true,Bool.not_eq_true',decide_eq_false_iff_not,decide_eq_true_eq] at h
 have dg:=(q4P ha).mp h.1.2
 have hld:led z=true:=by
  rcases h.2 with e|e
  ·rw [e] at hl
   exact absurd hl (by decide)
  ·exact e
 unfold led at hld
 unfold vN digitsVal
 cases e:z.cps.toList with
 |nil=>rw[e] at hlen;simp at hlen;omega
 |cons c cs=>
  rw[e] at hld hlen dg
  have hc:¬c=48:=fun q=>by simp[q7r.mpr q] at hld
  have:=dg.head
  have f:=q8C cs (0*10+(c - 48))
  have:10 ^ 3<=10 ^ cs.length:=Nat.pow_le_pow_right (by omega) (by simp at hlen;omega)
  have m:1*10 ^ cs.length<=(0*10+(c - 48))*10 ^ cs.length:=zaV _ (by omega)
  rw[List.foldl_cons]
  omega
def chk3 (l:List Nat):Bool:=let z:Str:=⟨l.toArray⟩;!(decide (l=[48])||match l with|[]=>false|c::_=> !decide (c=48))||decide (255<digitsVal l)||decide (z=sI (digitsVal l:Nat))
theorem qbU:((List.range 10).all fun a=>chk3 [a+48]&&(List.range 10).all fun b=>chk3 [a+48,b+48]&&(List.range 10).all fun c=>chk3 [a+48,b+48,c+48])=true:=by walk_at "k"
theorem q1j {z:Str}(ha:z.cps.all (· <128)=true)(h:isN z=true)(hv:vN z<=255):z=sI (vN z):=by
 have hlen:z.cps.toList.length=z.length:=zaY
 have h3:z.length<=3:=by
  refine zcj fun q=>?_
  have:=q9W ha h (by omega)
  omega
 simp only[isN,Bool.and_eq_true,Bool.or_eq_true,Bool.not_eq_true',decide_eq_false_iff_not,decide_eq_true_eq] at h
 obtain⟨⟨h0,h1⟩,h2⟩:=h
 have dg:=(q4P ha).mp h1
 have ez:z=⟨z.cps.toList.toArray⟩:=by cases z;simp
 have ld:(decide (z.cps.toList=[48])||match z.cps.toList with|[]=>false|c::_=> !decide (c=48))=true:=by
  rcases h2 with e|e
  ·rw [e];rfl
  ·unfold led at e
   cases q:z.cps.toList with
   |nil=>rw[q] at e;cases e
   |cons c cs=>
    rw[q] at e
    have:¬c=48:=fun y=>by simp[q7r.mpr y] at e
    simp[this]
 have fin:chk3 z.cps.toList=true->z=sI (vN z):=fun c=>by
  unfold chk3 at c
  unfold vN at hv ⊢
  rw[ld] at c
  simp only[Bool.not_true,Bool.false_or,Bool.or_eq_true,decide_eq_true_eq] at c
  rcases c with c|c
  ·omega
  ·rw [<-ez] at c;exact c
 have A:=zH.mp qbU
 refine fin ?_
 generalize z.cps.toList=l at*
 match l,hlen,dg with
 |[],hl,_=>exact absurd (q4j.mpr (zaX.mp (by simp at hl;rw[Array.length_toList];exact hl.symm))) h0
 |[a],_,dg=>
  have d1:=dg a (by simp)
  have:=A (a - 48) (by simp;omega)
  rw[show a - 48+48=a by omega] at this
  simp only[Bool.and_eq_true] at this
  exact this.1
 |[a,b],_,dg=>
  have d1:=dg a (by simp)
  have d2:=dg b (by simp)
  have:=A (a - 48) (by simp;omega)
  simp only[Bool.and_eq_true] at this
  have:=zH.mp this.2 (b - 48) (by simp;omega)
  rw[show a - 48+48=a by omega,show b - 48+48=b by omega] at this
  simp only[Bool.and_eq_true] at this
  exact this.1
 |[a,b,c],_,dg=>
  have d1:=dg a (by simp)
  have d2:=dg b (by simp)
  have d3:=dg c (by simp)
  have:=A (a - 48) (by simp;omega)
  simp only[Bool.and_eq_true] at this
  have:=zH.mp this.2 (b - 48) (by simp;omega)
  simp only[Bool.and_eq_true] at this
  have:=zH.mp this.2 (c - 48) (by simp;omega)
  rw[show a - 48+48=a by omega,show b - 48+48=b by omega,show c - 48+48=c by omega] at this
  exact this
 |a::b::c::d::r,hl,_=>simp at hl;omega
theorem q1z {n:Int}(h0:0<=n)(h1:n<=255):isN (sI n)=true/\vN (sI n)=n:=by
 have t:=numT h0 h1
 have hi:isN (sI n)=true:=by
  simp only[isN,Bool.and_eq_true,Bool.or_eq_true,Bool.not_eq_true',decide_eq_false_iff_not,decide_eq_true_eq]
  refine⟨⟨t.ne,t.dg⟩,?_⟩
  rcases t.lead with e|⟨c,e1,e2⟩
  ·exact .inl e
  ·refine .inr ?_
   unfold led
   cases q:(sI n).cps.toList with
   |nil=>rw[q] at e1;cases e1
   |cons y ys=>
    rw[q] at e1
    have:y=c:=by
     have:=L2.qE (xs:=y::ys) (j:=0) rfl
     rw[show(((0:Nat):Int))=0 from rfl] at this
     rw[this] at e1
     exact zE e1
    subst this
    simp[e2]
 refine⟨hi,?_⟩
 have:=q2k t.asc (by have:=t.len;omega) hi
 rw[t.it] at this
 exact(zE this).symm
theorem q8B:∀(cs:List Nat) (n:Nat),AllDigits cs->cs.foldl (fun acc c=>acc*10+(c - 48)) n<(n+1)*10 ^ cs.length
 |[],n,_=>by simp
 |c::cs,n,h=>by
  have hc:=h.head
  have:=q8B cs (n*10+(c - 48)) h.tail
  refine zR this ?_
  rw[zaf,Nat.pow_succ,Nat.mul_comm (10 ^ cs.length) 10,<-Nat.mul_assoc]
  exact zaV _ (by omega)
theorem vN_lt {z:Str}(ha:z.cps.all (· <128)=true)(h:isN z=true):vN z<((10 ^ z.length:Nat):Int):=by
 have hlen:z.cps.toList.length=z.length:=zaY
 simp only[isN,Bool.and_eq_true] at h
 have:=q8B z.cps.toList 0 ((q4P ha).mp h.1.2)
 unfold vN digitsVal
 rw[hlen,Nat.zero_add,Nat.one_mul] at this
 exact Int.ofNat_lt.mpr this
theorem q68 {z:Str}(ha:z.cps.all (· <128)=true)(h:isN z=true)(hl:z.length<=150):(vN z).natAbs<2 ^ 999:=by
 have h1:=vN_lt ha h
 have h0:=q0U z
 have h2:10 ^ z.length<=10 ^ 150:=Nat.pow_le_pow_right (by omega) hl
 have h3:10 ^ 150<2 ^ 999:=by walk_at "k"
 have h4:(vN z).natAbs<10 ^ z.length:=by omega
 exact zcm (zR h4 h2) h3
end Tx
namespace L2
open PySem PySem.Spec PyProof.Rows
section
variable {X:Cx}{e:Expr}{te:TE}{pos:Pos}
def tFq (te:TE):TE:=fun σ H Q=>te σ H fun x H1=>∃y:Str,x= .str y/\(reprText y).length<=20000/\∀z:Str,z.length<=20000->Q (.str z) H1
theorem qaa (he:PE X e te):PE X (.FormattedValue e 114 none pos) (tFq te):=by
 intro pins s σ H Q I h
 refine zbs (thn (he pins s σ H _ I h) fun v s1 ⟨x,H1,I1,rx,y,ey,hy,q⟩=>?_)
 subst ey
 obtain⟨t,rfl⟩:=rx
 have big:=qC
 exact wpAny_pyReprObj_str (formatField_str (fun t' tk=>⟨.str _,H1,I1.tok _,⟨_,rfl⟩,q _ hy⟩) (by omega)) (by omega)
def qaW:R2:=fun x y H Q=>∃a b:Str,x= .str a/\y= .str b/\Q (.bl (!Txt.contains b a)) H
theorem q82:OpR X (compareOp .NotIn) qaW:=by
 intro pins s σ H x y v u Q I rx ry h
 obtain⟨a,b,rfl,rfl,q⟩:=h
 obtain⟨t,rfl⟩:=rx
 obtain⟨t',rfl⟩:=ry
 exact PyProof.Rows.notIn_str ⟨.bl _,H,I,rfl,q⟩
def rCatS:R2:=fun x y H Q=>∃a b:Str,x= .str a/\y= .str b/\a.length+b.length<=sizeLine/\Q (.str (a++b)) H
theorem q5N:OpR X (binaryOp .Add) rCatS:=by
 intro pins s σ H x y v u Q I rx ry h
 obtain⟨a,b,rfl,rfl,hl,q⟩:=h
 obtain⟨t,rfl⟩:=rx
 obtain⟨t',rfl⟩:=ry
 exact PyProof.Rows.add_str (fun t' tk=>⟨.str _,H,I.tok _,⟨_,rfl⟩,q⟩) hl
def tIsF (ta:TE):TE:=fun σ H Q=>ta σ H fun x H1=>(∃b,x= .bl b/\Q (.bl !b) H1)\/(∃i,x= .int i/\Q (.bl false) H1)\/(x= .non/\Q (.bl false) H1)
theorem qbf {a:Expr}{ta:TE}{j pos'}(ha:PE X a ta):PC X .Is a (.Constant (.bool false) j pos') (tIsF ta):=by
 intro pins s σ H Q I h
 refine thn (ha pins s σ H _ I h) fun v s1 ⟨x,H1,I1,r1,q1⟩=>?_
 rcases q1 with⟨b,rfl,q1⟩|⟨i,rfl,q1⟩|⟨rfl,q1⟩
 ·cases (show v=Value.bool b from r1)
  exact Constant_bool (za9 (by cases b<;>rfl) ⟨.bl !b,H1,I1,by cases b<;>rfl,q1⟩)
 ·obtain ⟨t,rfl⟩:=(show∃t,v=Value.int i t from r1)
  exact Constant_bool (za9 (by rfl) ⟨.bl false,H1,I1,rfl,q1⟩)
 ·cases (show v=Value.none from r1)
  exact Constant_bool (za9 (by rfl) ⟨.bl false,H1,I1,rfl,q1⟩)
def tIsTa (ta:TE):TE:=fun σ H Q=>ta σ H fun x H1=>(∃b,x= .bl b/\Q (.bl b) H1)\/(∃i,x= .int i/\Q (.bl false) H1)\/(x= .non/\Q (.bl false) H1)
theorem qbe {a:Expr}{ta:TE}{j pos'}(ha:PE X a ta):PC X .Is a (.Constant (.bool true) j pos') (tIsTa ta):=by
 intro pins s σ H Q I h
 refine thn (ha pins s σ H _ I h) fun v s1 ⟨x,H1,I1,r1,q1⟩=>?_
 rcases q1 with⟨b,rfl,q1⟩|⟨i,rfl,q1⟩|⟨rfl,q1⟩
 ·cases (show v=Value.bool b from r1)
  exact Constant_bool (za9 (by cases b<;>rfl) ⟨.bl b,H1,I1,by cases b<;>rfl,q1⟩)
 ·obtain ⟨t,rfl⟩:=(show∃t,v=Value.int i t from r1)
  exact Constant_bool (za9 (by rfl) ⟨.bl false,H1,I1,rfl,q1⟩)
 ·cases (show v=Value.none from r1)
  exact Constant_bool (za9 (by rfl) ⟨.bl false,H1,I1,rfl,q1⟩)
def tNotT (ta:TE):TE:=fun σ H Q=>ta σ H fun x H1=>∃b,x= .bl b/\Q (.bl (!b)) H1
theorem qbd {a:Expr}{ta:TE}{j pos'}(ha:PE X a ta):PC X .IsNot a (.Constant (.bool true) j pos') (tNotT ta):=by
 intro pins s σ H Q I h
 refine thn (ha pins s σ H _ I h) fun v s1 ⟨x,H1,I1,r1,b,hb,q1⟩=>?_
 subst hb
 cases(show v=Value.bool b from r1)
 exact Constant_bool (wpAny_isNot_plain (by cases b<;>rfl) ⟨.bl (!b),H1,I1,by cases b<;>rfl,q1⟩)
def rRepS:R2:=fun x y H Q=>∃(a:Str) (n:Nat),x= .str a/\y= .int (n:Int)/\2<=n/\n<=1000/\1<=a.length/\a.length<=1000/\Q (.str ⟨(List.replicate n a.cps).foldl (· ++ ·) #[]⟩) H
theorem qbg:OpR X (binaryOp .Mult) rRepS:=by
 intro pins s σ H x y v u Q I rx ry h
 obtain⟨a,n,rfl,rfl,h2,h3,h4,h5,q⟩:=h
 obtain⟨t,rfl⟩:=rx
 obtain⟨t',rfl⟩:=ry
 have big:=qC
 have hm:a.length*n<=1000*1000:=Nat.mul_le_mul h5 h3
 have hn1:¬((n:Int)<1):=by omega
 have hn2:((n:Int)==1||a.length==0)=false:=by
  rw[Bool.or_eq_false_iff,beq_eq_false_iff_ne,beq_eq_false_iff_ne]
  omega
 have hsz:(⟨(List.replicate n a.cps).foldl (· ++ ·) #[]⟩:Str).length=a.length*n:=by
  show((List.replicate n a.cps).foldl (· ++ ·) #[]).size=_
  have:∀(m:Nat) (b:Array Nat),((List.replicate m a.cps).foldl (· ++ ·) b).size=b.size+a.length*m:=fun m=>by
   induction m with
   |zero=>intro b;simp
   |succ m ih=>
    intro b
    rw[List.replicate_succ,List.foldl_cons,ih,Array.size_append]
    show b.size+a.length+a.length*m=_
    rw[Nat.mul_succ];omega
  rw[this];simp
 refine P.mul_str (by rw[zav (by omega),zav (by omega)];rfl) (fun _ _=>?_) (fun _ _=>?_) ?_
 ·have:(1000:Int)<=(2 ^ 63 - 1) / (n:Int):=by
   rw[Int.le_ediv_iff_mul_le (by omega)]
   omega
  omega
 ·rw [show((n:Int)).toNat=n from rfl]
  unfold Builtin.Str.tooLong
  simp
  omega
 ·rw [zI hn1,zI (by rw[hn2];simp)]
  exact⟨by rw[show((n:Int)).toNat=n from rfl,hsz];omega,⟨.str _,H,I.tok _,⟨_,rfl⟩,q⟩⟩
def isStrOf (k:Str):Value->Bool| .str z _=>z==k|_=>false
def rIdxS (K:W.Frag):V->List V->Hp->VK->Prop:=fun x vs H Q=>∃(p:Addr) (zs:List Str) (k:Str) (j:Nat),x= .ref p/\vs=[.str k]/\SqL K H p (zs.map V.str)/\zs[j]? =some k/\(∀i,i<j->zs[i]? ≠some k)/\zs.length<=1000/\Q (.int (j:Nat)) H
theorem q7q:∀{zs:List Str} {us:List Value},Vals (zs.map V.str) us->us.length=zs.length/\∀(i:Nat) (v:Value),us[i]? =some v->∃z t,zs[i]? =some z/\v= .str z t
 |[],_,h=>by cases h;exact⟨rfl,fun i v e=>by simp at e⟩
 |z::zs,_,h=>by
  cases h with
  |cons hx ht=>
   obtain⟨t,rfl⟩:=hx
   obtain⟨a,b⟩:=q7q ht
   refine⟨by simp[a],fun i v e=>?_⟩
   cases i with
   |zero=>simp at e;exact⟨z,t,rfl,e.symm⟩
   |succ i=>simp at e;exact b i v e
theorem q8a (K:W.Frag)(hK:X.K=K:=by rfl):MtM X "list.index" (rIdxS K):=by
 subst hK
 intro pins s σ H x vs v us Q I rx rv h
 obtain⟨p,zs,k,j,rfl,rfl,hq,hj,hb,hl,q⟩:=h
 cases rx
 obtain⟨u,rfl,ry⟩:=q2u rv
 obtain⟨tk,rfl⟩:=(show∃t,u=Value.str k t from ry)
 obtain⟨its,r,pl,hz⟩:=I.list hq
 obtain⟨e1,e2⟩:=q7q r
 obtain⟨⟨cls,dd,data,sl⟩,ho,hc,n,hd⟩:=id pl.isList
 simp only at hc hd
 subst hc hd
 obtain⟨hj1,hj2⟩:=yA hj
 have at_:∀i (hi:i<its.length),∃z t,zs[i]? =some z/\its[i]= .str z t:=fun i hi=>e2 i _ (zay hi)
 have big:=qC
 refine call_meets zbz ⟨_,ho,rfl⟩ PySem.F.entry_list_index (PySem.F.args_list_index_2 _ _)
  (SeqAt.list_indexAt p its.toArray n dd sl (.str k tk) (isStrOf k) j (by simp;omega) (by omega) ?_ ?_) ⟨ho,fun y hy=>?_,⟨.int _,H,I.tok _,⟨_,rfl⟩,q⟩⟩
 ·obtain ⟨z,t,a1,a2⟩:=at_ j (by omega)
  rw[hj] at a1
  cases a1
  show isStrOf k its[j]=true
  rw[a2]
  simp[isStrOf]
 ·intro i hi hlt
  have hi':i<its.length:=by simpa using hi
  obtain⟨z,t,a1,a2⟩:=at_ i hi'
  show isStrOf k its[i]=false
  rw[a2]
  have:=hb i hlt
  rw[a1] at this
  simpa[isStrOf] using fun w=>this (by rw[w])
 ·obtain ⟨i,hi,rfl⟩:=zbl.mp (by simpa using hy:y∈its)
  obtain⟨z,t,a1,a2⟩:=at_ i hi
  rw[a2]
  exact SeqAt.EqAt.str_str z t k tk
end
section
variable {σ:St}{H:Hp}{Q:VK}{ta:TE}
theorem qaS (q:ta σ H fun x H1=>∃b,x= .bl b/\Q (.bl (!b)) H1):tNotT ta σ H Q:=q
theorem q7I (q:ta σ H fun x H1=>(∃b,x= .bl b/\Q (.bl b) H1)\/(∃i,x= .int i/\Q (.bl false) H1)\/(x= .non/\Q (.bl false) H1)):tIsTa ta σ H Q:=q
theorem q7J (q:ta σ H fun x H1=>(∃b,x= .bl b/\Q (.bl !b) H1)\/(∃i,x= .int i/\Q (.bl false) H1)\/(x= .non/\Q (.bl false) H1)):tIsF ta σ H Q:=q
end
end L2
namespace Mine
open PySem L2
local macro_rules| `(tactic| walk_at "s")=> `(tactic| exact⟨rfl,rfl,rfl,by walk_at "k",rfl,by walk_at "k",by walk_at "k"⟩)
def top (i:Nat):Stmt:=PySem.Challenge.pw_delve_k82_texts_refused.main.body.getD i (.Pass ⟨0,0,0,0⟩)
abbrev q3x:Stmt:=top 0
abbrev q20:Stmt:=top 17
abbrev q1t:Stmt:=top 18
abbrev q1s:Stmt:=top 27
abbrev q19:Stmt:=top 28
abbrev q1o:Stmt:=top 29
abbrev q17:Stmt:=top 49
abbrev q1r:Stmt:=top 50
abbrev q0g:Stmt:=top 51
abbrev q0I:Stmt:=top 52
abbrev q0y:Stmt:=top 53
abbrev q0x:Stmt:=top 54
abbrev q1p:Stmt:=top 59
abbrev q3w:Stmt:=top 60
abbrev q06:Stmt:=top 61
abbrev q16:Stmt:=top 62
abbrev q0H:Stmt:=top 63
abbrev q0Q:Stmt:=top 64
abbrev q1q:Stmt:=top 65
abbrev q21:Stmt:=top 66
abbrev qZ:Stmt:=top 67
abbrev q0o:Stmt:=top 68
abbrev q0z:Stmt:=top 69
abbrev q0L:Stmt:=top 71
abbrev q0K:Stmt:=top 72
abbrev q0e:Stmt:=top 73
abbrev q0p:Stmt:=top 74
abbrev q0d:Stmt:=top 75
abbrev q0h:Stmt:=top 76
abbrev q02:Stmt:=top 77
abbrev q01:Stmt:=top 78
abbrev q00:Stmt:=top 79
abbrev q03:Stmt:=top 80
abbrev q0M:Stmt:=top 81
abbrev q07:Stmt:=top 82
abbrev q0J:Stmt:=top 83
abbrev q5d:Stmt:=top 84
abbrev q05:Stmt:=q1N (top 10) 0
abbrev q0C:Stmt:=q1N (top 20) 0
abbrev qN:Stmt:=q1N (top 20) 1
abbrev qL:Stmt:=q1N (top 20) 2
abbrev q0q:Stmt:=q1N (top 21) 0
abbrev q0D:Stmt:=q1N (top 22) 0
abbrev q0B:Stmt:=q1N (top 23) 0
abbrev q0R:Stmt:=q1N (top 24) 0
abbrev q0A:Stmt:=q1N (top 25) 0
abbrev q0r:Stmt:=q1N (top 26) 0
theorem q7z:FnScope ["number","least","most"] ["number","least","most"] (qe q20):=by walk_at "s"
theorem q6V:FnScope ["parts","place","part"] ["parts","place","part"] (qe q1t):=by walk_at "s"
theorem q43:FnScope ["gate","word"] ["gate"] (qe q1s):=by walk_at "s"
theorem q2Y:FnScope ["thing","tops","numbers"] ["thing"] (qe q19):=by walk_at "s"
theorem q6S:FnScope ["word"] ["word"] (qe q1o):=by walk_at "s"
theorem q7A:FnScope ["rooms","first","last","ways","things","levers","wheels","bars","water"] ["rooms","first","last","ways","things","levers","wheels","bars","water"] (qe q17):=by walk_at "s"
theorem q6U:FnScope ["parts"] ["parts"] (qe q1r):=by walk_at "s"
theorem q3v:FnScope ["name","number","least","most"] ["name","number","least","most"] (qe q0g):=by walk_at "s"
theorem q0P:FnScope ["rooms","ways","made","a","b","gate","back"] ["rooms","ways"] (qe q0I):=by walk_at "s"
theorem q1l:FnScope ["name","rooms","pairs","most_pairs","least","most","made","room","number"] ["name","rooms","pairs","most_pairs","least","most"] (qe q0y):=by walk_at "s"
theorem q39:FnScope ["name","rows","most","made"] ["name","rows","most"] (qe q0x):=by walk_at "s"
theorem q6f:FnScope ["cellar","lines"] ["cellar"] (qe q1p):=by walk_at "s"
theorem q2W:FnScope ["text","lines","made","number","line"] ["text"] (qe q3w):=by walk_at "s"
theorem q3u:FnScope ["word","numbers"] ["word","numbers"] (qe q06):=by walk_at "s"
theorem q3t:FnScope ["way","word"] ["way"] (qe q16):=by walk_at "s"
theorem q53:FnScope ["made","number","words"] ["made","number","words"] (qe q0H):=by walk_at "s"
theorem q2w:FnScope ["made","words","part","row"] ["made","words"] (qe q0Q):=by walk_at "s"
theorem q6T:FnScope ["word"] ["word"] (qe q1q):=by walk_at "s"
theorem q54:FnScope ["words","gate"] ["words"] (qe q21):=by walk_at "s"
theorem q2X:FnScope ["word","words","many"] ["word","words","many"] (qe qZ):=by walk_at "s"
theorem q2C:FnScope ["words","word"] ["words"] (qe q0o):=by walk_at "s"
theorem q55:FnScope ["word"] ["word"] (qe q0z):=by walk_at "s"
theorem q56:FnScope ["_law_script","_law_k"] ["_law_script","_law_k"] (qe q0L):=by walk_at "s"
theorem q1G:FnScope ["_law_cell_here","_law_kind","_law_some"] ["_law_cell_here"] (qe q0K):=by walk_at "s"
theorem qG:FnScope ["_law_script","_law_cell_here","_law_rooms","_law_lists","_law_k","_law_room","_law_other","_law_ways","_law_things","_law_levers","_law_wheels","_law_ends","_law_more"] ["_law_script"] (qe q0e):=by walk_at "s"
theorem q0X:FnScope ["_law_one","_law_lines_here","_law_way","_law_k","_law_pair"] ["_law_one"] (qe q0p):=by walk_at "s"
theorem q3T:FnScope ["_law_text","_law_low","_law_beyond"] ["_law_text","_law_low","_law_beyond"] (qe q0d):=by walk_at "s"
theorem q0W:FnScope ["_law_parts","_law_bounds","_law_k","_law_low","_law_beyond"] ["_law_parts","_law_bounds"] (qe q0h):=by walk_at "s"
theorem q1R:FnScope ["_law_parts","_law_bounds"] ["_law_parts"] (qe q02):=by walk_at "s"
theorem q2Z:FnScope ["_law_parts","_law_k"] ["_law_parts","_law_k"] (qe q01):=by walk_at "s"
theorem q1Q:FnScope ["_law_parts","_law_rooms","_law_top"] ["_law_parts","_law_rooms"] (qe q00):=by walk_at "s"
theorem q08:FnScope ["_law_lines_here","_law_tally","_law_k","_law_parts","_law_at"] ["_law_lines_here"] (qe q03):=by walk_at "s"
theorem q0n:FnScope ["_law_line","_law_cell_here","_law_parts","_law_at","_law_new","_law_way","_law_odd"] ["_law_line","_law_cell_here"] (qe q0M):=by walk_at "s"
theorem q0m:FnScope ["_law_lines_here","_law_cell_here","_law_at","_law_way","_law_ahead","_law_other","_law_same"] ["_law_lines_here","_law_cell_here"] (qe q07):=by walk_at "s"
theorem q0c:FnScope ["_law_lines_here","_law_found","_law_caught","e","_law_some"] ["_law_lines_here"] (qe q0J):=by walk_at "s"
theorem q3a:FnScope ["_law_script","_law_one","_law_lines_here","_law_k","_law_spoiled_here","_law_due","_law_found"] ["_law_script"] (qe q5d):=by walk_at "s"
theorem q2n:FnScope ["self","line"] ["self","line"] (qe q05):=by walk_at "s"
theorem q5b:FnScope ["self","word","numbers"] ["self","word","numbers"] (qe q0C):=by walk_at "s"
theorem q59:FnScope ["self"] ["self"] (qe qN):=by walk_at "s"
theorem q5a:FnScope ["self"] ["self"] (qe qL):=by walk_at "s"
theorem q4p:FnScope ["self"] ["self"] (qe q0q):=by walk_at "s"
theorem q5c:FnScope ["self","kind"] ["self","kind"] (qe q0D):=by walk_at "s"
theorem q58:FnScope ["self","kind"] ["self","kind"] (qe q0B):=by walk_at "s"
theorem q5K:FnScope ["self","bar"] ["self","bar"] (qe q0R):=by walk_at "s"
theorem q57:FnScope ["self","height","kind"] ["self","height","kind"] (qe q0A):=by walk_at "s"
theorem q4q:FnScope ["self","height"] ["self","height"] (qe q0r):=by walk_at "s"
structure Cs where
 Gate:Addr
 Plain:Addr
 Door:Addr
 Need:Addr
 Bar:Addr
 Wade:Addr
 Float:Addr
structure Txt (mg:Str->Option Value)(cs:Cs):Prop where
 wbB:mg "ValueError"=none
 wce:mg "all"=none
 wcl:mg "any"=none
 wb6:mg "bool"=none
 wbE:mg "enumerate"=none
 was:mg "int"=none
 wm:mg "isinstance"=none
 wq:mg "len"=none
 wbU:mg "list"=none
 wcd:mg "min"=none
 vH:mg "range"=none
 wbJ:mg "str"=none
 wck:mg "sum"=none
 wap:mg "tuple"=none
 wcj:mg "zip"=none
 vF:∃t,mg "ALL_BARS"=some (.int 255 t)
 waJ:∃t,mg "FIGURES"=some (.str "0123456789" t)
 vG:∃t,mg "FIRST"=some (.int 1 t)
 wB:∃t,mg "FIRST_BARS"=some (.int 7 t)
 vq:∃t,mg "FIRST_LINES"=some (.int 3 t)
 wz:∃t,mg "FIRST_WATER"=some (.int 8 t)
 wao:∃t,mg "LAST"=some (.int 2 t)
 waw:∃t,mg "LAST_BAR"=some (.int 7 t)
 wK:∃t,mg "LAST_KIND"=some (.int 11 t)
 wN:∃t,mg "LEVERS"=some (.int 5 t)
 vk:∃t,mg "MOST_LEVERS"=some (.int 4 t)
 vL:∃t,mg "MOST_ROOMS"=some (.int 14 t)
 vC:∃t,mg "MOST_THINGS"=some (.int 8 t)
 wad:∃t,mg "MOST_WAYS"=some (.int 20 t)
 vj:∃t,mg "MOST_WHEELS"=some (.int 4 t)
 vI:∃t,mg "ROOMS"=some (.int 0 t)
 wM:∃t,mg "THINGS"=some (.int 4 t)
 wG:∃t,mg "TOP_HEIGHT"=some (.int 9 t)
 wO:∃t,mg "WAYS"=some (.int 3 t)
 wbj:∃t,mg "WAY_A"=some (.int 0 t)
 wbg:∃t,mg "WAY_B"=some (.int 1 t)
 wax:∃t,mg "WAY_BACK"=some (.int 3 t)
 waD:∃t,mg "WAY_GATE"=some (.int 2 t)
 wH:∃t,mg "WHEELS"=some (.int 6 t)
 c_Gate:mg "Gate"=some (.ref cs.Gate)
 c_Plain:mg "Plain"=some (.ref cs.Plain)
 c_Door:mg "Door"=some (.ref cs.Door)
 c_Need:mg "Need"=some (.ref cs.Need)
 c_Bar:mg "Bar"=some (.ref cs.Bar)
 c_Wade:mg "Wade"=some (.ref cs.Wade)
 c_Float:mg "Float"=some (.ref cs.Float)
structure Tk (K:W.Frag)(mg:Str->Option Value):Prop where
 NOTHING_MORE:∃p e0 e1 e2 e3,mg "NOTHING_MORE"=some (.ref p)/\(∀H,SqT K H p [.ref e0,.ref e1,.ref e2,.ref e3,.int 0,.int 0])/\(∀H,SqT K H e0 [])/\(∀H,SqT K H e1 [])/\(∀H,SqT K H e2 [])/\(∀H,SqT K H e3 [])/\∃o,K.lookup p=some o/\o.cls= .type "tuple"/\o.dict=none
structure Tcl (K:W.Frag)(cs:Cs):Prop where
 cl_Plain:Cls K cs.Plain
 no_Plain_numbers:q0a K cs.Plain "numbers"
 no_Plain_word:q0a K cs.Plain "word"
 cl_Door:Cls K cs.Door
 no_Door_numbers:q0a K cs.Door "numbers"
 no_Door_word:q0a K cs.Door "word"
 cl_Need:Cls K cs.Need
 no_Need_kind:q0a K cs.Need "kind"
 no_Need_numbers:q0a K cs.Need "numbers"
 no_Need_word:q0a K cs.Need "word"
 cl_Bar:Cls K cs.Bar
 no_Bar_bar:q0a K cs.Bar "bar"
 no_Bar_numbers:q0a K cs.Bar "numbers"
 no_Bar_word:q0a K cs.Bar "word"
 cl_Wade:Cls K cs.Wade
 no_Wade_height:q0a K cs.Wade "height"
 no_Wade_kind:q0a K cs.Wade "kind"
 no_Wade_numbers:q0a K cs.Wade "numbers"
 no_Wade_word:q0a K cs.Wade "word"
 cl_Float:Cls K cs.Float
 no_Float_height:q0a K cs.Float "height"
 no_Float_numbers:q0a K cs.Float "numbers"
 no_Float_word:q0a K cs.Float "word"
structure Xs where
 DelveError:Addr
 NoCellar:Addr
 NoDeal:Addr
 NoDeed:Addr
 NoPlan:Addr
 NoRow:Addr
 NoText:Addr
 Shut:Addr
 TooMany:Addr
 Wide:Addr
structure Tx (K:W.Frag)(mg:Str->Option Value)(xs:Xs):Prop where
 vE:mg "DelveError"=some (.ref xs.DelveError)
 wx:mg "NoCellar"=some (.ref xs.NoCellar)
 wb4:mg "NoDeal"=some (.ref xs.NoDeal)
 wbT:mg "NoDeed"=some (.ref xs.NoDeed)
 wbS:mg "NoPlan"=some (.ref xs.NoPlan)
 wcb:mg "NoRow"=some (.ref xs.NoRow)
 wbm:mg "NoText"=some (.ref xs.NoText)
 wcg:mg "Shut"=some (.ref xs.Shut)
 wbK:mg "TooMany"=some (.ref xs.TooMany)
 wcf:mg "Wide"=some (.ref xs.Wide)
 wE:ExcC K xs.NoCellar
 wch:W.exmOne K (.ref xs.NoCellar) (.ref xs.DelveError)=some true
 waq:W.exmOne K (.ref xs.NoCellar) (.ref xs.NoCellar)=some true
 wbH:W.kitOne K (.ref xs.NoCellar) (.ref xs.NoCellar)=some true
 wbQ:W.kitOne K (.ref xs.NoCellar) (.ref xs.NoDeal)=some false
 wbX:W.kitOne K (.ref xs.NoCellar) (.ref xs.NoDeed)=some false
 wb8:W.kitOne K (.ref xs.NoCellar) (.ref xs.NoPlan)=some false
 wb9:W.kitOne K (.ref xs.NoCellar) (.ref xs.NoRow)=some false
 wb1:W.kitOne K (.ref xs.NoCellar) (.ref xs.NoText)=some false
 wca:W.kitOne K (.ref xs.NoCellar) (.ref xs.Shut)=some false
 wbL:W.kitOne K (.ref xs.NoCellar) (.ref xs.TooMany)=some false
 wbF:W.kitOne K (.ref xs.NoCellar) (.type "ValueError")=some true
 wcc:W.kitOne K (.ref xs.NoCellar) (.ref xs.Wide)=some false
 wbD:W.exmOne K (.ref xs.NoText) (.ref xs.DelveError)=some true
 wb3:W.exmOne K (.ref xs.NoText) (.ref xs.NoCellar)=some false
 waH:W.kitOne K (.ref xs.NoText) (.ref xs.NoCellar)=some false
 wa4:W.kitOne K (.ref xs.NoText) (.ref xs.NoDeal)=some false
 waY:W.kitOne K (.ref xs.NoText) (.ref xs.NoDeed)=some false
 wa0:W.kitOne K (.ref xs.NoText) (.ref xs.NoPlan)=some false
 wa7:W.kitOne K (.ref xs.NoText) (.ref xs.NoRow)=some false
 wa5:W.kitOne K (.ref xs.NoText) (.ref xs.NoText)=some true
 wbd:W.kitOne K (.ref xs.NoText) (.ref xs.Shut)=some false
 waT:W.kitOne K (.ref xs.NoText) (.ref xs.TooMany)=some false
 waB:W.kitOne K (.ref xs.NoText) (.type "ValueError")=some true
 wbf:W.kitOne K (.ref xs.NoText) (.ref xs.Wide)=some false
 wci:ExcT K xs.NoCellar
 wu:ExcT K xs.NoText
 vW:ExcF K xs.NoText
 waP:q7c K xs.NoText
 wT:W.findIn K (.ref xs.NoText) "line"=some none
 waE:BaseI K xs.DelveError
-- ROOM 10
inductive E1 {a:Type}(P:a->Prop):Prop
 |mk:∀z,P z->E1 P
inductive E2 {a b:Type}(P:a->b->Prop):Prop
 |mk:∀z y,P z y->E2 P
inductive E3 {a b c:Type}(P:a->b->c->Prop):Prop
 |mk:∀z y x,P z y x->E3 P
inductive E4 {a b c d:Type}(P:a->b->c->d->Prop):Prop
 |mk:∀z y x w,P z y x w->E4 P
inductive E5 {a b c d e:Type}(P:a->b->c->d->e->Prop):Prop
 |mk:∀z y x w v,P z y x w v->E5 P
inductive E6 {a b c d e f:Type}(P:a->b->c->d->e->f->Prop):Prop
 |mk:∀z y x w v u,P z y x w v u->E6 P
inductive E8 {a b c d e f g h:Type}(P:a->b->c->d->e->f->g->h->Prop):Prop
 |mk:∀z y x w v u t s,P z y x w v u t s->E8 P
inductive A2 (a b:Prop):Prop
 |mk:a->b->A2 a b
inductive A3 (a b c:Prop):Prop
 |mk:a->b->c->A3 a b c
inductive A4 (a b c d:Prop):Prop
 |mk:a->b->c->d->A4 a b c d
inductive A5 (a b c d e:Prop):Prop
 |mk:a->b->c->d->e->A5 a b c d e
inductive A6 (a b c d e f:Prop):Prop
 |mk:a->b->c->d->e->f->A6 a b c d e f
inductive A7 (a b c d e f g:Prop):Prop
 |mk:a->b->c->d->e->f->g->A7 a b c d e f g
inductive A8 (a b c d e f g h:Prop):Prop
 |mk:a->b->c->d->e->f->g->h->A8 a b c d e f g h
inductive A9 (a b c d e f g h i:Prop):Prop
 |mk:a->b->c->d->e->f->g->h->i->A9 a b c d e f g h i
inductive A11 (a b c d e f g h i j k:Prop):Prop
 |mk:a->b->c->d->e->f->g->h->i->j->k->A11 a b c d e f g h i j k
local macro_rules| `(tactic| walk_at "ne")=> `(tactic| refine ifd (fun h=>absurd h (by walk_at "k")) (fun _=>?_))
local macro_rules| `(tactic| walk_at "eq")=> `(tactic| refine ifd (fun _=>?_) (fun h=>absurd rfl h))
local macro_rules| `(tactic| walk_at "at")=> `(tactic| first|rfl|exact atI0|exact qbY (by assumption)|exact qE (by assumption)|assumption)
local macro_rules| `(tactic| walk_at "hp")=> `(tactic| first|with_reducible assumption|with_reducible exact qh|((with_reducible apply q0w);(rotate_left;(with_reducible assumption));walk_at "hp")|exact qh)
local macro_rules| `(tactic| walk_at "sq")=> `(tactic| first|with_reducible assumption|((with_reducible apply SqT.of);walk_at "hp")|((with_reducible apply SqL.of);walk_at "hp")|((with_reducible refine' Same.seq ?s ?h);(case h=>with_reducible assumption);(case s=>walk_at "sm"))|((with_reducible refine' Same.tup ?s ?h);(case h=>with_reducible assumption);(case s=>walk_at "sm")))
local macro_rules| `(tactic| walk_at "sm")=> `(tactic| first|with_reducible assumption|with_reducible exact Same.refl _|((with_reducible refine Same.trans ?_ (Same.upd (by assumption)));walk_at "sm"))
local macro_rules| `(tactic| walk_at "side")=> `(tactic| first|assumption|omega|(exact⟨by omega,by omega⟩)|(exact Or.inl ⟨by omega,by omega⟩)|(exact Or.inr ⟨by omega,by omega⟩)|(exact⟨by omega,by omega,by omega⟩)|(exact⟨by omega,by omega,by decide⟩)|(exact⟨⟨by omega,by omega⟩,by omega,by omega⟩))
local macro_rules| `(tactic| walk_at "rd1")=> `(tactic| first|((with_reducible refine' r_var ?h ?_);(case h=>rfl))|(with_reducible first|refine' r_op ?_|refine' r_c ?_|refine' r_cons ?_|refine' r_nil ?_|refine' r_seq ?_|refine' r_asg ?_|refine' r_name ?_|refine' r_call ?_|refine' r_cb ?_|refine' r_I0 ?_|refine' r_test ?_|refine' r_bl ?_|refine' r_B ?_|refine' r_ifS ?_|refine' r_ret ?_|refine' r_eqI ?_|refine' r_eqS ?_|refine' r_neI ?_|refine' r_neS ?_|refine' r_and ?_|refine' r_or ?_|refine' r_not ?_|refine' r_un ?_|refine' r_U ?_|refine' r_isN ?_|refine' r_notN ?_|refine' r_andV ?_|refine' r_orV ?_|refine' r_if ?_|refine' r_tup ?_|refine' r_lst ?_|refine' r_sl ?_|refine' r_np ?_|refine' r_pt ?_|refine' r_int ?_|refine' r_fld0 ?_|refine' qaQ ?_|refine' r_vm0 ?_|refine' r_make ?_|refine' qaT ?_|refine' r_min2 ?_|refine' r_intb ?_|refine' qa5 ?_|refine' r_next ?_|refine' r_drop ?_|refine' r_sub ?_|refine' r_gc ?_|refine' r_gn ?_|refine' r_bm ?_|refine' r_for ?_|refine' r_rng1 ?_|refine' r_rng2 ?_|refine' r_comp ?_|refine' r_yes ?_|refine' r_iL ?_|refine' r_iT ?_|refine' r_eL ?_|refine' iteT ?_|refine' iteF ?_|refine' ifnT ?_|refine' ifnF ?_|refine' q9f ?_|refine' qaS ?_)|((with_reducible refine' r_I ?h ?_);(case h=>walk_at "side"))|((with_reducible refine' r_al ?h ?_);(case h=>rfl))|((with_reducible refine' r_ixT ?h ?e ?_);(case h=>walk_at "sq");(case e=>walk_at "at"))|((with_reducible refine' q0f ?h ?e ?_);(case h=>walk_at "sq");(case e=>walk_at "at"))|((with_reducible refine' r_lenT ?h ?_);(case h=>walk_at "sq"))|((with_reducible refine' r_lenL ?h ?_);(case h=>walk_at "sq"))|((with_reducible refine' r_refT ?h ?_);(case h=>walk_at "sq"))|((with_reducible refine' r_refL ?h ?_);(case h=>walk_at "sq"))|((with_reducible refine' qaR ?h ?_);(case h=>walk_at "sq"))|((with_reducible refine' r_tyL ?h ?_);(case h=>walk_at "hp"))|((with_reducible refine' r_gT ?h ?e ?_);(case h=>walk_at "sq");(case e=>rfl))|((with_reducible refine' r_gL ?h ?e ?_);(case h=>walk_at "sq");(case e=>rfl))|((with_reducible refine' r_rg ?h ?_);(case h=>walk_at "side"))|((with_reducible refine' r_rg2 ?h ?_);(case h=>walk_at "side")))
local macro_rules| `(tactic| walk_at "r")=> `(tactic| repeat (walk_at "rd1"))
seal L2.PA L2.PE
open Ce _root_.Tx
def q14 (z:Str):Option (List Int):=
 if z="plain" then some [] else if z="door" then some [11] else if z="need" then some [11] else if z="bar" then some [7] else if z="wade" then some [9,11] else if z="float" then some [9] else none
theorem q1D:q14 "plain"=some []:=by walk_at "k"
theorem q1Z:q14 "door"=some [11]:=by walk_at "k"
theorem q1Y:q14 "need"=some [11]:=by walk_at "k"
theorem q2e:q14 "bar"=some [7]:=by walk_at "k"
theorem q1X:q14 "wade"=some [9,11]:=by walk_at "k"
theorem q1E:q14 "float"=some [9]:=by walk_at "k"
theorem q2v {z:Str}(h1:¬z="plain")(h2:¬z="door")(h3:¬z="need")(h4:¬z="bar")(h5:¬z="wade")(h6:¬z="float"):q14 z=none:=by
 unfold q14
 rw[zI h1,zI h2,zI h3,zI h4,zI h5,zI h6]
def chk (n t:Int):Bool:=decide (0<=n)&&decide (n<=t)
def q1T (z:Str)(ns:List Int):Bool:=match q14 z with
 |none=>false
 |some ts=>decide (ns.length=ts.length)&&(List.zipWith chk ns ts).all id
theorem q2A {z:Str}{ns:List Int}(h:q14 z=none):q1T z ns=false:=by unfold q1T;rw[h]
theorem q35 {z:Str}{ns ts:List Int}(h:q14 z=some ts)(hl:¬ns.length=ts.length):q1T z ns=false:=by unfold q1T;rw[h];simp[hl]
theorem q0E {z:Str}{ns ts:List Int}(h:q14 z=some ts)(hl:ns.length=ts.length):q1T z ns=(List.zipWith chk ns ts).all id:=by unfold q1T;rw[h];simp[hl]
theorem qaC:subS "int" "bool"=false:=by walk_at "k"
theorem qaB:subS "int" "int"=true:=by walk_at "k"
theorem qaA:subS "tuple" "tuple"=true:=by walk_at "k"
theorem q0G (x:V)(l:List V):cutV (x::l) (some 1) none=l:=by
 unfold cutV
 have e1:HT.sIx (x::l).length 0 (some 1)=1:=by rw[show(1:Int)=((1:Nat):Int) from rfl,HT.q3y];simp
 have e2:HT.sIx (x::l).length (x::l).length none=l.length+1:=by rw[HT.q4r];rfl
 rw[e1,e2]
 simp
theorem q9S {xs:List Int}{j:Nat}(h:j<xs.length):atI (xs.map V.int) (j:Int)=some (.int (xs.getD j 0)):=qE (by simp[List.getD,h])
theorem q5t {g:Gt}(h:g.ok):q1T g.word g.ns=true:=by
 cases g with
 |plain=>rw[q0E (z:=Gt.plain.word) (ns:=Gt.plain.ns) q1D rfl];rfl
 |door k=>have h':0<=k/\k<12:=h;rw[q0E (z:=(Gt.door k).word) (ns:=(Gt.door k).ns) q1Z rfl];simp[Gt.ns,chk];omega
 |need k=>have h':0<=k/\k<12:=h;rw[q0E (z:=(Gt.need k).word) (ns:=(Gt.need k).ns) q1Y rfl];simp[Gt.ns,chk];omega
 |bar k=>have h':0<=k/\k<8:=h;rw[q0E (z:=(Gt.bar k).word) (ns:=(Gt.bar k).ns) q2e rfl];simp[Gt.ns,chk];omega
 |wade a k=>have h':(0<=a/\a<10)/\0<=k/\k<12:=h;rw[q0E (z:=(Gt.wade a k).word) (ns:=(Gt.wade a k).ns) q1X rfl];simp[Gt.ns,chk];omega
 |float k=>have h':0<=k/\k<10:=h;rw[q0E (z:=(Gt.float k).word) (ns:=(Gt.float k).ns) q1E rfl];simp[Gt.ns,chk];omega
def qc0 (H:Hp)(x:V):Prop:=∃p ys,x= .ref p/\H p=some (.tup ys)
def TupO (H:Hp)(v:V):Option (List Int)->Prop
 |none=>v= .non
 |some l=>∃p,v= .ref p/\H p=some (.tup (l.map V.int))
def q4l:Sp:=fun vs H Q _=>E3 fun n a b=>A2 (vs=[.int n,.int a,.int b]) (Q (.bl (decide (a<=n)&&decide (n<=b))) H)
def qa0:Sp:=fun vs H Q _=>E1 fun z=>A2 (vs=[.str z]) (∀v H',Same H H'->TupO H' v (q14 z)->Q v H')
def q6c:Sp:=fun vs H Q _=>E3 fun(p:Addr) (z:Str) (ns:List Int)=>A4 (vs=[.ref p]) (H p=some (.tup (.str z::ns.map V.int))) (ns.length<=10) (∀H',Same H H'->Q (.bl (q1T z ns)) H')
abbrev psC:List Str:=["rooms","first","last","ways","things","levers","wheels","bars","water"]
abbrev dsC (d1 d2:Tok):List Value:=[.none,.none,.none,.int 0 d1,.int 0 d2]
theorem q62 (d1 d2:Tok)(us:List Value)(hl:(us++[]).length=psC.length):BnD "cellar" q17 (dsC d1 d2) ⟨us,[]⟩ (psC.zip (us++[])):=by
 have hl2:us.length=9:=by simpa using hl
 match us,hl2 with
 |[_,_,_,_,_,_,_,_,_],_=>exact fun _ _ _ _ _ _ _=>⟨_,rfl,rfl⟩
theorem q60 (d1 d2:Tok):Vals [] []:= .nil
theorem qp {H H':Hp}{a:Addr}{o:HO}(e:upd H a o=H')(h:H a=none):Same H H':=e▸Same.upd h
theorem qo {H H':Hp}{a:Addr}{o:HO}(e:upd H a o=H'):H' a=some o:=e▸qh
theorem seqT {K:W.Frag}{H H':Hp}{a:Addr}{xs:List V}(e:Same H H')(h:SqT K H a xs):SqT K H' a xs:=by
 rcases h with(h|⟨o,h⟩)|h
 ·exact .inl (.inl (e _ _ h))
 ·exact .inl (.inr ⟨o,e _ _ h⟩)
 ·exact .inr h
def q2Q (K:W.Frag)(H:Hp)(v:V)(xs:List V):Prop:=∃p,v= .ref p/\SqT K H p xs
theorem q2Q.mono {K:W.Frag}{H H':Hp}{v:V}{xs:List V}(s:Same H H')(h:q2Q K H v xs):q2Q K H' v xs:=let ⟨p,e,h⟩:=h;⟨p,e,seqT s h⟩
def Sml (n:Int):Prop:=n.natAbs.log2<1920
theorem Sml.of {n:Int}(h:n.natAbs<2 ^ 1000):Sml n:=by
 unfold Sml
 by_cases h0:n.natAbs=0
 ·rw [h0];walk_at "k"
 ·have:=(Nat.log2_lt h0).mpr h
  omega
theorem hu8_of {A:Around}{k:Nat}(hr:Room k A):A.units+8<cLine:=by have:=hr.un;omega
theorem jc {y:Str}{ts:List TE}{n:Nat}{σ:St}{H:Hp}{Q:VK}(hy:y.length<=100)(hn:n<=500000)(q:∀m,m<=n+100->q2l ts m σ H Q):q2l (tC (.str y)::ts) n σ H Q:=⟨y,rfl,by have:=qC;omega,q _ (by omega)⟩
theorem jn {n:Nat}{σ:St}{H:Hp}{Q:VK}(q:∀z:Str,z.length<=n->Q (.str z) H):q2l [] n σ H Q:=fun z hz=>q z (by omega)
theorem jfi {te:TE}{ts:List TE}{n:Nat}{σ:St}{H:Hp}{Q:VK}{i:Int}(hi:Sml i)(hn:n<=500000)(ht:∀K:VK,K (.int i) H->te σ H K)(q:∀m,m<=n+1921->q2l ts m σ H Q):q2l (tFm te::ts) n σ H Q:=
 ht _ (.inl ⟨i,rfl,hi,fun z hz=>⟨z,rfl,by have:=qC;omega,q _ (by omega)⟩⟩)
theorem jfs {te:TE}{ts:List TE}{n:Nat}{σ:St}{H:Hp}{Q:VK}{y:Str}{b:Nat}(hy:y.length<=b)(hn:n<=500000/\b<=1000)(ht:∀K:VK,K (.str y) H->te σ H K)(q:∀m,m<=n+b->q2l ts m σ H Q):q2l (tFm te::ts) n σ H Q:=
 ht _ (.inr ⟨y,rfl,by have:=qC;omega,⟨y,rfl,by have:=qC;omega,q _ (by omega)⟩⟩)
theorem jfr {te:TE}{ts:List TE}{n:Nat}{σ:St}{H:Hp}{Q:VK}{i:Int}(hi:Sml i)(hn:n<=500000)(ht:∀K:VK,K (.int i) H->te σ H K)(q:∀m,m<=n+1921->q2l ts m σ H Q):q2l (tFr te::ts) n σ H Q:=
 ht _ ⟨i,rfl,hi,fun z hz=>⟨z,rfl,by have:=qC;omega,q _ (by omega)⟩⟩
theorem jft {te:TE}{ts:List TE}{n:Nat}{σ:St}{H:Hp}{Q:VK}{p:Addr}{xs:List V}(hp:H p=some (.tup xs))(hl:xs.length<=20)(hx:∀y∈xs,q9T y)(hn:n<=500000)(ht:∀K:VK,K (.ref p) H->te σ H K)(q:∀m,m<=n+50000->q2l ts m σ H Q):q2l (tFt te::ts) n σ H Q:=
 ht _ ⟨p,xs,rfl,hp,hl,hx,fun z hz=>⟨z,rfl,by have:=qC;omega,q _ (by omega)⟩⟩
def q4m (C:Addr):Sp:=fun vs H Q E=>E4 fun(z:Str) (n a b:Int)=>A7 (vs=[.str z,.int n,.int a,.int b]) (z.length<=1000) (Sml n) (Sml a) (Sml b) (((a<=n/\n<=b)->Q .non H)) ((¬(a<=n/\n<=b)->E (.ref C) none H))
def q7v (K:W.Frag)(C:Addr):Sp:=fun vs H Q E=>E4 fun(z:Str) (v:V) (m:Int) (xs:List V)=>A8 (vs=[.str z,v,.int m]) (z.length<=200) (Sml m) (q2Q K H v xs) (xs.length<=1000) ((∀x∈xs,qc0 H x)) ((xs.length<=m->∀(p:Addr) (H':Hp),Same H H'->H' p=some (.tup xs)->Q (.ref p) H')) ((¬xs.length<=m->∀H',Same H H'->E (.ref C) none H'))
structure Wy where
 (a b:Int)
 (z:Str)
 (ns:List Int)
 (bk:Bool)
def Wy.good (y:Wy)(r:Int):Prop:=(0<=y.a/\y.a<r)/\(0<=y.b/\y.b<r)/\y.a≠y.b/\q1T y.z y.ns=true
def q4Q (H:Hp)(x:V)(y:Wy):Prop:=∃p g,x= .ref p/\H p=some (.tup [.int y.a,.int y.b,.ref g,.bl y.bk])/\H g=some (.tup (.str y.z::y.ns.map V.int))/\y.ns.length<=10/\Sml y.a/\Sml y.b/\(reprText y.z).length<=2000/\∀n∈y.ns,Sml n
def q2t (H:Hp)(x:V)(a n:Int):Prop:=∃p,x= .ref p/\H p=some (.tup [.int a,.int n])/\Sml a/\Sml n
theorem q4Q.mono {H H':Hp}{x:V}{y:Wy}(s:q2d H H')(h:q4Q H x y):q4Q H' x y:=by
 obtain⟨p,g,e,h1,h2,h3⟩:=h
 exact⟨p,g,e,s _ _ h1,s _ _ h2,h3⟩
theorem q2t.mono {H H':Hp}{x:V}{a n:Int}(s:q2d H H')(h:q2t H x a n):q2t H' x a n:=by
 obtain⟨p,e,h1,h3⟩:=h
 exact⟨p,e,s _ _ h1,h3⟩
theorem q4Q.row {H:Hp}{x:V}{y:Wy}(h:q4Q H x y):qc0 H x:=by
 obtain⟨p,g,e,h1,h2⟩:=h
 exact⟨p,_,e,h1⟩
theorem q2t.row {H:Hp}{x:V}{a n:Int}(h:q2t H x a n):qc0 H x:=by
 obtain⟨p,e,h1,h3⟩:=h
 exact⟨p,_,e,h1⟩
def q6J (H:Hp)(zs:List V)(ys:Nat->Wy):Prop:=∀i x,zs[i]? =some x->q4Q H x (ys i)
def q38 (H:Hp)(zs:List V)(ys:Nat->Int×Int):Prop:=∀i x,zs[i]? =some x->q2t H x (ys i).1 (ys i).2
def q8x (r:Int)(zs:List V)(ys:Nat->Wy):Prop:=zs.length<=20/\∀i,i<zs.length->(ys i).good r
def q5Y (r m lo hi:Int)(zs:List V)(ys:Nat->Int×Int):Prop:=zs.length<=m/\∀i,i<zs.length->(0<=(ys i).1/\(ys i).1<r)/\lo<=(ys i).2/\(ys i).2<=hi
def spMW (K:W.Frag)(C:Addr):Sp:=fun vs H Q E=>E4 fun(r:Int) (v:V) (zs:List V) (ys:Nat->Wy)=>A7 (vs=[.int r,v]) (Sml (r - 1)) (q2Q K H v zs) (q6J H zs ys) (zs.length<=1000) ((q8x r zs ys->∀(p:Addr) (H':Hp),Same H H'->H' p=some (.tup zs)->Q (.ref p) H')) ((¬q8x r zs ys->∀H',Same H H'->E (.ref C) none H'))
def spMP (K:W.Frag)(C:Addr):Sp:=fun vs H Q E=>E8 fun(z:Str) (r:Int) (v:V) (m lo hi:Int) (zs:List V) (ys:Nat->Int×Int)=>A11 (vs=[.str z,.int r,v,.int m,.int lo,.int hi]) (z.length<=100) (Sml (r - 1)) (Sml m) (Sml lo) (Sml hi) (q2Q K H v zs) (q38 H zs ys) (zs.length<=1000) ((q5Y r m lo hi zs ys->∀(p:Addr) (H':Hp),Same H H'->H' p=some (.tup zs)->Q (.ref p) H')) ((¬q5Y r m lo hi zs ys->∀H',Same H H'->E (.ref C) none H'))
theorem sml0:Sml 0:= .of (by walk_at "k")
theorem sml20:Sml 20:= .of (by walk_at "k")
theorem q8d {zs:List V}{x:V}(h:x∈zs):∃i:Nat,zs[i]? =some x:=by
 obtain⟨i,hi,e⟩:=zbl.mp h
 exact⟨i,by simp[hi,e]⟩
structure Hand where
 (r f l b wt:Int)
 (v1 v2 v3 v4:V)
 (z1 z2 z3 z4:List V)
 (y1:Nat->Wy)
 (y2 y3 y4:Nat->Int×Int)
def Hand.vs (h:Hand):List V:=[.int h.r,.int h.f,.int h.l,h.v1,h.v2,h.v3,h.v4,.int h.b,.int h.wt]
structure HandOk (K:W.Frag)(H:Hp)(h:Hand):Prop where
 sr:Sml h.r
 sr1:Sml (h.r - 1)
 sf:Sml h.f
 sl:Sml h.l
 sb:Sml h.b
 sw:Sml h.wt
 i1:q2Q K H h.v1 h.z1
 i2:q2Q K H h.v2 h.z2
 i3:q2Q K H h.v3 h.z3
 i4:q2Q K H h.v4 h.z4
 w1:q6J H h.z1 h.y1
 w2:q38 H h.z2 h.y2
 w3:q38 H h.z3 h.y3
 w4:q38 H h.z4 h.y4
 l1:h.z1.length<=1000
 l2:h.z2.length<=1000
 l3:h.z3.length<=1000
 l4:h.z4.length<=1000
theorem HandOk.mono {K:W.Frag}{H H':Hp}{h:Hand}(s:Same H H')(o:HandOk K H h):HandOk K H' h:=
 ⟨o.sr,o.sr1,o.sf,o.sl,o.sb,o.sw,o.i1.mono s,o.i2.mono s,o.i3.mono s,o.i4.mono s,fun i x e=>(o.w1 i x e).mono s.ts,fun i x e=>(o.w2 i x e).mono s.ts,fun i x e=>(o.w3 i x e).mono s.ts,fun i x e=>(o.w4 i x e).mono s.ts,o.l1,o.l2,o.l3,o.l4⟩
structure Hand.good (h:Hand):Prop where
 r:1<=h.r/\h.r<=14
 f:0<=h.f/\h.f<=h.r - 1
 l:0<=h.l/\h.l<=h.r - 1
 b:0<=h.b/\h.b<=255
 w:0<=h.wt/\h.wt<=9
 g1:q8x h.r h.z1 h.y1
 g2:q5Y h.r 8 0 11 h.z2 h.y2
 g3:q5Y h.r 4 1 255 h.z3 h.y3
 g4:q5Y h.r 4 0 9 h.z4 h.y4
def Made (h:Hand)(p:Addr)(H:Hp):Prop:=∃p1 p2 p3 p4,H p=some (.tup [.int h.r,.int h.f,.int h.l,.ref p1,.ref p2,.ref p3,.ref p4,.int h.b,.int h.wt])/\H p1=some (.tup h.z1)/\H p2=some (.tup h.z2)/\H p3=some (.tup h.z3)/\H p4=some (.tup h.z4)
def spMkC (K:W.Frag)(C:Addr):Sp:=fun vs H Q E=>E1 fun(h:Hand)=>A4 (vs=h.vs) (HandOk K H h) ((h.good->∀(p:Addr) (H':Hp),Same H H'->Made h p H'->Q (.ref p) H')) ((¬h.good->∀H',Same H H'->E (.ref C) none H'))
theorem sml1:Sml 1:= .of (by walk_at "k")
theorem sml4:Sml 4:= .of (by walk_at "k")
theorem sml8:Sml 8:= .of (by walk_at "k")
theorem sml9:Sml 9:= .of (by walk_at "k")
theorem sml11:Sml 11:= .of (by walk_at "k")
theorem sml14:Sml 14:= .of (by walk_at "k")
theorem qa3:Sml 255:= .of (by walk_at "k")
theorem q1F {n:Int}(h1: -100000<=n)(h2:n<=100000):Sml n:= .of (by
 have:n.natAbs<=100000:=by omega
 exact zbg this (by walk_at "k"))
theorem qaP {K:W.Frag}{H:Hp}{Q:VK}{a:Addr}{xs:List V}{lo hi:Option Int}(h:H a=some (.tup xs))(q:∀(r:Addr) (H':Hp),Same H H'->H' r=some (.tup (cutV xs lo hi))->Q (.ref r) H'):qaV K (.ref a) lo hi H Q:=
 ⟨a,xs,rfl,SqT.of h,fun e=>q a H (Same.refl _) (by rw[e];exact h),fun p hp=>q p _ (Same.upd hp) qh⟩
theorem q3b {K:W.Frag}{H:Hp}{Q:VK}{a b:Addr}{xs ys:List V}(h:H a=some (.tup xs))(h2:H b=some (.tup ys))(hz:xs.length+ys.length<=sizeLine)(q:∀(r:Addr) (H':Hp),Same H H'->H' r=some (.tup (xs++ys))->Q (.ref r) H'):qa7 K (.ref a) (.ref b) H Q:=
 ⟨a,b,xs,ys,rfl,rfl,SqT.of h,SqT.of h2,hz,fun e=>q b H (Same.refl _) (by rw[e];exact h2),fun _ e=>q a H (Same.refl _) (by rw[e,zaU];exact h),fun _ _ p hp=>q p _ (Same.upd hp) qh⟩
def wyW (x:Way):Wy:=⟨x.a,x.b,x.g.word,x.g.ns,x.back⟩
theorem gt_ns {g:Gt}(h:g.ok):∀n∈g.ns,Sml n:=fun n hn=>by
 cases g with
 |plain=>cases hn
 |door k=>obtain rfl:=zL.mp hn;have:0<=n/\n<12:=h;exact q1F (by omega) (by omega)
 |need k=>obtain rfl:=zL.mp hn;have:0<=n/\n<12:=h;exact q1F (by omega) (by omega)
 |bar k=>obtain rfl:=zL.mp hn;have:0<=n/\n<8:=h;exact q1F (by omega) (by omega)
 |float k=>obtain rfl:=zL.mp hn;have:0<=n/\n<10:=h;exact q1F (by omega) (by omega)
 |wade a k=>
  have z:(0<=a/\a<10)/\0<=k/\k<12:=h
  rcases zJ.mp hn with rfl|hn
  ·exact q1F (by omega) (by omega)
  ·obtain rfl:=zL.mp hn
   exact q1F (by omega) (by omega)
theorem qbF (g:Gt):(reprText g.word).length<=2000:=by
 cases g with
 |plain=>show(reprText "plain").length<=2000;walk_at "k"
 |door k=>show(reprText "door").length<=2000;walk_at "k"
 |need k=>show(reprText "need").length<=2000;walk_at "k"
 |bar k=>show(reprText "bar").length<=2000;walk_at "k"
 |wade a k=>show(reprText "wade").length<=2000;walk_at "k"
 |float k=>show(reprText "float").length<=2000;walk_at "k"
theorem way_is {H:Hp}{p:Addr}{x:Way}{r:Int}(h:q1C H p x)(o:WOk r x)(hr:r<=14):q4Q H (.ref p) (wyW x):=by
 obtain⟨g,h1,h2⟩:=h
 obtain⟨a,b,c,d⟩:=o
 rw[Gt.vs_eq] at h2
 exact⟨p,g,rfl,h1,h2,by have:=x.g.ns_len;show x.g.ns.length<=10;omega,q1F (by show(-100000:Int)<=x.a;omega) (by show x.a<=100000;omega),q1F (by show(-100000:Int)<=x.b;omega) (by show x.b<=100000;omega),qbF _,gt_ns d⟩
theorem q4s {α:Type}{At:Hp->Addr->α->Prop}{H:Hp}{ps:List Addr}{ys:List α}(h:Rows At H ps ys){i:Nat}{x:V}(e:(ps.map V.ref)[i]? =some x)(d:α):∃p,x= .ref p/\At H p (ys.getD i d)/\ys.getD i d∈ys:=by
 have hi:i<ps.length:=by have:=(yA e).1;simpa using this
 have hj:i<ys.length:=by rw[<-h.1];exact hi
 have eg:ys.getD i d=ys[i]:=by simp[List.getD,hj]
 refine⟨ps[i],by simpa[hi] using e.symm,?_,?_⟩
 ·rw [eg]
  exact h.2 i _ _ (by simp[hi]) (by simp[hj])
 ·rw [eg]
  exact zN hj
theorem q4G {α:Type}{ys:List α}{i:Nat}(d:α)(hi:i<ys.length):ys.getD i d∈ys:=by
 rw[show ys.getD i d=ys[i] by simp[List.getD,hi]]
 exact zN hi
section
variable {P:Program}{w:World}{K:W.Frag}{mg:Str->Option Value}{base:Heap}{xs:Xs}{cs:Cs}
theorem q85 (T:Txt mg cs)(L:Laid K mg "within" q20 ["number","least","most"]):Cal P w K mg base 1 "within" ["number","least","most"] q4l:=by
 refine L.cal (k:=0) q7z (fun vs H Q E h=>?_) (fun f cdv A outer s H vs Q E hr h=>?_)
 ·obtain ⟨n,a,b,rfl,_⟩:=h
  rfl
 ·obtain ⟨n,a,b,rfl,k⟩:=h
  refine⟨_,(qg (qQ (PW.pt (q23 (q1a (qx q2O rfl T.wm qO (qa (pv 0) (qa (q3D (v:= .ty "bool") rfl T.wb6 q90 rfl) qc)))) (q1i (q1S (q1a (qx q2O rfl T.wm qO (qa (pv 0) (qa (q3D (v:= .ty "int") rfl T.was q3P rfl) qc)))))))) (qj (qw q2F)) qy)
   (qj (qw (q6m qbh qbh (pv 1) (pv 0) (pv 2))))),?_⟩
  refine⟨_,rfl,_,"bool","int",rfl,rfl,by decide,_,rfl,?_⟩
  rw[qaC]
  refine iteF ?_
  refine⟨_,rfl,_,"int","int",rfl,rfl,by decide,_,rfl,?_⟩
  rw[qaB]
  refine iteF ?_
  refine⟨_,rfl,_,rfl,_,_,rfl,rfl,_,rfl,?_⟩
  refine ite2 (fun h1=>?_) (fun h1=>?_)
  ·refine ⟨_,rfl,_,_,rfl,rfl,?_⟩
   rw[h1,Bool.true_and] at k
   exact k
  ·have h1':decide (a<=n)=false:=by simpa using h1
   rw[h1',zcs] at k
   exact k
theorem q6Y (T:Txt mg cs)(L:Laid K mg "tops_of" q1o ["word"]):Cal P w K mg base 1 "tops_of" ["word"] qa0:=by
 obtain⟨t1,wK⟩:=T.wK
 obtain⟨t2,waw⟩:=T.waw
 obtain⟨t3,wG⟩:=T.wG
 refine L.cal (k:=0) q6S (fun vs H Q E h=>?_) (fun f cdv A outer s H vs Q E hr h=>?_)
 ·obtain ⟨z,rfl,_⟩:=h
  rfl
 ·obtain ⟨z,rfl,k⟩:=h
  refine⟨_,(qg (qQ (qr q0i (pv 0) qk (qB _)) (qj (qw (qJ qc))) qy)
   (qg (qQ (PW.pt (q23 (qr q0i (pv 0) qk (qB _)) (q1i (qr q0i (pv 0) qk (qB _))))) (qj (qw (qJ (qa (qz (v:= .int 11) rfl wK ⟨_,rfl⟩) qc)))) qy)
   (qg (qQ (qr q0i (pv 0) qk (qB _)) (qj (qw (qJ (qa (qz (v:= .int 7) rfl waw ⟨_,rfl⟩) qc)))) qy)
   (qg (qQ (qr q0i (pv 0) qk (qB _)) (qj (qw (qJ (qa (qz (v:= .int 9) rfl wG ⟨_,rfl⟩) (qa (qz (v:= .int 11) rfl wK ⟨_,rfl⟩) qc))))) qy)
   (qg (qQ (qr q0i (pv 0) qk (qB _)) (qj (qw (qJ (qa (qz (v:= .int 9) rfl wG ⟨_,rfl⟩) qc)))) qy)
   (qj (qw q3C))))))),?_⟩
  have fin:∀l:List Int,q14 z=some l->∀p,H p=none->Q (.ref p) (upd H p (.tup (l.map V.int))):=fun l e p hp=>k _ _ (Same.upd hp) (by rw[e];exact⟨p,rfl,qh⟩)
  have S:∀{y:Str},decide (V.str z=V.str y)=true->z=y:=fun h=>by have:=zbA h;cases this;rfl
  have N:∀{y:Str},¬decide (V.str z=V.str y)=true->¬z=y:=fun h e=>h (by rw[e];exact zbx rfl)
  refine⟨_,rfl,rfl,_,rfl,ite2 (fun h1=>?_) (fun h1=>?_)⟩
  ·exact ⟨by decide,fun p hp=>fin [] (by rw[S h1];exact q1D) p hp⟩
  refine⟨_,rfl,rfl,_,rfl,?_⟩
  refine ite2 (fun h2=>?_) (fun h2=>?_)
  ·refine iteT ?_
   exact⟨by decide,fun p hp=>fin [11] (by rw[S h2];exact q1Z) p hp⟩
  refine⟨_,rfl,rfl,_,rfl,ite2 (fun h3=>?_) (fun h3=>?_)⟩
  ·exact ⟨by decide,fun p hp=>fin [11] (by rw[S h3];exact q1Y) p hp⟩
  refine⟨_,rfl,rfl,_,rfl,ite2 (fun h4=>?_) (fun h4=>?_)⟩
  ·exact ⟨by decide,fun p hp=>fin [7] (by rw[S h4];exact q2e) p hp⟩
  refine⟨_,rfl,rfl,_,rfl,ite2 (fun h5=>?_) (fun h5=>?_)⟩
  ·exact ⟨by decide,fun p hp=>fin [9,11] (by rw[S h5];exact q1X) p hp⟩
  refine⟨_,rfl,rfl,_,rfl,ite2 (fun h6=>?_) (fun h6=>?_)⟩
  ·exact ⟨by decide,fun p hp=>fin [9] (by rw[S h6];exact q1E) p hp⟩
  exact k _ _ (Same.refl _) (by rw[q2v (N h1) (N h2) (N h3) (N h4) (N h5) (N h6)];rfl)
theorem q6Z (T:Txt mg cs)(L:Laid K mg "is_gate" q19 ["thing"])(waL:Cal P w K mg base 1 "tops_of" ["word"] qa0)(ve:Cal P w K mg base 1 "within" ["number","least","most"] q4l):Cal P w K mg base 2 "is_gate" ["thing"] q6c:=by
 refine L.cal (k:=1) q2Y (fun vs H Q E h=>?_) (fun f cdv A outer s H vs Q E hr h=>?_)
 ·obtain ⟨p,z,ns,rfl,_⟩:=h
  rfl
 ·obtain ⟨p,z,ns,rfl,hp,hl,k⟩:=h
  refine⟨_,(qg (qQ (PW.pt (q23 (q1S (q1a (qx q2O rfl T.wm qO (qa (pv 0) (qa (q3D (v:= .ty "tuple") rfl T.wap q2P rfl) qc))))) (q1i (qr q0i (qx (lenK K) rfl T.wq q0k (qa (pv 0) qc)) qd (qB _))))) (qj (qw q2F)) qy)
   (qg (qI (i:=1) q2Y.nd rfl (Or.inl rfl) (qR waL hr (by decide) rfl (qa (qD (qF K) (pv 0) qd (fun _ _=>rfl)) qc)))
   (qg (qI (i:=2) q2Y.nd rfl (Or.inl rfl) (qU (q3k K) (pv 0) (qY qd) q0s))
   (qg (qQ (PW.pt (q23 (q2p (q5j (pv 1))) (q1i (qr q4y (qx (lenK K) rfl T.wq q0k (qa (pv 2) qc)) (qx (lenK K) rfl T.wq q0k (qa (pv 1) qc)) (qB _))))) (qj (qw q2F)) qy)
   (qj (qw (qx (q5C K rfl) rfl T.wce qaq (qa (q0N (q1k (N:=["number","top"]) (own:=2) (caps:=[]) ["thing","tops","numbers"] (qe q19) (by walk_at "k")) rfl (q9j K rfl T.wcj (qa (pv 2) (qa (pv 1) qc))) (fun _ _ _ _=>(q3B (n:=2) K rfl (q0l (qM (i:=0) (show List.Nodup (["number","top"]:List Str) by walk_at "k") rfl (Or.inl rfl)) (q0l (qM (i:=1) (show List.Nodup (["number","top"]:List Str) by walk_at "k") rfl (Or.inl rfl)) q30)))) (fun _ _ _ _=>q1u) (fun _ _ _ _=>(qR ve hr (by decide) rfl (qa (pv 0) (qa qd (qa (pv 1) qc)))))) qc)))))))),?_⟩
  refine⟨_,rfl,_,"tuple","tuple",rfl,qaz hp,by decide,_,rfl,?_⟩
  rw[qaA]
  refine iteF ?_
  refine⟨_,rfl,p,_,rfl,.inr (SqT.of hp),rfl,_,rfl,ite2 (fun h1=>?_) (fun _=>?_)⟩
  ·have:=zbA h1
   simp at this
   omega
  refine⟨_,rfl,p,_,_,_,rfl,rfl,SqT.of hp,qE (j:=0) rfl,z,rfl,fun v H1 s1 tv=>?_⟩
  have hp1:=s1 _ _ hp
  refine⟨_,rfl,_,rfl,p,_,rfl,SqT.of hp1,fun e=>?_,fun q hq=>?_⟩
  ·rw [q0G] at e
   have:=zbj List.length e
   simp at this
  rw[q0G]
  have s2:Same H (upd H1 q (.tup (ns.map V.int))):=s1.trans (Same.upd hq)
  cases ht:q14 z with
  |none=>
   rw[ht] at tv
   obtain rfl:v= .non:=tv
   refine⟨_,rfl,_,rfl,iteT (iteT ?_)⟩
   have:=k _ s2
   rw[q2A ht] at this
   exact this
  |some ts=>
   rw[ht] at tv
   obtain⟨r,rfl,hr0⟩:=tv
   have hr1:(upd H1 q (.tup (ns.map V.int))) r=some (.tup (ts.map V.int)):=by rw[qm (ql hr0 hq)];exact hr0
   refine⟨_,rfl,_,rfl,iteF ?_⟩
   refine⟨_,rfl,q,_,rfl,.inr (SqT.of qh),_,rfl,r,_,rfl,.inr (SqT.of hr1),rfl,_,rfl,ite2 (fun h1=>?_) (fun h1=>?_)⟩
   ·have hne:¬ns.length=ts.length:=fun e=>by simp[e] at h1
    have:=k _ s2
    rw[q35 ht hne] at this
    exact this
   ·have hlen:ns.length=ts.length:=by
     simp at h1
     omega
    refine⟨_,rfl,_,rfl,q,r,rfl,⟨_,SqT.of qh⟩,⟨_,SqT.of hr1⟩,fun D hD=>?_⟩
    refine q3N ns.length (fun i σ H'=>E2 fun v0 v1=>A3 (σ=[v0,v1]) (Same (upd H1 q (.tup (ns.map V.int))) H') (H' D=some (.lst (((List.zipWith chk ns ts).take i).map V.bl)))) ⟨none,none,rfl,Same.upd hD,qh⟩ ?_ ?_
    ·rintro i σ H' hi ⟨v0,v1,rfl,s3,hD3⟩
     have hq3:=s3 _ _ (qh (H:=H1) (a:=q) (o:= .tup (ns.map V.int)))
     have hr3:=s3 _ _ hr1
     refine⟨⟨_,_,V.int (ns.getD i 0),V.int (ts.getD i 0),SqT.of hq3,SqT.of hr3,by simp[List.getD,hi],by simp[List.getD,show i<ts.length by omega]⟩,?_⟩
     rintro x H4 ⟨t,ht0,rfl,hy⟩
     have e4:=hy _ _ (V.int (ns.getD i 0)) (V.int (ts.getD i 0)) (SqT.of hq3) (SqT.of hr3) (by simp[List.getD,hi]) (by simp[List.getD,show i<ts.length by omega])
     subst e4
     refine⟨t,_,rfl,SqT.of qh,rfl,_,_,rfl,_,_,rfl,rfl,?_⟩
     have nD:D≠t:=ql hD3 ht0
     refine⟨_,rfl,_,rfl,_,_,_,rfl,_,(by rw[qm nD];exact hD3),?_,_,_,rfl,?_,?_⟩
     ·rw [yC,zW]
      exact zbg (Nat.min_le_left _ _) (zcm hi (zbg hl (by decide)))
     ·intro b o e
      have nb:b≠D:=ql e hD
      rw[qm nb,qm (ql (s3 b o e) ht0)]
      exact s3 b o e
     ·rw [qh,zas]
      have e5:(List.zipWith chk ns ts)[i]? =some (chk (ns.getD i 0) (ts.getD i 0)):=by
       rw[List.getElem?_zipWith]
       simp[List.getD,hi,show i<ts.length by omega]
      rw[e5]
      simp[chk]
    ·rintro σ H' ⟨v0,v1,rfl,s3,hD3⟩
     have hq3:=s3 _ _ (qh (H:=H1) (a:=q) (o:= .tup (ns.map V.int)))
     have hr3:=s3 _ _ hr1
     refine⟨⟨_,_,SqT.of hq3,SqT.of hr3,.inl (by simp)⟩,D,List.zipWith chk ns ts,rfl,SqL.of ?_,?_⟩
     ·rw [hD3,zT (by rw[List.length_zipWith];omega)]
     ·have:=k _ (s2.trans s3)
      rw[q0E ht hlen] at this
      exact this
theorem q9q (T:Txt mg cs)(TX:Tx K mg xs)(L:Laid K mg "check_number" q0g ["name","number","least","most"])(ve:Cal P w K mg base 1 "within" ["number","least","most"] q4l):CalX P w K mg base 2 "check_number" ["name","number","least","most"] (q4m xs.NoCellar):=by
 refine L.calX (k:=1) q3v (fun vs H Q E h=>?_) (fun f cdv A outer s H vs Q E hr h=>?_)
 ·obtain ⟨z,n,a,b,rfl,_⟩:=h
  rfl
 ·obtain ⟨z,n,a,b,rfl,hz,hn,ha,hb,k,ke⟩:=h
  refine⟨_,(qj (qQ (q1S (q1a (qR ve hr (by decide) rfl (qa (pv 1) (qa (pv 2) (qa (pv 3) qc)))))) (qj (q1m q0Y rfl rfl TX.wx TX.wE (qa (q1v (.cons (q3g (pv 0)) (.cons qk (.cons (pe_fr (pv 1)) (.cons qk (.cons (q3g (pv 2)) (.cons qk (.cons (q3g (pv 3)) .nil)))))))) qc))) qy)),?_⟩
  walk_at "r"
  refine⟨n,a,b,rfl,?_⟩
  by_cases hg:a<=n/\n<=b
  ·rw [show(decide (a<=n)&&decide (n<=b))=true by simp[hg]]
   walk_at "r"
   exact k hg
  ·rw [show(decide (a<=n)&&decide (n<=b))=false by rw[<-zco];simpa using hg]
   walk_at "r"
   refine q1L ?_
   walk_at "r"
   refine jfs (y:=z) (b:=1000) (by omega) (by omega) (fun K h=>⟨_,rfl,h⟩) fun m1 h1=>?_
   refine jc (by walk_at "k") (by omega) fun m2 h2=>?_
   refine jfr hn (by omega) (fun K h=>⟨_,rfl,h⟩) fun m3 h3=>?_
   refine jc (by walk_at "k") (by omega) fun m4 h4=>?_
   refine jfi ha (by omega) (fun K h=>⟨_,rfl,h⟩) fun m5 h5=>?_
   refine jc (by walk_at "k") (by omega) fun m6 h6=>?_
   refine jfi hb (by omega) (fun K h=>⟨_,rfl,h⟩) fun m7 h7=>?_
   refine jn fun y hy=>?_
   walk_at "r"
   exact ke hg
theorem qbi (T:Txt mg cs)(TX:Tx K mg xs)(L:Laid K mg "made_rows" q0x ["name","rows","most"]):CalX P w K mg base 1 "made_rows" ["name","rows","most"] (q7v K xs.NoCellar):=by
 refine L.calX (k:=0) q39 (fun vs H Q E h=>?_) (fun f cdv A outer s H vs Q E hr h=>?_)
 ·obtain ⟨z,v,m,xs,rfl,_⟩:=h
  rfl
 ·obtain ⟨z,v,m,ys,rfl,hz,hm,hv,hl,ok,k,ke⟩:=h
  have big:=qC
  have step:∀(D:Addr) (H':Hp) (i:Nat) (x:V),H D=none->ys[i]? =some x->Same H H'->H' D=some (.lst (ys.take i))->∃zs,H' D=some (.lst zs)/\zs.length<sizeLine/\∃v0,([some x]:St)=[v0]/\Same H (upd H' D (.lst (zs++[x])))/\(upd H' D (.lst (zs++[x]))) D=some (.lst (ys.take (i+1))):=by
   intro D H' i x hD hx s1 hd
   refine⟨_,hd,by rw[zW];omega,_,rfl,s1.put hD,?_⟩
   rw[qh,zas,hx]
   rfl
  obtain⟨p,rfl,hp⟩:=hv
  ·refine ⟨_,(qg (qI (i:=3) q39.nd rfl (Or.inl rfl) (q4w (q2p (q5j (pv 1))) (qJ qc) (q09 (q69 K) rfl T.wap q2P (qa (q7X (q0N (q1k (N:=["row"]) (own:=1) (caps:=[]) ["name","rows","most","made"] (qe q0x) (by walk_at "k")) rfl (q1e K (pv 1)) (fun _ _ _ _=>(qM (i:=0) (show List.Nodup (["row"]:List Str) by walk_at "k") rfl (Or.inl rfl))) (fun _ _ _ _=>q1u) (fun _ _ _ _=>(q09 (q69 K) rfl T.wap q2P (qa (pv 0) qc))))) qc))))
   (qg (qQ (qr q5l (qx (lenK K) rfl T.wq q0k (qa (pv 3) qc)) (pv 2) (qB _)) (qj (q1m q0Y rfl rfl TX.wx TX.wE (qa (q1v (.cons (q3g (pv 0)) (.cons qk (.cons (q3g (pv 2)) .nil)))) qc))) qy)
   (qj (qw (pv 3))))),?_⟩
   walk_at "r"
   refine ifd (fun h=>nomatch h) (fun _=>?_)
   walk_at "r"
   intro D hD
   refine q1I ys (fun i σ H'=>E1 fun v0=>A3 (σ=[v0]) (Same H H') (H' D=some (.lst (ys.take i)))) ⟨none,rfl,Same.upd hD,by rw[qh];rfl⟩ ?_ ?_ ?_
   ·rintro i σ H' ⟨_,rfl,s1,_⟩
    exact seqT s1 hp
   ·rintro i x σ H' hx ⟨v0,rfl,s1,hd⟩
    obtain⟨a,ys',rfl,ha⟩:=ok x (zaD hx)
    have ha1:=s1 _ _ ha
    walk_at "r"
    obtain⟨z1,z2,z3,z4,z5,z6,z7⟩:=step D H' i _ hD hx s1 hd
    exact r_tot (SqT.of ha1) ⟨z1,z2,z3,z4,z5,z6,z7⟩
   ·rintro σ H' ⟨v0,rfl,s1,hd⟩
    rw[zac] at hd
    walk_at "r"
    refine qaO (SqL.of hd) fun q hq=>?_
    walk_at "r"
    refine ifd (fun h=>?_) (fun h=>?_)
    ·refine q1L ?_
     walk_at "r"
     refine jfs (y:=z) (b:=1000) (by omega) (by omega) (fun K h=>⟨_,rfl,h⟩) fun m1 h1=>?_
     refine jc (by walk_at "k") (by omega) fun m2 h2=>?_
     refine jfi hm (by omega) (fun K h=>⟨_,rfl,h⟩) fun m3 h3=>?_
     refine jn fun y hy=>?_
     walk_at "r"
     exact ke (by omega) _ (s1.trans (Same.upd hq))
    walk_at "r"
    exact k (by omega) q _ (s1.trans (Same.upd hq)) qh
theorem ok_mw (T:Txt mg cs)(TX:Tx K mg xs)(L:Laid K mg "made_ways" q0I ["rooms","ways"])(wf:CalX P w K mg base 2 "check_number" ["name","number","least","most"] (q4m xs.NoCellar))(wP:CalX P w K mg base 1 "made_rows" ["name","rows","most"] (q7v K xs.NoCellar))(waF:Cal P w K mg base 2 "is_gate" ["thing"] q6c):CalX P w K mg base 3 "made_ways" ["rooms","ways"] (spMW K xs.NoCellar):=by
 obtain⟨t1,wad⟩:=T.wad
 refine L.calX (k:=2) q0P (fun vs H Q E h=>?_) (fun f cdv A outer s H vs Q E hr h=>?_)
 ·obtain ⟨r,v,zs,ys,rfl,_⟩:=h
  rfl
 ·obtain ⟨r,v,zs,ys,rfl,hsr,hv,ok,hl,k,ke⟩:=h
  have hu:=hu_of hr
  refine⟨_,(qg (qI (i:=2) q0P.nd rfl (Or.inl rfl) (qV wP qS hr (by decide) rfl (qa qk (qa (pv 1) (qa (qz (v:= .int 20) rfl wad ⟨_,rfl⟩) qc)))))
   (qg (q28 PassesOwn.leaving rfl (q1e K (pv 2)) (q3B (n:=4) K rfl (q0l (qM (i:=3) q0P.nd rfl (Or.inl rfl)) (q0l (qM (i:=4) q0P.nd rfl (Or.inl rfl)) (q0l (qM (i:=5) q0P.nd rfl (Or.inl rfl)) (q0l (qM (i:=6) q0P.nd rfl (Or.inl rfl)) q30))))) (qg (qT (qV wf qS hr (by decide) rfl (qa qk (qa (pv 3) (qa qd (qa (qv q3d (pv 0) qd) qc))))))
   (qg (qT (qV wf qS hr (by decide) rfl (qa qk (qa (pv 4) (qa qd (qa (qv q3d (pv 0) qd) qc))))))
   (qg (qQ (qr q0i (pv 3) (pv 4) (qB _)) (qj (q1m q0Y rfl rfl TX.wx TX.wE (qa (q1v (.cons qk (.cons (q3g (pv 3)) (.cons qk .nil)))) qc))) qy)
   (qj (qQ (q1S (q1a (qR waF hr (by decide) rfl (qa (pv 5) qc)))) (qj (q1m q0Y rfl rfl TX.wx TX.wE (qa (q1v (.cons qk (.cons (pe_ft hr.gd (hu8_of hr) (pv 5)) (.cons qk .nil)))) qc))) qy))))))
   (qj (qw (pv 2))))),?_⟩
  walk_at "r"
  refine⟨_,v,20,zs,rfl,by walk_at "k",sml20,hv,hl,fun x hx=>?_,fun h20 p H1 s1 hp=>?_,fun h20 H1 s1=>ke (fun g=>h20 (by have:=g.1;omega)) H1 s1⟩
  ·obtain ⟨i,e⟩:=q8d hx
   exact(ok i x e).row
  have no:∀(i:Nat) (H':Hp),Same H H'->i<zs.length->¬(ys i).good r->E (.ref xs.NoCellar) none H':=fun i H' s hi hg=>ke (fun g=>hg (g.2 i hi)) H' s
  walk_at "r"
  refine q37 zs (fun i σ H'=>E4 fun v3 v4 v5 v6=>A3 (σ=[some (.int r),some v,some (.ref p),v3,v4,v5,v6]) (Same H1 H') (∀j,j<i->(ys j).good r)) ⟨none,none,none,none,rfl,Same.refl _,fun j hj=>absurd hj (by omega)⟩ ?_ ?_ ?_
  ·rintro i σ H' ⟨_,_,_,_,rfl,s2,_⟩
   exact SqT.of (s2 _ _ hp)
  ·rintro i x σ H' hx ⟨v3,v4,v5,v6,rfl,s2,g0⟩
   have hi:i<zs.length:=(yA hx).1
   have s12:=s1.trans s2
   have no':∀H2,Same H' H2->¬(ys i).good r->E (.ref xs.NoCellar) none H2:=fun H2 s3 hg=>no i H2 (s12.trans s3) hi hg
   obtain⟨p1,g,rfl,hp1,hg,hnl,sa,sb,hzz,sn⟩:=(ok i x hx).mono s12.ts
   walk_at "r"
   refine⟨_,(ys i).a,0,r - 1,rfl,by walk_at "k",sa,sml0,hsr,fun ha=>?_,fun ha=>no' _ (.refl _) fun g=>ha (by have:=g.1;omega)⟩
   walk_at "r"
   refine⟨_,(ys i).b,0,r - 1,rfl,by walk_at "k",sb,sml0,hsr,fun hb=>?_,fun hb=>no' _ (.refl _) fun g=>hb (by have:=g.2.1;omega)⟩
   walk_at "r"
   refine ifd (fun hab=>?_) (fun hab=>?_)
   ·refine q1L ?_
    walk_at "r"
    refine jc (by walk_at "k") (by omega) fun m1 h1=>?_
    refine jfi sa (by omega) (fun K h=>⟨_,rfl,h⟩) fun m2 h2=>?_
    refine jc (by walk_at "k") (by omega) fun m3 h3=>?_
    refine jn fun y hy=>?_
    walk_at "r"
    exact no' _ (.refl _) fun g=>g.2.2.1 hab
   walk_at "r"
   refine⟨g,(ys i).z,(ys i).ns,rfl,hg,by omega,fun H2 s3=>?_⟩
   by_cases hgo:q1T (ys i).z (ys i).ns=true
   ·rw [hgo]
    walk_at "r"
    exact⟨_,_,_,_,rfl,s2.trans s3,fun j hj=>if e:j=i then by subst e;exact⟨by omega,by omega,hab,hgo⟩ else g0 j (by omega)⟩
   ·rw [zco] at hgo
    rw[hgo]
    walk_at "r"
    refine q1L ?_
    walk_at "r"
    refine jc (by walk_at "k") (by omega) fun m1 h1=>?_
    refine jft (s3 _ _ hg) (by simp;omega) (fun y hy=>?_) (by omega) (fun K h=>⟨_,rfl,h⟩) fun m2 h2=>?_
    ·rcases zJ.mp hy with rfl|hy
     ·exact hzz
     ·obtain ⟨n,hn,rfl⟩:=zaw.mp hy
      exact sn n hn
    refine jc (by walk_at "k") (by omega) fun m3 h3=>?_
    refine jn fun y hy=>?_
    walk_at "r"
    exact no' _ s3 fun g=>by have:=g.2.2.2;rw[hgo] at this;cases this
  ·rintro σ H' ⟨v3,v4,v5,v6,rfl,s2,g0⟩
   walk_at "r"
   exact k ⟨by omega,g0⟩ p H' (s1.trans s2) (s2 _ _ hp)
theorem ok_mp (T:Txt mg cs)(TX:Tx K mg xs)(L:Laid K mg "made_pairs" q0y ["name","rooms","pairs","most_pairs","least","most"])(wf:CalX P w K mg base 2 "check_number" ["name","number","least","most"] (q4m xs.NoCellar))(wP:CalX P w K mg base 1 "made_rows" ["name","rows","most"] (q7v K xs.NoCellar)):CalX P w K mg base 3 "made_pairs" ["name","rooms","pairs","most_pairs","least","most"] (spMP K xs.NoCellar):=by
 refine L.calX (k:=2) q1l (fun vs H Q E h=>?_) (fun f cdv A outer s H vs Q E hr h=>?_)
 ·obtain ⟨z,r,v,m,lo,hi,zs,ys,rfl,_⟩:=h
  rfl
 ·obtain ⟨z,r,v,m,lo,hi,zs,ys,rfl,hz,hsr,hm,hlo,hhi,hv,ok,hl,k,ke⟩:=h
  refine⟨_,(qg (qI (i:=6) q1l.nd rfl (Or.inl rfl) (qV wP qS hr (by decide) rfl (qa (pv 0) (qa (pv 2) (qa (pv 3) qc)))))
   (qg (q28 PassesOwn.leaving rfl (q1e K (pv 6)) (q3B (n:=2) K rfl (q0l (qM (i:=7) q1l.nd rfl (Or.inl rfl)) (q0l (qM (i:=8) q1l.nd rfl (Or.inl rfl)) q30))) (qg (qT (qV wf qS hr (by decide) rfl (qa (q1v (.cons (q3g (pv 0)) (.cons qk .nil))) (qa (pv 7) (qa qd (qa (qv q3d (pv 1) qd) qc))))))
   (qj (qT (qV wf qS hr (by decide) rfl (qa (q1v (.cons (q3g (pv 0)) (.cons qk .nil))) (qa (pv 8) (qa (pv 4) (qa (pv 5) qc)))))))))
   (qj (qw (pv 6))))),?_⟩
  walk_at "r"
  refine⟨z,v,m,zs,rfl,by omega,hm,hv,hl,fun x hx=>?_,fun h20 p H1 s1 hp=>?_,fun h20 H1 s1=>ke (fun g=>h20 g.1) H1 s1⟩
  ·obtain ⟨i,e⟩:=q8d hx
   exact(ok i x e).row
  have no:∀(i:Nat) (H':Hp),Same H H'->i<zs.length->¬((0<=(ys i).1/\(ys i).1<r)/\lo<=(ys i).2/\(ys i).2<=hi)->E (.ref xs.NoCellar) none H':=fun i H' s hi hg=>ke (fun g=>hg (g.2 i hi)) H' s
  walk_at "r"
  refine q37 zs (fun i σ H'=>E2 fun v7 v8=>A3 (σ=[some (.str z),some (.int r),some v,some (.int m),some (.int lo),some (.int hi),some (.ref p),v7,v8]) (Same H1 H') (∀j,j<i->(0<=(ys j).1/\(ys j).1<r)/\lo<=(ys j).2/\(ys j).2<=hi)) ⟨none,none,rfl,Same.refl _,fun j hj=>absurd hj (by omega)⟩ ?_ ?_ ?_
  ·rintro i σ H' ⟨_,_,rfl,s2,_⟩
   exact SqT.of (s2 _ _ hp)
  ·rintro i x σ H' hx ⟨v7,v8,rfl,s2,g0⟩
   have hi':i<zs.length:=(yA hx).1
   have s12:=s1.trans s2
   obtain⟨p1,rfl,hp1,sa,sn⟩:=(ok i x hx).mono s12.ts
   walk_at "r"
   refine jfs (y:=z) (b:=100) (by omega) (by omega) (fun K h=>⟨_,rfl,h⟩) fun m1 h1=>?_
   refine jc (by walk_at "k") (by omega) fun m2 h2=>?_
   refine jn fun y1 hy1=>?_
   walk_at "r"
   refine⟨_,(ys i).1,0,r - 1,rfl,by omega,sa,sml0,hsr,fun ha=>?_,fun ha=>no i _ s12 hi' fun g=>ha (by have:=g.1;omega)⟩
   walk_at "r"
   refine jfs (y:=z) (b:=100) (by omega) (by omega) (fun K h=>⟨_,rfl,h⟩) fun m1 h1=>?_
   refine jc (by walk_at "k") (by omega) fun m2 h2=>?_
   refine jn fun y2 hy2=>?_
   walk_at "r"
   refine⟨_,(ys i).2,lo,hi,rfl,by omega,sn,hlo,hhi,fun hb=>?_,fun hb=>no i _ s12 hi' fun g=>hb (by have:=g.2;omega)⟩
   walk_at "r"
   exact⟨_,_,rfl,s2,fun j hj=>if e:j=i then by subst e;exact⟨by omega,by omega,by omega⟩ else g0 j (by omega)⟩
  ·rintro σ H' ⟨v7,v8,rfl,s2,g0⟩
   walk_at "r"
   exact k ⟨by omega,g0⟩ p H' (s1.trans s2) (s2 _ _ hp)
theorem ok_mkc {d1 d2:Tok}(T:Txt mg cs)(TX:Tx K mg xs)(L:LaidD K mg "cellar" q17 [.none,.none,.none,.int 0 d1,.int 0 d2])(wf:CalX P w K mg base 2 "check_number" ["name","number","least","most"] (q4m xs.NoCellar))(wag:CalX P w K mg base 3 "made_ways" ["rooms","ways"] (spMW K xs.NoCellar))
  (wS:CalX P w K mg base 3 "made_pairs" ["name","rooms","pairs","most_pairs","least","most"] (spMP K xs.NoCellar)):CalDX P w K mg base 4 "cellar" ["rooms","first","last","ways","things","levers","wheels","bars","water"] (spMkC K xs.NoCellar) q17 [.none,.none,.none,.int 0 d1,.int 0 d2]:=by
 obtain⟨t1,vL⟩:=T.vL
 obtain⟨t2,vF⟩:=T.vF
 obtain⟨t3,wG⟩:=T.wG
 obtain⟨t4,vC⟩:=T.vC
 obtain⟨t5,vk⟩:=T.vk
 obtain⟨t6,vj⟩:=T.vj
 obtain⟨t7,wK⟩:=T.wK
 refine L.calX (k:=3) q7A (fun vs H Q E h=>?_) (fun f cdv A outer s H vs Q E hr h=>?_)
 ·obtain ⟨h,rfl,_⟩:=h
  rfl
 ·obtain ⟨⟨r,f,l,b,wt,v1,v2,v3,v4,z1,z2,z3,z4,y1,y2,y3,y4⟩,rfl,o,k,ke⟩:=h
  have sr:=o.sr
  have sr1:=o.sr1
  refine⟨_,(qg (qT (qV wf qS hr (by decide) rfl (qa qk (qa (pv 0) (qa qd (qa (qz (v:= .int 14) rfl vL ⟨_,rfl⟩) qc))))))
   (qg (qT (qV wf qS hr (by decide) rfl (qa qk (qa (pv 1) (qa qd (qa (qv q3d (pv 0) qd) qc))))))
   (qg (qT (qV wf qS hr (by decide) rfl (qa qk (qa (pv 2) (qa qd (qa (qv q3d (pv 0) qd) qc))))))
   (qg (qT (qV wf qS hr (by decide) rfl (qa qk (qa (pv 7) (qa qd (qa (qz (v:= .int 255) rfl vF ⟨_,rfl⟩) qc))))))
   (qg (qT (qV wf qS hr (by decide) rfl (qa qk (qa (pv 8) (qa qd (qa (qz (v:= .int 9) rfl wG ⟨_,rfl⟩) qc))))))
   (qj (qw (qJ (pa_c (pv 0) (pa_c (pv 1) (pa_c (pv 2) (pa_c (qV wag qS hr (by decide) rfl (qa (pv 0) (qa (pv 3) qc))) (pa_c (qV wS qS hr (by decide) rfl (pa_c qk (pa_c (pv 0) (pa_c (pv 4) (pa_c (qz (v:= .int 8) rfl vC ⟨_,rfl⟩) (pa_c qd (pa_c (qz (v:= .int 11) rfl wK ⟨_,rfl⟩) qc))))))) (pa_c (qV wS qS hr (by decide) rfl (pa_c qk (pa_c (pv 0) (pa_c (pv 5) (pa_c (qz (v:= .int 4) rfl vk ⟨_,rfl⟩) (pa_c qd (pa_c (qz (v:= .int 255) rfl vF ⟨_,rfl⟩) qc))))))) (pa_c (qV wS qS hr (by decide) rfl (pa_c qk (pa_c (pv 0) (pa_c (pv 6) (pa_c (qz (v:= .int 4) rfl vj ⟨_,rfl⟩) (pa_c qd (pa_c (qz (v:= .int 9) rfl wG ⟨_,rfl⟩) qc))))))) (pa_c (pv 7) (pa_c (pv 8) qc))))))))))))))))),?_⟩
  unfold Hand.vs
  walk_at "r"
  refine⟨_,r,1,14,rfl,by walk_at "k",sr,sml1,sml14,fun g1=>?_,fun n=>ke (fun g=>n g.r) _ (.refl _)⟩
  walk_at "r"
  refine⟨_,f,0,r - 1,rfl,by walk_at "k",o.sf,sml0,sr1,fun g2=>?_,fun n=>ke (fun g=>n g.f) _ (.refl _)⟩
  walk_at "r"
  refine⟨_,l,0,r - 1,rfl,by walk_at "k",o.sl,sml0,sr1,fun g3=>?_,fun n=>ke (fun g=>n g.l) _ (.refl _)⟩
  walk_at "r"
  refine⟨_,b,0,255,rfl,by walk_at "k",o.sb,sml0,qa3,fun g4=>?_,fun n=>ke (fun g=>n g.b) _ (.refl _)⟩
  walk_at "r"
  refine⟨_,wt,0,9,rfl,by walk_at "k",o.sw,sml0,sml9,fun g5=>?_,fun n=>ke (fun g=>n g.w) _ (.refl _)⟩
  walk_at "r"
  refine⟨r,v1,z1,y1,rfl,sr1,o.i1,o.w1,o.l1,fun g6 p1 H1 s1 h1=>?_,fun n H1 s1=>ke (fun g=>n g.g1) _ s1⟩
  have o1:=o.mono s1
  walk_at "r"
  refine⟨_,r,v2,8,0,11,z2,y2,rfl,by walk_at "k",sr1,sml8,sml0,sml11,o1.i2,o1.w2,o.l2,fun g7 p2 H2 s2 h2=>?_,fun n H2 s2=>ke (fun g=>n g.g2) _ (s1.trans s2)⟩
  have s12:=s1.trans s2
  have o2:=o.mono s12
  walk_at "r"
  refine⟨_,r,v3,4,1,255,z3,y3,rfl,by walk_at "k",sr1,sml4,sml1,qa3,o2.i3,o2.w3,o.l3,fun g8 p3 H3 s3 h3=>?_,fun n H3 s3=>ke (fun g=>n g.g3) _ (s12.trans s3)⟩
  have s13:=s12.trans s3
  have o3:=o.mono s13
  walk_at "r"
  refine⟨_,r,v4,4,0,9,z4,y4,rfl,by walk_at "k",sr1,sml4,sml0,sml9,o3.i4,o3.w4,o.l4,fun g9 p4 H4 s4 h4=>?_,fun n H4 s4=>ke (fun g=>n g.g4) _ (s13.trans s4)⟩
  have s14:=s13.trans s4
  walk_at "r"
  intro p hp
  have s5:=Same.upd (o:= .tup [.int r,.int f,.int l,.ref p1,.ref p2,.ref p3,.ref p4,.int b,.int wt]) hp
  exact k ⟨g1,g2,g3,g4,g5,g6,g7,g8,g9⟩ p _ (s14.trans s5) ⟨p1,p2,p3,p4,qh,s5 _ _ (s4 _ _ (s3 _ _ (s2 _ _ h1))),s5 _ _ (s4 _ _ (s3 _ _ h2)),s5 _ _ (s4 _ _ h3),s5 _ _ h4⟩
end
def qa2 (K:W.Frag):Sp:=fun vs H Q _=>E3 fun(a:Addr) (ns:List Int) (i:Int)=>A6 (vs=[.ref a,.int i]) (SqL K H a (ns.map V.int)) (ns.length<=63) (0<=i) (i<=1000) (∀n:Int,0<=n->n<2147483647->Q (.int n) H)
def qa1:Sp:=fun vs H Q _=>E1 fun(c:Int)=>A2 (vs=[.int c]) (∀(p:Addr) (g:Gt) (H':Hp),Same H H'->g.ok->H' p=some (.tup g.vs)->Q (.ref p) H')
def q9b (K:W.Frag):Sp:=fun vs H Q _=>E2 fun(a:Addr) (ns:List Int)=>A4 (vs=[.ref a]) (SqL K H a (ns.map V.int)) (ns.length<=63) (∀(p:Addr) (C:Cl) (H':Hp),Same H H'->ClAt H' p C->ClOk C->Q (.ref p) H')
theorem q6H {x:Int}:∃m:Int,(m=2\/m=12)/\atI [V.int 2,V.int 12] (x % 2)=some (.int m):=by
 obtain h|h:x % 2=0\/x % 2=1:=by omega
 ·rw [h];exact⟨2,.inl rfl,rfl⟩
 ·rw [h];exact⟨12,.inr rfl,rfl⟩
theorem q9R {x:Int}:∃m:Int,(1<=m/\m<=14)/\atI [V.int 3,V.int 4,V.int 6,V.int 14] (x % 4)=some (.int m):=by
 obtain h|h|h|h:x % 4=0\/x % 4=1\/x % 4=2\/x % 4=3:=by omega
 ·rw [h];exact⟨3,by decide,rfl⟩
 ·rw [h];exact⟨4,by decide,rfl⟩
 ·rw [h];exact⟨6,by decide,rfl⟩
 ·rw [h];exact⟨14,by decide,rfl⟩
theorem in45 {x:Int}:inV (.int x) [.int 4,.int 5]=decide (x=4\/x=5):=by
 rw[zaT]
 simp[inV,eqV]
 omega
def q4K (cs:Cs):Gt->Addr
 | .plain=>cs.Plain
 | .door _=>cs.Door
 | .need _=>cs.Need
 | .bar _=>cs.Bar
 | .wade _ _=>cs.Wade
 | .float _=>cs.Float
def fldB (q:Addr)(g:Gt):List (Str×V):=putF "numbers" (.ref q) (putF "word" (.str g.word) [])
def flds (q:Addr):Gt->List (Str×V)
 | .need k=>putF "kind" (.int k) (fldB q (.need k))
 | .bar b=>putF "bar" (.int b) (fldB q (.bar b))
 | .wade h k=>putF "kind" (.int k) (putF "height" (.int h) (fldB q (.wade h k)))
 | .float h=>putF "height" (.int h) (fldB q (.float h))
 |g=>fldB q g
theorem qbM (q:Addr)(g:Gt):(flds q g).lookup ("word":Str)=some (.str g.word):=by
 cases g<;>(unfold flds;first|unfold fldB|skip)<;>simp only[fldB,q0O]<;>repeat (first|rw[zM rfl]|rw[zM trivial]|rw[zI (by walk_at "k")])
theorem q78 (q:Addr)(g:Gt):(flds q g).lookup ("numbers":Str)=some (.ref q):=by
 cases g<;>(unfold flds;first|unfold fldB|skip)<;>simp only[fldB,q0O]<;>repeat (first|rw[zM rfl]|rw[zM trivial]|rw[zI (by walk_at "k")])
structure GObj (cs:Cs)(H:Hp)(p:Addr)(g:Gt):Prop where
 ex:∃dx q,H p=some (.ins (q4K cs g) dx (flds q g))/\H q=some (.tup (g.ns.map V.int))
def q24 (K:W.Frag):Sp:=fun vs H Q _=>E5 fun(p C dx q:Addr) (z:Str)=>A6 (vs=[.ref p,.str z,.ref q]) (H p=some (.ins C dx [])) (Cls K C) (q0a K C "word") (q0a K C "numbers") (Q .non (upd H p (.ins C dx (putF "numbers" (.ref q) (putF "word" (.str z) [])))))
def spMk (cs:Cs)(wd:Str):Sp:=fun vs H Q _=>E3 fun(p dx:Addr) (g:Gt)=>A4 (vs= .ref p::g.ns.map V.int) (g.word=wd) (H p=some (.ins (q4K cs g) dx [])) (∀H',(∀b o,H b=some o->b≠p->H' b=some o)->GObj cs H' p g->Q .non H')
def qaG (cs:Cs):Sp:=fun vs H Q _=>E2 fun(p:Addr) (g:Gt)=>A3 (vs=[.ref p]) (H p=some (.tup g.vs)) (∀(x:Addr) (H':Hp),Same H H'->H x=none->GObj cs H' x g->Q (.ref x) H')
theorem qbN (q:Addr)(g:Gt):(flds q g).lookup ("told":Str)=none:=by
 cases g<;>(unfold flds;first|unfold fldB|skip)<;>simp only[fldB,q0O]<;>repeat (first|rfl|rw[zI (by walk_at "k")])
theorem q8D (q:Addr)(g:Gt):(flds q g).lookup ("text":Str)=none:=by
 cases g<;>(unfold flds;first|unfold fldB|skip)<;>simp only[fldB,q0O]<;>repeat (first|rfl|rw[zI (by walk_at "k")])
def strV:V->Str
 | .str z=>z
 | .int i=>toString i
 |_=>""
def q5X (g:Gt):Str:=PySem.Txt.join " " (g.vs.map strV)
theorem q96 (g:Gt):g.word.length<=5:=by
 cases g<;>simp only[Gt.word]<;>walk_at "k"
theorem qbp {i:Int}(h0:0<=i)(h1:i<12):(strV (.int i)).length<=5:=by
 obtain rfl|rfl|rfl|rfl|rfl|rfl|rfl|rfl|rfl|rfl|rfl|rfl:i=0\/i=1\/i=2\/i=3\/i=4\/i=5\/i=6\/i=7\/i=8\/i=9\/i=10\/i=11:=by omega
 all_goals walk_at "k"
theorem q6q {g:Gt}(h:g.ok):∀i∈g.ns,0<=i/\i<12:=by
 intro i hi
 cases g with
 |plain=>simp[Gt.ns] at hi
 |door k=>simp[Gt.ns] at hi;subst hi;exact h
 |need k=>simp[Gt.ns] at hi;subst hi;exact h
 |bar k=>simp[Gt.ns] at hi;subst hi;have h':0<=i/\i<8:=h;omega
 |wade a b=>simp[Gt.ns] at hi;have h':(0<=a/\a<10)/\0<=b/\b<12:=h;rcases hi with rfl|rfl<;>omega
 |float k=>simp[Gt.ns] at hi;subst hi;have h':0<=i/\i<10:=h;omega
theorem q7w {x:Int}(h0:0<=x)(h1:x<12):x.natAbs.log2<1920:=zbg (Nat.log2_le_self _) (by omega)
theorem q8q {ts:List Str}(h:∀z∈ts,z.length<=5)(hl:ts.length<=10):(ts.map (·.length)).sum+ts.length<=1048576:=by
 have:∀l:List Str,(∀z∈l,z.length<=5)->(l.map (·.length)).sum<=5*l.length:=by
  intro l
  induction l with
  |nil=>intro _;simp
  |cons z l ih=>
   intro hz
   have h1:=hz z zam
   have h2:=ih fun y hy=>hz y (zF _ hy)
   simp only[List.map_cons,List.sum_cons,List.length_cons]
   omega
 have:=this ts h
 omega
theorem vs_str {g:Gt}(h:g.ok):∀z∈g.vs.map strV,z.length<=5:=by
 intro z hz
 rw[Gt.vs_eq,zao,zbV] at hz
 rcases zJ.mp hz with rfl|hz
 ·exact q96 g
 ·obtain ⟨i,hi,rfl⟩:=zaw.mp hz
  have:=q6q h i hi
  exact qbp this.1 this.2
theorem vs_len (g:Gt):g.vs.length<=3:=by cases g<;>simp[Gt.vs]
def q7t (cs:Cs)(C:Addr):Sp:=fun vs H Q _=>E4 fun(p dx q:Addr) (g:Gt)=>A4 (vs=[.ref p]) (H p=some (.ins C dx (flds q g))) (H q=some (.tup (g.ns.map V.int))) (∀(r:Addr) (H':Hp),Same H H'->H' r=some (.tup g.vs)->Q (.ref r) H')
def q7u (cs:Cs)(C:Addr):Sp:=fun vs H Q _=>E4 fun(p dx q:Addr) (g:Gt)=>A5 (vs=[.ref p]) (H p=some (.ins C dx (flds q g))) (H q=some (.tup (g.ns.map V.int))) (g.ok) (∀H',Same H H'->Q (.str (q5X g)) H')
section
variable {P:Program}{w:World}{K:W.Frag}{mg:Str->Option Value}{base:Heap}{xs:Xs}{cs:Cs}
theorem qbk (T:Txt mg cs)(L:Laid K mg "_law_cell" q0L ["_law_script","_law_k"]):Cal P w K mg base 1 "_law_cell" ["_law_script","_law_k"] (qa2 K):=by
 refine L.cal (k:=0) q56 (fun vs H Q E h=>?_) (fun f cdv A outer s H vs Q E hr h=>?_)
 ·obtain ⟨a,ns,i,rfl,_⟩:=h
  rfl
 ·obtain ⟨a,ns,i,rfl,hS,hl,h0,h1,k⟩:=h
  have hl2:((ns.map V.int).length:Int)<=63:=by rw[yC];omega
  refine⟨_,(qg (qQ (qr q2G (pv 1) (qx (lenK K) rfl T.wq q0k (qa (pv 0) qc)) (qB _)) (qj (qw (qv qX (qv q0S (qv q3E (qD (qq K) (pv 0) (pv 1) (fun _ _=>rfl)) qd) (qv q3E (qv q3E (pv 1) (pv 1)) qd)) qd))) qy)
   (qj (qw (qv qX (qv q0S (qv q0S (qv q3E (qv q3E (pv 1) (pv 1)) qd) (qv q3E (qx (lenK K) rfl T.wq q0k (qa (pv 0) qc)) qd)) qd) qd)))),?_⟩
  walk_at "r"
  refine ifd (fun h=>?_) (fun h=>?_)
  ·rw [yC] at h
   obtain⟨j,rfl⟩:∃j:Nat,i=(j:Int):=⟨i.toNat,by omega⟩
   walk_at "r"
   refine q0f hS (q9S (by omega)) ?_
   walk_at "r"
   exact k _ (q15 _ (by decide)) (q1b _ (by decide))
  ·walk_at "r"
   exact k _ (q15 _ (by decide)) (q1b _ (by decide))
theorem qbj (T:Txt mg cs)(L:Laid K mg "_law_gate" q0K ["_law_cell_here"]):Cal P w K mg base 1 "_law_gate" ["_law_cell_here"] qa1:=by
 refine L.cal (k:=0) q1G (fun vs H Q E h=>?_) (fun f cdv A outer s H vs Q E hr h=>?_)
 ·obtain ⟨c,rfl,_⟩:=h
  rfl
 ·obtain ⟨c,rfl,k⟩:=h
  obtain⟨m,hm,em⟩:=q6H (x:=c / 8)
  have hm0:(0:Int)<m:=by omega
  have kd0:=q15 (c / 64) hm0
  have kd1:c / 64 % m<12:=by have:=q1b (c / 64) hm0;omega
  refine⟨_,(qg (qI (i:=1) q1G.nd rfl (Or.inl rfl) (qv qX (qv qW (pv 0) qd) (qD (qq K) (qK (qa qd (qa qd qc))) (qv qX (qv qW (pv 0) qd) qd) (fun _ _=>rfl))))
   (qg (qI (i:=2) q1G.nd rfl (Or.inl rfl) (qK (qa (qJ (qa qk qc)) (qa (qJ (qa qk (qa (pv 1) qc))) (qa (qJ (qa qk (qa (pv 1) qc))) (qa (qJ (qa qk (qa (pv 1) qc))) (qa (qJ (qa qk (qa (qv qX (qv qW (pv 0) qd) qd) qc))) qc)))))))
   (qg (qI (i:=2) q1G.nd rfl (Or.inl rfl) (qv q1x (pv 2) (qK (qa (qJ (qa qk (qa (qv qX (qv qW (pv 0) qd) qd) (qa (pv 1) qc)))) (qa (qJ (qa qk (qa (qv qX (qv qW (pv 0) qd) qd) qc))) (qa (qJ (qa qk qc)) qc))))))
   (qj (qw (qD (qq K) (pv 2) (qv qX (pv 0) qd) (fun _ _=>rfl))))))),?_⟩
  walk_at "r"
  intro q0 hq0
  walk_at "r"
  generalize c / 64 % m=kd at kd0 kd1 ⊢
  intro q1 hq1
  walk_at "r"
  intro q2 hq2
  walk_at "r"
  intro q3 hq3
  walk_at "r"
  intro q4 hq4
  walk_at "r"
  intro q5 hq5
  walk_at "r"
  intro l1 hl1
  walk_at "r"
  intro q6 hq6
  walk_at "r"
  intro q7 hq7
  walk_at "r"
  intro q8 hq8
  walk_at "r"
  intro l2 hl2
  refine⟨l1,l2,_,_,rfl,rfl,by walk_at "hp",qh,by show 5+3<=sizeLine;decide,fun l3 hl3=>?_⟩
  walk_at "r"
  obtain⟨j,hj,ej⟩:=qbs c 8 (by decide)
  have ej':c % 8=(j:Int):=ej
  rw[ej']
  have hj':j=0\/j=1\/j=2\/j=3\/j=4\/j=5\/j=6\/j=7:=by omega
  have m8:=q15 (c / 2048) (n:=8) (by decide)
  have m8':=q1b (c / 2048) (n:=8) (by decide)
  have m10:=q15 (c / 2048) (n:=10) (by decide)
  have m10':=q1b (c / 2048) (n:=10) (by decide)
  rcases hj' with rfl|rfl|rfl|rfl|rfl|rfl|rfl|rfl
  ·exact q0f (SqL.of qh) (qE rfl) (k q1 .plain _ (by walk_at "sm") trivial (by walk_at "hp"))
  ·exact q0f (SqL.of qh) (qE rfl) (k q2 (.door kd) _ (by walk_at "sm") ⟨kd0,kd1⟩ (by walk_at "hp"))
  ·exact q0f (SqL.of qh) (qE rfl) (k q3 (.door kd) _ (by walk_at "sm") ⟨kd0,kd1⟩ (by walk_at "hp"))
  ·exact q0f (SqL.of qh) (qE rfl) (k q4 (.need kd) _ (by walk_at "sm") ⟨kd0,kd1⟩ (by walk_at "hp"))
  ·exact q0f (SqL.of qh) (qE rfl) (k q5 (.bar (c / 2048 % 8)) _ (by walk_at "sm") ⟨m8,m8'⟩ (by walk_at "hp"))
  ·exact q0f (SqL.of qh) (qE rfl) (k q6 (.wade (c / 2048 % 10) kd) _ (by walk_at "sm") ⟨⟨m10,m10'⟩,kd0,kd1⟩ (by walk_at "hp"))
  ·exact q0f (SqL.of qh) (qE rfl) (k q7 (.float (c / 2048 % 10)) _ (by walk_at "sm") ⟨m10,m10'⟩ (by walk_at "hp"))
  ·exact q0f (SqL.of qh) (qE rfl) (k q8 .plain _ (by walk_at "sm") trivial (by walk_at "hp"))
theorem q86 (T:Txt mg cs)(L:Laid K mg "_law_cellar" q0e ["_law_script"])(wQ:Cal P w K mg base 1 "_law_cell" ["_law_script","_law_k"] (qa2 K))(vZ:Cal P w K mg base 1 "_law_gate" ["_law_cell_here"] qa1):Cal P w K mg base 2 "_law_cellar" ["_law_script"] (q9b K):=by
 refine L.cal (k:=1) qG (fun vs H Q E h=>?_) (fun f cdv A outer s H vs Q E hr h=>?_)
 ·obtain ⟨a,ns,rfl,_⟩:=h
  rfl
 ·obtain ⟨a,ns,rfl,hS,hl,k⟩:=h
  have big:=qC
  have hl2:((ns.map V.int).length:Int)<=63:=by rw[yC];omega
  refine⟨_,(qg (qI (i:=1) qG.nd rfl (Or.inl rfl) (qR wQ hr (by decide) rfl (qa (pv 0) (qa qd qc))))
   (qg (qI (i:=2) qG.nd rfl (Or.inl rfl) (qv q0S qd (qv qX (qv qW (pv 1) qd) (qD (qq K) (qK (qa qd (qa qd (qa qd (qa qd qc))))) (qv qX (pv 1) qd) (fun _ _=>rfl)))))
   (qg (qI (i:=3) qG.nd rfl (Or.inl rfl) (qK (qa (qK qc) (qa (qK qc) (qa (qK qc) (qa (qK qc) qc))))))
   (qg (q28 PassesOwn.never rfl (q7V rfl T.vH (qa qd (qa (qx (min2 rfl) rfl T.wcd qap (qa (qx (lenK K) rfl T.wq q0k (qa (pv 0) qc)) (qa qd qc))) qc))) (qM (i:=4) qG.nd rfl (Or.inl rfl)) (qg (qI (i:=1) qG.nd rfl (Or.inl rfl) (qR wQ hr (by decide) rfl (qa (pv 0) (qa (pv 4) qc))))
   (qg (qI (i:=5) qG.nd rfl (Or.inl rfl) (qv qX (qv qW (pv 1) qd) (pv 2)))
   (qj (qQ (PW.pt (q3c (qr q2G (qv qX (pv 1) qd) qd (qB _)) (q3c (qr q5l (pv 2) qd (qB _)) (q2x (qr q2G (qx (lenK K) rfl T.wq q0k (qa (qD (qq K) (pv 3) qd (fun _ _=>rfl)) qc)) qd (qB _)))))) (qg (qI (i:=6) qG.nd rfl (Or.inl rfl) (qv qX (qv q0S (qv q0S (pv 5) qd) (qv qX (qv qW (pv 1) qd) (qv q3d (pv 2) qd))) (pv 2)))
   (qj (qT (q13 zU zaI zaJ q1y (qD (qq K) (pv 3) qd (fun _ _=>rfl)) (qa (qJ (qa (pv 5) (qa (pv 6) (qa (qR vZ hr (by decide) rfl (qa (qv qW (pv 1) qd) qc)) (qa (q1w q5l (qv qX (qv qW (pv 1) qd) qd) qd (qB _)) qc))))) qc))))) (qj (qQ (PW.pt (q3c (qr (q47 K) (qv qX (pv 1) qd) (qJ (qa qd (qa qd qc))) (by with_unfolding_all rfl)) (q2x (qr q2G (qx (lenK K) rfl T.wq q0k (qa (qD (qq K) (pv 3) qd (fun _ _=>rfl)) qc)) qd (qB _))))) (qj (qT (q13 zU zaI zaJ q1y (qD (qq K) (pv 3) qd (fun _ _=>rfl)) (qa (qJ (qa (pv 5) (qa (qv qX (qv qW (pv 1) qd) (qD (qq K) (qK (qa qd (qa qd qc))) (qv qX (qv qW (pv 1) qd) qd) (fun _ _=>rfl))) qc))) qc)))) (qj (qQ (PW.pt (q3c (qr q0i (qv qX (pv 1) qd) qd (qB _)) (q2x (qr q2G (qx (lenK K) rfl T.wq q0k (qa (qD (qq K) (pv 3) qd (fun _ _=>rfl)) qc)) qd (qB _))))) (qj (qT (q13 zU zaI zaJ q1y (qD (qq K) (pv 3) qd (fun _ _=>rfl)) (qa (qJ (qa (pv 5) (qa (qv q0S qd (qv qX (qv qW (pv 1) qd) qd)) qc))) qc)))) (qj (qQ (PW.pt (q3c (qr q0i (qv qX (pv 1) qd) qd (qB _)) (q2x (qr q2G (qx (lenK K) rfl T.wq q0k (qa (qD (qq K) (pv 3) qd (fun _ _=>rfl)) qc)) qd (qB _))))) (qj (qT (q13 zU zaI zaJ q1y (qD (qq K) (pv 3) qd (fun _ _=>rfl)) (qa (qJ (qa (pv 5) (qa (qv qX (qv qW (pv 1) qd) qd) qc))) qc)))) qy)))))))))))
   (qg (qI (i:=1) qG.nd rfl (Or.inl rfl) (qR wQ hr (by decide) rfl (qa (pv 0) (qa qd qc))))
   (qg (q45 (q0N (q1k (N:=["_law_some"]) (own:=1) (caps:=[]) ["_law_script","_law_cell_here","_law_rooms","_law_lists","_law_k","_law_room","_law_other","_law_ways","_law_things","_law_levers","_law_wheels","_law_ends","_law_more"] (qe q0e) (by walk_at "k")) rfl (q2E K (pv 3)) (fun _ _ _ _=>(qM (i:=0) (show List.Nodup (["_law_some"]:List Str) by walk_at "k") rfl (Or.inl rfl))) (fun _ _ _ _=>q1u) (fun _ _ _ _=>(q09 (q69 K) rfl T.wap q2P (qa (pv 0) qc)))) (qb8 (n:=4) K rfl (q0l (qM (i:=7) qG.nd rfl (Or.inl rfl)) (q0l (qM (i:=8) qG.nd rfl (Or.inl rfl)) (q0l (qM (i:=9) qG.nd rfl (Or.inl rfl)) (q0l (qM (i:=10) qG.nd rfl (Or.inl rfl)) q30))))))
   (qg (qI (i:=11) qG.nd rfl (Or.inl rfl) (qJ (qa (qv qX (pv 1) (pv 2)) (qa (qv qX (qv qW (pv 1) qd) (pv 2)) qc))))
   (qg (qI (i:=12) qG.nd rfl (Or.inl rfl) (qJ (qa (qv qX (qv qW (pv 1) qd) qd) (qa (qv qX (qv qW (pv 1) qd) qd) qc))))
   (qj (qw (qv (q3p K) (qv (q3p K) (qv (q3p K) (qJ (qa (pv 2) qc)) (pv 11)) (qJ (qa (pv 7) (qa (pv 8) (qa (pv 9) (qa (pv 10) qc)))))) (pv 12)))))))))))),?_⟩
  walk_at "r"
  refine⟨a,ns,0,rfl,hS,hl,by decide,by decide,fun c0 hc0 hc0'=>?_⟩
  obtain⟨m4,hm4,em4⟩:=q9R (x:=c0)
  have hm0:(0:Int)<m4:=by omega
  have r1:1<=1+c0 / 4 % m4:=by have:=q15 (c0 / 4) hm0;omega
  have r2:1+c0 / 4 % m4<=14:=by have:=q1b (c0 / 4) hm0;omega
  walk_at "r"
  intro q0 hq0
  walk_at "r"
  generalize 1+c0 / 4 % m4=R at r1 r2 ⊢
  intro l0 hl0
  walk_at "r"
  intro l1 hl1
  walk_at "r"
  intro l2 hl2'
  walk_at "r"
  intro l3 hl3
  walk_at "r"
  intro Ls hLs
  have Hq0:Same H (upd H q0 (.lst [.int 3,.int 4,.int 6,.int 14])):=Same.upd hq0
  have Hl0:=Hq0.trans (Same.upd (o:= .lst []) hl0)
  have Hl1:=Hl0.trans (Same.upd (o:= .lst []) hl1)
  have Hl2:=Hl1.trans (Same.upd (o:= .lst []) hl2')
  have Hl3:=Hl2.trans (Same.upd (o:= .lst []) hl3)
  have HLs:=Hl3.trans (Same.upd (o:= .lst [.ref l0,.ref l1,.ref l2,.ref l3]) hLs)
  have n0:H l0=none:=Hq0.free hl0
  have n1:H l1=none:=Hl0.free hl1
  have n2:H l2=none:=Hl1.free hl2'
  have n3:H l3=none:=Hl2.free hl3
  have AP:Apart Ls l0 l1 l2 l3:=
   {L0:=(ql (by walk_at "hp") hLs).symm
    L1:=(ql (by walk_at "hp") hLs).symm
    L2:=(ql (by walk_at "hp") hLs).symm
    L3:=(ql (by walk_at "hp") hLs).symm
    e01:=ql (by walk_at "hp") hl1
    e02:=ql (by walk_at "hp") hl2'
    e03:=ql (by walk_at "hp") hl3
    e12:=ql (by walk_at "hp") hl2'
    e13:=ql (by walk_at "hp") hl3
    e23:=ql (by walk_at "hp") hl3}
  walk_at "r"
  refine q3L (fun i σ H'=>E4 fun c kk rm ot=>A3 (σ=[some (.ref a),c,some (.int R),some (.ref Ls),kk,rm,ot,none,none,none,none,none,none]) (Same H H') (Four H' R Ls l0 l1 l2 l3)) ⟨_,none,none,none,rfl,HLs,?_⟩ ?_ ?_
  ·exact ⟨qh,Grown.none (by walk_at "hp"),Grown.none (by walk_at "hp"),Grown.none (by walk_at "hp"),Grown.none (by walk_at "hp")⟩
  ·rintro i σ H' hi ⟨c,kk,rm,ot,rfl,s1,F⟩
   have hi2:(4:Int)+(i:Nat)<=60:=by
    have:i<((if (60:Int)<((ns.map V.int).length:Int) then(60:Int) else((ns.map V.int).length:Int)) - 4).toNat:=hi
    split at this<;>omega
   have eL:=F.hL
   obtain⟨x0,e0,z0⟩:=F.g0.at
   obtain⟨x1,e1,z1⟩:=F.g1.at
   obtain⟨x2,e2,z2⟩:=F.g2.at
   obtain⟨x3,e3,z3⟩:=F.g3.at
   have R0:(0:Int)<R:=by omega
   walk_at "r"
   refine⟨a,ns,_,rfl,s1.seq hS,hl,by omega,by omega,fun c1 hc1 hc1'=>?_⟩
   walk_at "r"
   have rm0:=q15 (c1 / 8) R0
   have rm1:=q1b (c1 / 8) R0
   generalize c1 / 8 % R=rm' at rm0 rm1 ⊢
   refine q4E ?_ (fun els d1=>?_)
   ·-- no way
    walk_at "r"
    intro t5 ht5
    have s5:Same H' (upd H' t5 (.tup [.int 4,.int 5])):=Same.upd ht5
    refine⟨t5,_,rfl,.inr (SqT.of qh),rfl,rfl,?_⟩
    rw[zI zK,in45]
    have F5:=F.same s5
    have s15:=s1.trans s5
    have eL5:=s5 _ _ eL
    have e15:=s5 _ _ e1
    have e25:=s5 _ _ e2
    have e35:=s5 _ _ e3
    generalize upd H' t5 (.tup [.int 4,.int 5])=H5 at s5 F5 s15 eL5 e15 e25 e35 ⊢
    walk_at "r"
    refine q4E ?_ (fun els d1=>?_)
    ·walk_at "r"
     refine q4E ?_ (fun els d1=>?_)
     ·walk_at "r"
      refine q4E ?_ (fun els d1=>?_)
      ·walk_at "r"
       exact⟨_,_,_,_,rfl,s15,F5⟩
      ·walk_at "r"
       refine ifd (fun d2=>?_) (fun d2=>els)
       have v0:=q15 (c1 / 128) (n:=10) (by decide)
       have v1:=q1b (c1 / 128) (n:=10) (by decide)
       walk_at "r"
       intro p6 hp6
       walk_at "r"
       refine q5g (q0w e35 hp6) (by omega) ?_
       refine⟨_,_,_,_,rfl,(s15.trans (Same.upd hp6)).put n3,?_⟩
       exact(F5.same (Same.upd hp6)).wheel AP (q0w e35 hp6) (by omega) (x:=(rm',c1 / 128 % 10)) qh ⟨⟨rm0,rm1⟩,v0,by omega⟩
     ·walk_at "r"
      refine ifd (fun d2=>?_) (fun d2=>els)
      have v0:=q15 (c1 / 128) (n:=255) (by decide)
      have v1:=q1b (c1 / 128) (n:=255) (by decide)
      walk_at "r"
      intro p6 hp6
      walk_at "r"
      refine q5g (q0w e25 hp6) (by omega) ?_
      refine⟨_,_,_,_,rfl,(s15.trans (Same.upd hp6)).put n2,?_⟩
      exact(F5.same (Same.upd hp6)).lever AP (q0w e25 hp6) (by omega) (x:=(rm',1+c1 / 128 % 255)) qh ⟨⟨rm0,rm1⟩,by omega,by omega⟩
    ·walk_at "r"
     refine ifd (fun d2=>?_) (fun d2=>els)
     obtain⟨m,hm,em⟩:=q6H (x:=c1 / 2048)
     have hm0:(0:Int)<m:=by omega
     have kd0:=q15 (c1 / 128) hm0
     have kd1:c1 / 128 % m<12:=by have:=q1b (c1 / 128) hm0;omega
     walk_at "r"
     intro q7 hq7
     walk_at "r"
     intro p6 hp6
     walk_at "r"
     have s7:Same H5 (upd H5 q7 (.lst [.int 2,.int 12])):=Same.upd hq7
     refine q5g (q0w (q0w e15 hq7) hp6) (by omega) ?_
     refine⟨_,_,_,_,rfl,((s15.trans s7).trans (Same.upd hp6)).put n1,?_⟩
     exact(F5.same (s7.trans (Same.upd hp6))).thing AP (q0w (q0w e15 hq7) hp6) (by omega) (x:=(rm',c1 / 128 % m)) qh ⟨⟨rm0,rm1⟩,kd0,by omega⟩
   ·walk_at "r"
    refine ifd (fun d2=>?_) (fun d2=>els)
    walk_at "r"
    refine ifd (fun d3=>?_) (fun d3=>els)
    have ot0:=q15 (c1 / 128) (n:=R - 1) (by omega)
    have ot1:=q1b (c1 / 128) (n:=R - 1) (by omega)
    have R1:(0:Int)<R - 1:=by omega
    have b0:=q15 (rm'+1+c1 / 128 % (R - 1)) R0
    have b1:=q1b (rm'+1+c1 / 128 % (R - 1)) R0
    have b2:=way_ne rm0 rm1 ot0 ot1
    walk_at "r"
    refine⟨_,rfl,fun g gt H3 s3 gok hg=>?_⟩
    walk_at "r"
    intro p6 hp6
    walk_at "r"
    have s6:=s3.trans (Same.upd (o:= .tup [.int rm',.int ((rm'+1+c1 / 128 % (R - 1)) % R),.ref g,.bl (decide (0<c1 / 4096 % 3))]) hp6)
    refine q5g (s6 _ _ e0) (by omega) ?_
    refine⟨_,_,_,_,rfl,(s1.trans s6).put n0,?_⟩
    exact(F.same s6).way AP (s6 _ _ e0) (by omega) (x:=⟨rm',(rm'+1+c1 / 128 % (R - 1)) % R,gt,decide (0<c1 / 4096 % 3)⟩) ⟨g,qh,q0w hg hp6⟩ ⟨⟨rm0,rm1⟩,⟨b0,b1⟩,fun z=>b2 z.symm,gok⟩
  ·rintro σ H' ⟨c,kk,rm,ot,rfl,s1,F⟩
   walk_at "r"
   refine⟨a,ns,1,rfl,s1.seq hS,hl,by decide,by decide,fun c1 hc1 hc1'=>?_⟩
   have eL:=F.hL
   obtain⟨ws,⟨ps0,e0,w0⟩,z0,k0⟩:=F.g0.ex
   obtain⟨ts,⟨ps1,e1,w1⟩,z1,k1⟩:=F.g1.ex
   obtain⟨lvs,⟨ps2,e2,w2⟩,z2,k2⟩:=F.g2.ex
   obtain⟨whs,⟨ps3,e3,w3⟩,z3,k3⟩:=F.g3.ex
   walk_at "r"
   intro D hD
   refine q3q [.ref l0,.ref l1,.ref l2,.ref l3] (fun i σ H2=>E1 fun v0=>A3 (σ=[v0]) (Same H' H2) (∃us:List Addr,us.length=i/\H2 D=some (.lst (us.map V.ref))/\∀j u,us[j]? =some u->∃xs:List Addr,[ps0,ps1,ps2,ps3][j]? =some xs/\H2 u=some (.tup (xs.map V.ref)))) ⟨none,rfl,Same.upd hD,[],rfl,qh,fun j u h=>by rw[List.getElem?_nil] at h;cases h⟩ ?_ ?_ ?_
   ·rintro i σ H2 ⟨v0,rfl,s2,_⟩
    exact SqL.of (s2 _ _ eL)
   ·rintro i x σ H2 hx ⟨v0,rfl,s2,us,hul,hus,huj⟩
    have hi:i<4:=(yA hx).1
    obtain⟨l,ps,ex,eps,hlp⟩:∃l ps,x= .ref l/\[ps0,ps1,ps2,ps3][i]? =some ps/\H2 l=some (.lst (ps.map V.ref)):=by
     have hi':i=0\/i=1\/i=2\/i=3:=by omega
     rcases hi' with rfl|rfl|rfl|rfl
     ·exact ⟨l0,ps0,(zE hx).symm,rfl,s2 _ _ e0⟩
     ·exact ⟨l1,ps1,(zE hx).symm,rfl,s2 _ _ e1⟩
     ·exact ⟨l2,ps2,(zE hx).symm,rfl,s2 _ _ e2⟩
     ·exact ⟨l3,ps3,(zE hx).symm,rfl,s2 _ _ e3⟩
    subst ex
    walk_at "r"
    refine qaO (SqL.of hlp) fun t6 ht6=>?_
    have s6:Same H2 (upd H2 t6 (.tup (ps.map V.ref))):=Same.upd ht6
    have hD2:D≠t6:=ql hus ht6
    refine⟨_,s6 _ _ hus,by rw[yC];omega,_,rfl,(s2.trans s6).put hD,us++[t6],by simp[hul],by rw[qh];simp,fun j u hj=>?_⟩
    by_cases hjl:j<us.length
    ·rw [zak hjl] at hj
     obtain⟨xs,h1,h2⟩:=huj j u hj
     have h3:=s6 _ _ h2
     exact⟨xs,h1,q9X h3 (ne_of h3 (s6 _ _ hus) (by intro z;cases z))⟩
    ·have hje:j=us.length:=by
      have:=(yA hj).1
      simp at this
      omega
     subst hje
     rw[zah (zC _)] at hj
     simp at hj
     subst hj
     exact⟨ps,by rw[hul];exact eps,q9X qh (fun z=>hD2 z.symm)⟩
   ·rintro σ H2 ⟨v0,rfl,s2,us,hul,hus,huj⟩
    have hul4:us.length=4:=hul
    obtain⟨u0,u1,u2,u3,rfl⟩:∃u0 u1 u2 u3,us=[u0,u1,u2,u3]:=by
     match us,hul4 with
     |[u0,u1,u2,u3],_=>exact⟨u0,u1,u2,u3,rfl⟩
    obtain⟨_,q0,h0⟩:=huj 0 u0 rfl
    obtain⟨_,q1,h1⟩:=huj 1 u1 rfl
    obtain⟨_,q2,h2⟩:=huj 2 u2 rfl
    obtain⟨_,q3,h3⟩:=huj 3 u3 rfl
    cases q0
    cases q1
    cases q2
    cases q3
    replace hus:H2 D=some (.lst [.ref u0,.ref u1,.ref u2,.ref u3]):=hus
    have R0:(0:Int)<R:=by omega
    walk_at "r"
    intro t1 ht1
    walk_at "r"
    intro t2 ht2
    walk_at "r"
    intro t3 ht3
    walk_at "r"
    refine q7L (by walk_at "sq") (by walk_at "sq") (by simp) (by simp) rfl ?_
    intro t4 ht4
    walk_at "r"
    intro t5 ht5
    walk_at "r"
    refine q7L (by walk_at "sq") (by walk_at "sq") (by simp) (by simp) rfl ?_
    intro t6 ht6
    walk_at "r"
    refine q7L (by walk_at "sq") (by walk_at "sq") (by simp) (by simp) rfl ?_
    intro t7 ht7
    have s12:=s1.trans s2
    have fin:∀Hf,Same H2 Hf->Hf t7=some (.tup [.int R,.int (c1 % R),.int (c1 / 14 % R),.ref u0,.ref u1,.ref u2,.ref u3,.int (c1 / 256 % 256),.int (c1 / 65536 % 10)])->ClOk ⟨R,c1 % R,c1 / 14 % R,ws,ts,lvs,whs,c1 / 256 % 256,c1 / 65536 % 10⟩->Q (.ref t7) Hf:=fun Hf sA e okC=>
     k t7 ⟨R,c1 % R,c1 / 14 % R,ws,ts,lvs,whs,c1 / 256 % 256,c1 / 65536 % 10⟩ Hf (s12.trans sA) ⟨u0,u1,u2,u3,e,⟨ps0,sA _ _ h0,w0.mono fun _ _=>q1C.mono (s2.trans sA).ts⟩,⟨ps1,sA _ _ h1,w1.mono fun _ _=>qH.mono (s2.trans sA).ts⟩,⟨ps2,sA _ _ h2,w2.mono fun _ _=>qH.mono (s2.trans sA).ts⟩,⟨ps3,sA _ _ h3,w3.mono fun _ _=>qH.mono (s2.trans sA).ts⟩⟩ okC
    refine fin _ (by walk_at "sm") qh ?_
    have f0:=q15 c1 R0
    have f1:=q1b c1 R0
    have g0:=q15 (c1 / 14) R0
    have g1:=q1b (c1 / 14) R0
    have b0:=q15 (c1 / 256) (n:=256) (by decide)
    have b1:=q1b (c1 / 256) (n:=256) (by decide)
    have v0:=q15 (c1 / 65536) (n:=10) (by decide)
    have v1:=q1b (c1 / 65536) (n:=10) (by decide)
    exact⟨r1,r2,⟨f0,f1⟩,⟨g0,g1⟩,z0,z1,z2,z3,k0,fun x hx=>⟨(k1 x hx).1,(k1 x hx).2.1,by have:=(k1 x hx).2.2;omega⟩,k2,k3,⟨b0,by show c1 / 256 % 256<=255;omega⟩,⟨v0,by show c1 / 65536 % 10<=9;omega⟩⟩
theorem q9p (T:Txt mg cs)(L:LaidC K mg "Gate" "__init__" "Gate.__init__" q0C ["self","word","numbers"]):CCal P w K mg base 1 "Gate" "__init__" ["self","word","numbers"] (q24 K):=by
 refine L.cc (k:=0) q5b (fun vs H Q E h=>?_) (fun f cdv A outer s H vs Q E hr h=>?_)
 ·obtain ⟨p,C,dx,q,z,rfl,_⟩:=h
  rfl
 ·obtain ⟨p,C,dx,q,z,rfl,hp,cl,nw,nn,k⟩:=h
  refine⟨_,(qg (q2y K (pv 0) (pv 1) rfl)
   (qj (q2y K (pv 0) (pv 2) rfl))),?_⟩
  walk_at "r"
  refine q3A hp cl nw (by decide) ?_
  walk_at "r"
  refine q3A qh cl nn (by show 1<1000;decide) ?_
  rw[q2U]
  exact k
theorem q9u (T:Txt mg cs)(TC:Tcl K cs)(L:LaidI K mg "Plain" cs.Plain "Plain.__init__" q0q ["self"])(wg:CCal P w K mg base 1 "Gate" "__init__" ["self","word","numbers"] (q24 K)):Makes P w K mg base 2 "Plain" cs.Plain ["self"] (spMk cs "plain"):=by
 refine L.makes (k:=1) q4p (fun vs H Q E h=>?_) (fun f cdv A outer s H vs Q E hr h=>?_)
 ·obtain ⟨p,dx,g,rfl,hw,_⟩:=h
  cases g<;>first|rfl|exact absurd hw (by simp only[Gt.word];walk_at "k")
 ·obtain ⟨p,dx,g,rfl,hw,hp,k⟩:=h
  cases g<;>first|exact absurd hw (by simp only[Gt.word];walk_at "k")|skip
  refine⟨_,(qj (qT (q6X wg hr (by decide) rfl (qa (pv 0) (qa qk (qa (qJ qc) qc)))))),?_⟩
  walk_at "r"
  intro t ht
  refine⟨p,cs.Plain,dx,t,_,rfl,q0w hp ht,TC.cl_Plain,TC.no_Plain_word,TC.no_Plain_numbers,?_⟩
  walk_at "r"
  have hpt:p≠t:=ql hp ht
  refine k _ (fun b o hb hbp=>?_) ⟨dx,t,qh,by rw[qm hpt.symm];exact qh⟩
  rw[qm hbp,qm (ql hb ht)]
  exact hb
theorem qbv (T:Txt mg cs)(TC:Tcl K cs)(L:LaidI K mg "Door" cs.Door "Door.__init__" q0D ["self","kind"])(wg:CCal P w K mg base 1 "Gate" "__init__" ["self","word","numbers"] (q24 K)):Makes P w K mg base 2 "Door" cs.Door ["self","kind"] (spMk cs "door"):=by
 refine L.makes (k:=1) q5c (fun vs H Q E h=>?_) (fun f cdv A outer s H vs Q E hr h=>?_)
 ·obtain ⟨p,dx,g,rfl,hw,_⟩:=h
  cases g<;>first|rfl|exact absurd hw (by simp only[Gt.word];walk_at "k")
 ·obtain ⟨p,dx,g,rfl,hw,hp,k⟩:=h
  cases g<;>first|exact absurd hw (by simp only[Gt.word];walk_at "k")|skip
  rename_i n
  refine⟨_,(qj (qT (q6X wg hr (by decide) rfl (qa (pv 0) (qa qk (qa (qJ (qa (pv 1) qc)) qc)))))),?_⟩
  walk_at "r"
  intro t ht
  refine⟨p,cs.Door,dx,t,_,rfl,q0w hp ht,TC.cl_Door,TC.no_Door_word,TC.no_Door_numbers,?_⟩
  walk_at "r"
  have hpt:p≠t:=ql hp ht
  refine k _ (fun b o hb hbp=>?_) ⟨dx,t,qh,by rw[qm hpt.symm];exact qh⟩
  rw[qm hbp,qm (ql hb ht)]
  exact hb
theorem qbu (T:Txt mg cs)(TC:Tcl K cs)(L:LaidI K mg "Need" cs.Need "Need.__init__" q0B ["self","kind"])(wg:CCal P w K mg base 1 "Gate" "__init__" ["self","word","numbers"] (q24 K)):Makes P w K mg base 2 "Need" cs.Need ["self","kind"] (spMk cs "need"):=by
 refine L.makes (k:=1) q58 (fun vs H Q E h=>?_) (fun f cdv A outer s H vs Q E hr h=>?_)
 ·obtain ⟨p,dx,g,rfl,hw,_⟩:=h
  cases g<;>first|rfl|exact absurd hw (by simp only[Gt.word];walk_at "k")
 ·obtain ⟨p,dx,g,rfl,hw,hp,k⟩:=h
  cases g<;>first|exact absurd hw (by simp only[Gt.word];walk_at "k")|skip
  rename_i n
  refine⟨_,(qg (qT (q6X wg hr (by decide) rfl (qa (pv 0) (qa qk (qa (qJ (qa (pv 1) qc)) qc)))))
   (qj (q2y K (pv 0) (pv 1) rfl))),?_⟩
  walk_at "r"
  intro t ht
  refine⟨p,cs.Need,dx,t,_,rfl,q0w hp ht,TC.cl_Need,TC.no_Need_word,TC.no_Need_numbers,?_⟩
  walk_at "r"
  refine q3A qh TC.cl_Need TC.no_Need_kind (by show 2<1000;decide) ?_
  rw[q2U]
  have hpt:p≠t:=ql hp ht
  refine k _ (fun b o hb hbp=>?_) ⟨dx,t,qh,by rw[qm hpt.symm];exact qh⟩
  rw[qm hbp,qm (ql hb ht)]
  exact hb
theorem mk_bar (T:Txt mg cs)(TC:Tcl K cs)(L:LaidI K mg "Bar" cs.Bar "Bar.__init__" q0R ["self","bar"])(wg:CCal P w K mg base 1 "Gate" "__init__" ["self","word","numbers"] (q24 K)):Makes P w K mg base 2 "Bar" cs.Bar ["self","bar"] (spMk cs "bar"):=by
 refine L.makes (k:=1) q5K (fun vs H Q E h=>?_) (fun f cdv A outer s H vs Q E hr h=>?_)
 ·obtain ⟨p,dx,g,rfl,hw,_⟩:=h
  cases g<;>first|rfl|exact absurd hw (by simp only[Gt.word];walk_at "k")
 ·obtain ⟨p,dx,g,rfl,hw,hp,k⟩:=h
  cases g<;>first|exact absurd hw (by simp only[Gt.word];walk_at "k")|skip
  rename_i n
  refine⟨_,(qg (qT (q6X wg hr (by decide) rfl (qa (pv 0) (qa qk (qa (qJ (qa (pv 1) qc)) qc)))))
   (qj (q2y K (pv 0) (pv 1) rfl))),?_⟩
  walk_at "r"
  intro t ht
  refine⟨p,cs.Bar,dx,t,_,rfl,q0w hp ht,TC.cl_Bar,TC.no_Bar_word,TC.no_Bar_numbers,?_⟩
  walk_at "r"
  refine q3A qh TC.cl_Bar TC.no_Bar_bar (by show 2<1000;decide) ?_
  rw[q2U]
  have hpt:p≠t:=ql hp ht
  refine k _ (fun b o hb hbp=>?_) ⟨dx,t,qh,by rw[qm hpt.symm];exact qh⟩
  rw[qm hbp,qm (ql hb ht)]
  exact hb
theorem q9v (T:Txt mg cs)(TC:Tcl K cs)(L:LaidI K mg "Float" cs.Float "Float.__init__" q0r ["self","height"])(wg:CCal P w K mg base 1 "Gate" "__init__" ["self","word","numbers"] (q24 K)):Makes P w K mg base 2 "Float" cs.Float ["self","height"] (spMk cs "float"):=by
 refine L.makes (k:=1) q4q (fun vs H Q E h=>?_) (fun f cdv A outer s H vs Q E hr h=>?_)
 ·obtain ⟨p,dx,g,rfl,hw,_⟩:=h
  cases g<;>first|rfl|exact absurd hw (by simp only[Gt.word];walk_at "k")
 ·obtain ⟨p,dx,g,rfl,hw,hp,k⟩:=h
  cases g<;>first|exact absurd hw (by simp only[Gt.word];walk_at "k")|skip
  rename_i n
  refine⟨_,(qg (qT (q6X wg hr (by decide) rfl (qa (pv 0) (qa qk (qa (qJ (qa (pv 1) qc)) qc)))))
   (qj (q2y K (pv 0) (pv 1) rfl))),?_⟩
  walk_at "r"
  intro t ht
  refine⟨p,cs.Float,dx,t,_,rfl,q0w hp ht,TC.cl_Float,TC.no_Float_word,TC.no_Float_numbers,?_⟩
  walk_at "r"
  refine q3A qh TC.cl_Float TC.no_Float_height (by show 2<1000;decide) ?_
  rw[q2U]
  have hpt:p≠t:=ql hp ht
  refine k _ (fun b o hb hbp=>?_) ⟨dx,t,qh,by rw[qm hpt.symm];exact qh⟩
  rw[qm hbp,qm (ql hb ht)]
  exact hb
theorem qbt (T:Txt mg cs)(TC:Tcl K cs)(L:LaidI K mg "Wade" cs.Wade "Wade.__init__" q0A ["self","height","kind"])(wg:CCal P w K mg base 1 "Gate" "__init__" ["self","word","numbers"] (q24 K)):Makes P w K mg base 2 "Wade" cs.Wade ["self","height","kind"] (spMk cs "wade"):=by
 refine L.makes (k:=1) q57 (fun vs H Q E h=>?_) (fun f cdv A outer s H vs Q E hr h=>?_)
 ·obtain ⟨p,dx,g,rfl,hw,_⟩:=h
  cases g<;>first|rfl|exact absurd hw (by simp only[Gt.word];walk_at "k")
 ·obtain ⟨p,dx,g,rfl,hw,hp,k⟩:=h
  cases g<;>first|exact absurd hw (by simp only[Gt.word];walk_at "k")|skip
  rename_i n1 n2
  refine⟨_,(qg (qT (q6X wg hr (by decide) rfl (qa (pv 0) (qa qk (qa (qJ (qa (pv 1) (qa (pv 2) qc))) qc)))))
   (qg (q2y K (pv 0) (pv 1) rfl)
   (qj (q2y K (pv 0) (pv 2) rfl)))),?_⟩
  walk_at "r"
  intro t ht
  refine⟨p,cs.Wade,dx,t,_,rfl,q0w hp ht,TC.cl_Wade,TC.no_Wade_word,TC.no_Wade_numbers,?_⟩
  walk_at "r"
  refine q3A qh TC.cl_Wade TC.no_Wade_height (by show 2<1000;decide) ?_
  walk_at "r"
  refine q3A qh TC.cl_Wade TC.no_Wade_kind (by show 3<1000;decide) ?_
  rw[q2U,q2U]
  have hpt:p≠t:=ql hp ht
  refine k _ (fun b o hb hbp=>?_) ⟨dx,t,qh,by rw[qm hpt.symm];exact qh⟩
  rw[qm hbp,qm (ql hb ht)]
  exact hb
theorem q2j {H:Hp}{Q:VK}{g:Gt}{x dx:Addr}(hx:H x=none)(hdx:H dx=none)(ne:dx≠x)(k:∀(x:Addr) (H':Hp),Same H H'->H x=none->GObj cs H' x g->Q (.ref x) H'):spMk cs g.word (.ref x::(g.ns.map V.int++[])) (upd (upd H dx (.own x)) x (.ins (q4K cs g) dx [])) (fun v H2=>v= .non/\Q (.ref x) H2) E0:=by
 refine⟨x,dx,g,by rw[zaU],rfl,qh,fun H' hk ho=>⟨rfl,k x H' (fun b o hb=>?_) hx ho⟩⟩
 refine hk b o ?_ (ql hb hx)
 rw[qm (ql hb hx),qm (ql hb hdx)]
 exact hb
theorem q70 (T:Txt mg cs)(L:Laid K mg "gate_of" q1s ["gate"])(wA:Makes P w K mg base 2 "Plain" cs.Plain ["self"] (spMk cs "plain"))(wF:Makes P w K mg base 2 "Door" cs.Door ["self","kind"] (spMk cs "door"))(wD:Makes P w K mg base 2 "Need" cs.Need ["self","kind"] (spMk cs "need"))
  (wJ:Makes P w K mg base 2 "Bar" cs.Bar ["self","bar"] (spMk cs "bar"))(wC:Makes P w K mg base 2 "Wade" cs.Wade ["self","height","kind"] (spMk cs "wade"))(ww:Makes P w K mg base 2 "Float" cs.Float ["self","height"] (spMk cs "float")):Cal P w K mg base 4 "gate_of" ["gate"] (qaG cs):=by
 refine L.cal (k:=3) q43 (fun vs H Q E h=>?_) (fun f cdv A outer s H vs Q E hr h=>?_)
 ·obtain ⟨p,g,rfl,_⟩:=h
  rfl
 ·obtain ⟨p,g,rfl,hp,k⟩:=h
  refine⟨_,(qg (qI (i:=1) q43.nd rfl (Or.inl rfl) (qD (qF K) (pv 0) qd (fun _ _=>rfl)))
   (qg (qQ (qr q0i (pv 1) qk (qB _)) (qj (qw (qba wA hr (by decide) rfl))) qy)
   (qg (qQ (qr q0i (pv 1) qk (qB _)) (qj (qw (q5i wF hr (by decide) rfl (qa (qD (qF K) (pv 0) qd (fun _ _=>rfl)) qc)))) qy)
   (qg (qQ (qr q0i (pv 1) qk (qB _)) (qj (qw (q5i wD hr (by decide) rfl (qa (qD (qF K) (pv 0) qd (fun _ _=>rfl)) qc)))) qy)
   (qg (qQ (qr q0i (pv 1) qk (qB _)) (qj (qw (q5i wJ hr (by decide) rfl (qa (qD (qF K) (pv 0) qd (fun _ _=>rfl)) qc)))) qy)
   (qg (qQ (qr q0i (pv 1) qk (qB _)) (qj (qw (q5i wC hr (by decide) rfl (qa (qD (qF K) (pv 0) qd (fun _ _=>rfl)) (qa (qD (qF K) (pv 0) qd (fun _ _=>rfl)) qc))))) qy)
   (qg (qQ (qr q0i (pv 1) qk (qB _)) (qj (qw (q5i ww hr (by decide) rfl (qa (qD (qF K) (pv 0) qd (fun _ _=>rfl)) qc)))) qy)
   (qj q9h)))))))),?_⟩
  have hp':=hp
  rw[Gt.vs_eq] at hp'
  walk_at "r"
  refine ifd (fun h1=>?_) (fun h1=>?_)
  ·cases g<;>first|exact absurd h1 (by simp only[Gt.word];walk_at "k")|skip
   walk_at "r"
   exact fun x dx hx hdx ne=>q2j hx hdx ne k
  walk_at "r"
  refine ifd (fun h2=>?_) (fun h2=>?_)
  ·cases g<;>first|exact absurd h2 (by simp only[Gt.word];walk_at "k")|skip
   walk_at "r"
   exact fun x dx hx hdx ne=>q2j hx hdx ne k
  walk_at "r"
  refine ifd (fun h3=>?_) (fun h3=>?_)
  ·cases g<;>first|exact absurd h3 (by simp only[Gt.word];walk_at "k")|skip
   walk_at "r"
   exact fun x dx hx hdx ne=>q2j hx hdx ne k
  walk_at "r"
  refine ifd (fun h4=>?_) (fun h4=>?_)
  ·cases g<;>first|exact absurd h4 (by simp only[Gt.word];walk_at "k")|skip
   walk_at "r"
   exact fun x dx hx hdx ne=>q2j hx hdx ne k
  walk_at "r"
  refine ifd (fun h5=>?_) (fun h5=>?_)
  ·cases g<;>first|exact absurd h5 (by simp only[Gt.word];walk_at "k")|skip
   walk_at "r"
   exact fun x dx hx hdx ne=>q2j hx hdx ne k
  walk_at "r"
  refine ifd (fun h6=>?_) (fun h6=>?_)
  ·cases g<;>first|exact absurd h6 (by simp only[Gt.word];walk_at "k")|skip
   walk_at "r"
   exact fun x dx hx hdx ne=>q2j hx hdx ne k
  cases g
  ·exact absurd rfl h1
  ·exact absurd rfl h2
  ·exact absurd rfl h3
  ·exact absurd rfl h4
  ·exact absurd rfl h5
  ·exact absurd rfl h6
theorem q2S {C:Addr}(L:LaidM K C "told" "Gate.told" qN ["self"])(cl:Cls K C)(nw:q0a K C "word")(nn:q0a K C "numbers"):VMeth P w K mg base 1 C "told" ["self"] (q7t cs C):=by
 refine L.vm (k:=0) cl q59 (fun vs H Q E h=>?_) (fun f cdv A outer s H vs Q E hr h=>?_)
 ·obtain ⟨p,dx,q,g,rfl,_⟩:=h
  rfl
 ·obtain ⟨p,dx,q,g,rfl,hp,hq,k⟩:=h
  have big:=qC
  have hns:=g.ns_len
  refine⟨_,(qj (qw (qv (q3p K) (qJ (qa (q7Z K (pv 0) rfl) qc)) (q7Z K (pv 0) rfl)))),?_⟩
  walk_at "r"
  refine r_fld hp cl nw (qbM q g) ?_
  walk_at "r"
  intro t ht
  have s1:=Same.upd (o:= .tup [.str g.word]) ht
  walk_at "r"
  refine r_fld (s1 _ _ hp) cl nn (q78 q g) ?_
  refine⟨t,q,_,_,rfl,rfl,SqT.of qh,SqT.of (s1 _ _ hq),by simp,by simp;omega,fun e=>?_,fun e r hr0=>?_⟩
  ·have e2:g.vs=[.str g.word]:=by rw[Gt.vs_eq,e]
   exact k t _ s1 (by rw[e2];exact qh)
  ·exact k r _ (s1.trans (Same.upd hr0)) (by rw[Gt.vs_eq];exact qh)
theorem q2T {C:Addr}(T:Txt mg cs)(L:LaidM K C "text" "Gate.text" qL ["self"])(cl:Cls K C)(vt:VMeth P w K mg base 1 C "told" ["self"] (q7t cs C)):VMeth P w K mg base 2 C "text" ["self"] (q7u cs C):=by
 refine L.vm (k:=1) cl q5a (fun vs H Q E h=>?_) (fun f cdv A outer s H vs Q E hr h=>?_)
 ·obtain ⟨p,dx,q,g,rfl,_⟩:=h
  rfl
 ·obtain ⟨p,dx,q,g,rfl,hp,hq,ok,k⟩:=h
  have big:=qC
  have hvl:=vs_len g
  have hns:=q6q ok
  refine⟨_,(qj (qw (q13 zV zaA zaB (q1H K) qk (qa (q0N (q1k (N:=["part"]) (own:=1) (caps:=[]) ["self"] (qe qL) (by walk_at "k")) rfl (q1e K (qa9 (k:=1) (hr.mono (by decide)) (pv 0))) (fun _ _ _ _=>(qM (i:=0) (show List.Nodup (["part"]:List Str) by walk_at "k") rfl (Or.inl rfl))) (fun _ _ _ _=>q1u) (fun _ _ _ _=>(q09 str1 rfl T.wbJ q8Y (qa (pv 0) qc)))) qc)))),?_⟩
  walk_at "r"
  refine⟨rfl,?_⟩
  walk_at "r"
  refine r_vm hp vt (qbN q g) ?_
  walk_at "r"
  refine⟨p,dx,q,g,rfl,hp,hq,fun r H1 s1 hr1=>?_⟩
  walk_at "r"
  intro D hD
  refine q1I g.vs (fun i σ H'=>E1 fun v0=>A3 (σ=[v0]) (Same H1 H') (H' D=some (.lst ((g.vs.take i).map fun v=>V.str (strV v))))) ⟨none,rfl,Same.upd hD,by rw[qh];rfl⟩ ?_ ?_ ?_
  ·rintro i σ H' ⟨_,rfl,s2,_⟩
   exact SqT.of (s2 _ _ hr1)
  ·rintro i x σ H' hx ⟨v0,rfl,s2,hd2⟩
   have hi:i<g.vs.length:=(yA hx).1
   have ex:g.vs[i]=x:=(yA hx).2
   have fin:∃ys,H' D=some (.lst ys)/\ys.length<sizeLine/\∃v0,([some x]:St)=[v0]/\Same H1 (upd H' D (.lst (ys++[V.str (strV x)])))/\(upd H' D (.lst (ys++[V.str (strV x)]))) D=some (.lst ((g.vs.take (i+1)).map fun v=>V.str (strV v))):=by
    refine⟨_,hd2,by rw[yC,zW];omega,_,rfl,s2.put hD,?_⟩
    rw[qh,<-q7l (fun v=>V.str (strV v)) g.vs hi,ex]
   walk_at "r"
   have hmem:x∈g.vs:=zaD hx
   rw[Gt.vs_eq] at hmem
   rcases zJ.mp hmem with rfl|hm
   ·walk_at "r"
    obtain⟨z1,z2,z3,z4,z5,z6,z7⟩:=fin
    exact⟨z1,z2,z3,z4,z5,z6,z7⟩
   ·obtain ⟨n,hn,rfl⟩:=zaw.mp hm
    have:=hns n hn
    refine q7G (q7w this.1 this.2) ?_
    obtain⟨z1,z2,z3,z4,z5,z6,z7⟩:=fin
    exact⟨z1,z2,z3,z4,z5,z6,z7⟩
  ·rintro σ H' ⟨_,rfl,s2,hd2⟩
   rw[zac] at hd2
   have e:(g.vs.map fun v=>V.str (strV v))=(g.vs.map strV).map V.str:=by rw[zbV];rfl
   rw[e] at hd2
   walk_at "r"
   exact⟨_,D,_,rfl,rfl,SqL.of hd2,by decide,q8q (vs_str ok) (by rw[yC];omega),k H' (s1.trans s2)⟩
end
theorem q6d {n:Int}(h0:0<=n)(h1:n<=255):n.natAbs.log2<1920:=by
 have:=(q1F (n:=n) (by omega) (by omega))
 exact this
theorem qbG (g:Gt):q5X g=Txt.join " " (lnN g.word g.ns):=by cases g<;>rfl
theorem ln_ne (z:Str)(ns:List Int):lnN z ns≠[]:=by simp[lnN]
theorem q9V (x:Way):Txt.join " " [Txt.join " " (lnN (wrd x.back) [x.a,x.b]),q5X x.g]=Txt.join " " (lnW x):=by
 rw[qbG]
 exact q9G (c:=32) (ln_ne _ _) (ln_ne _ _)
theorem q9Z {ws:List Str}(n:Nat)(hl:ws.length<=n)(h:∀x∈ws,Wd x):(ws.map (·.length)).sum+ws.length<=n*6:=by
 have:=q4X (n:=5) fun x hx=>(h x hx).1
 omega
theorem q2f {α:Type}(f:α->Str)(l:List α){i:Nat}(hi:i<l.length):((l.take (i+1)).map f).map V.str=((l.take i).map f).map V.str++[.str (f l[i])]:=by
 rw[zal hi,zY,zY]
 rfl
theorem q9x {C:Cl}(o:ClOk C):((lin C).map (·.length)).sum+(lin C).length<=1048576:=by
 have:=q4X (n:=36) (ws:=lin C) fun z hz=>by
  obtain⟨ws,hw,rfl⟩:=zaw.mp hz
  exact q2K (q4f o ws hw).2
 have l:=q5S o
 have e:(lin C).length=(lns C).length:=yC _
 omega
def spNl:Sp:=fun vs H Q _=>E3 fun(z:Str) (p:Addr) (ns:List Int)=>A6 (vs=[.str z,.ref p]) (H p=some (.tup (ns.map V.int))) (Wd z) (q7b ns) (ns.length<=4) (∀H',Same H H'->Q (.str (Txt.join " " (lnN z ns))) H')
def spWl:Sp:=fun vs H Q _=>E2 fun(p:Addr) (x:Way)=>A6 (vs=[.ref p]) (q1C H p x) ((0<=x.a/\x.a<=255)) ((0<=x.b/\x.b<=255)) (x.g.ok) (∀H',Same H H'->Q (.str (Txt.join " " (lnW x))) H')
def spSh:Sp:=fun vs H Q _=>E2 fun(p:Addr) (C:Cl)=>A4 (vs=[.ref p]) (ClAt H p C) (ClOk C) (∀H',Same H H'->Q (.str (txt C)) H')
section
variable {P:Program}{w:World}{K:W.Frag}{mg:Str->Option Value}{base:Heap}{xs:Xs}{cs:Cs}
theorem ok_nl (T:Txt mg cs)(L:Laid K mg "numbers_line" q06 ["word","numbers"]):Cal P w K mg base 1 "numbers_line" ["word","numbers"] spNl:=by
 refine L.cal (k:=0) q3u (fun vs H Q E h=>?_) (fun f cdv A outer s H vs Q E hr h=>?_)
 ·obtain ⟨z,p,ns,rfl,_⟩:=h
  rfl
 ·obtain ⟨z,p,ns,rfl,hp,hz,hn,hl,k⟩:=h
  have big:=qC
  refine⟨_,(qj (qw (q13 zV zaA zaB (q1H K) qk (qa (qv q1x (qK (qa (pv 0) qc)) (q0N (q1k (N:=["number"]) (own:=1) (caps:=[]) ["word","numbers"] (qe q06) (by walk_at "k")) rfl (q1e K (pv 1)) (fun _ _ _ _=>(qM (i:=0) (show List.Nodup (["number"]:List Str) by walk_at "k") rfl (Or.inl rfl))) (fun _ _ _ _=>q1u) (fun _ _ _ _=>(q09 str1 rfl T.wbJ q8Y (qa (pv 0) qc))))) qc)))),?_⟩
  walk_at "r"
  refine⟨rfl,?_⟩
  walk_at "r"
  intro l gl
  generalize hGl:upd _ l _=H0
  have s0:=qp hGl gl
  have h0:=qo hGl
  have hp0:=s0 _ _ hp
  walk_at "r"
  intro D hD
  refine q1I (ns.map V.int) (fun i σ H'=>E1 fun v0=>A3 (σ=[v0]) (Same H0 H') (H' D=some (.lst (((ns.take i).map sI).map V.str)))) ⟨none,rfl,Same.upd hD,by rw[qh];rfl⟩ ?_ ?_ ?_
  ·rintro i σ H' ⟨_,rfl,s1,_⟩
   exact SqT.of (s1 _ _ (s0 _ _ hp))
  ·rintro i x σ H' hx ⟨v0,rfl,s1,hd⟩
   have hi:i<ns.length:=by have:=(yA hx).1;simpa using this
   obtain rfl:x= .int ns[i]:=by simpa[hi] using hx.symm
   have hb:=hn _ (zN hi)
   walk_at "r"
   refine q7G (q6d hb.1 hb.2) ?_
   refine⟨_,hd,by rw[yC,yC,zW];omega,_,rfl,s1.put hD,?_⟩
   rw[qh,q2f sI ns hi]
   rfl
  ·rintro σ H1 ⟨_,rfl,s1,hd⟩
   rw[yC,zac] at hd
   have h01:=s1 _ _ h0
   walk_at "r"
   refine⟨l,D,_,_,rfl,rfl,h01,hd,by simp;omega,fun q gq=>?_⟩
   generalize hGq:upd _ q _=H2
   have s2:=qp hGq gq
   have h2:=qo hGq
   walk_at "r"
   exact⟨_,q,lnN z ns,rfl,rfl,SqL.of h2,by walk_at "k",zap (q9Z 5 (by simp[lnN];omega) (q1O hz hn)) (by decide),k _ (s0.trans (s1.trans s2))⟩
theorem ok_wl (T:Txt mg cs)(L:Laid K mg "way_line" q16 ["way"])(wn:Cal P w K mg base 1 "numbers_line" ["word","numbers"] spNl)(waR:Cal P w K mg base 4 "gate_of" ["gate"] (qaG cs))(vx:∀g:Gt,VMeth P w K mg base 2 (q4K cs g) "text" ["self"] (q7u cs (q4K cs g))):Cal P w K mg base 5 "way_line" ["way"] spWl:=by
 obtain⟨t1,wbj⟩:=T.wbj
 obtain⟨t2,wbg⟩:=T.wbg
 obtain⟨t3,waD⟩:=T.waD
 obtain⟨t4,wax⟩:=T.wax
 refine L.cal (k:=4) q3t (fun vs H Q E h=>?_) (fun f cdv A outer s H vs Q E hr h=>?_)
 ·obtain ⟨p,x,rfl,_⟩:=h
  rfl
 ·obtain ⟨p,x,rfl,⟨g,hp,hg⟩,ha,hb,gk,k⟩:=h
  have big:=qC
  refine⟨_,(qg (qI (i:=1) q3t.nd rfl (Or.inl rfl) (q4w (q1a (qD (qF K) (pv 0) (qz (v:= .int 3) rfl wax ⟨_,rfl⟩) (fun _ _=>rfl))) qk qk))
   (qj (qw (q13 zV zaA zaB (q1H K) qk (qa (qK (qa (qR wn hr (by decide) rfl (qa (pv 1) (qa (qJ (qa (qD (qF K) (pv 0) (qz (v:= .int 0) rfl wbj ⟨_,rfl⟩) (fun _ _=>rfl)) (qa (qD (qF K) (pv 0) (qz (v:= .int 1) rfl wbg ⟨_,rfl⟩) (fun _ _=>rfl)) qc))) qc))) (qa (qa9 (k:=2) (hr.mono (by decide)) (qR waR hr (by decide) rfl (qa (qD (qF K) (pv 0) (qz (v:= .int 2) rfl waD ⟨_,rfl⟩) (fun _ _=>rfl)) qc))) qc))) qc))))),?_⟩
  walk_at "r"
  refine ite2 (fun hk=>?_) (fun hk=>?_)
  ·walk_at "r"
   have hp':=hp
   walk_at "r"
   refine⟨rfl,?_⟩
   walk_at "r"
   intro q gq
   generalize hGq:upd _ q _=H1
   have s1:=qp hGq gq
   have h1:=qo hGq
   refine⟨wrd x.back,q,[x.a,x.b],by rw[hk];rfl,h1,q4T _,q1A ha hb,by simp,fun H2 s2=>?_⟩
   have s12:=s1.trans s2
   have hp2:=s12 _ _ hp
   have hg2:=s12 _ _ hg
   walk_at "r"
   refine⟨g,x.g,rfl,hg2,fun o H3 s3 go ho=>?_⟩
   obtain⟨dx,qn,ho1,ho2⟩:=ho.ex
   walk_at "r"
   refine r_vm ho1 (vx x.g) (q8D qn x.g) ?_
   walk_at "r"
   refine⟨o,dx,qn,x.g,rfl,ho1,ho2,gk,fun H4 s4=>?_⟩
   walk_at "r"
   intro l gl
   generalize hGl:upd _ l _=H5
   have s5:=qp hGl gl
   have h5:=qo hGl
   walk_at "r"
   refine⟨_,l,[Txt.join " " (lnN (wrd x.back) [x.a,x.b]),q5X x.g],rfl,rfl,SqL.of h5,by walk_at "k",?_,?_⟩
   ·have a1:=q2K (ws:=lnN (wrd x.back) [x.a,x.b]) ⟨by simp[lnN],q1O (q4T _) (q1A ha hb)⟩
    have a2:(q5X x.g).length<=36:=by
     rw[qbG]
     have:=x.g.ns_len
     exact q2K ⟨by simp[lnN];omega,q1O (q5H _) (q75 gk)⟩
    simp
    omega
   ·rw [q9V]
    exact k _ (s12.trans (s3.trans (s4.trans s5)))
  ·have hk:x.back=false:=by simpa using hk
   walk_at "r"
   have hp':=hp
   walk_at "r"
   refine⟨rfl,?_⟩
   walk_at "r"
   intro q gq
   generalize hGq:upd _ q _=H1
   have s1:=qp hGq gq
   have h1:=qo hGq
   refine⟨wrd x.back,q,[x.a,x.b],by rw[hk];rfl,h1,q4T _,q1A ha hb,by simp,fun H2 s2=>?_⟩
   have s12:=s1.trans s2
   have hp2:=s12 _ _ hp
   have hg2:=s12 _ _ hg
   walk_at "r"
   refine⟨g,x.g,rfl,hg2,fun o H3 s3 go ho=>?_⟩
   obtain⟨dx,qn,ho1,ho2⟩:=ho.ex
   walk_at "r"
   refine r_vm ho1 (vx x.g) (q8D qn x.g) ?_
   walk_at "r"
   refine⟨o,dx,qn,x.g,rfl,ho1,ho2,gk,fun H4 s4=>?_⟩
   walk_at "r"
   intro l gl
   generalize hGl:upd _ l _=H5
   have s5:=qp hGl gl
   have h5:=qo hGl
   walk_at "r"
   refine⟨_,l,[Txt.join " " (lnN (wrd x.back) [x.a,x.b]),q5X x.g],rfl,rfl,SqL.of h5,by walk_at "k",?_,?_⟩
   ·have a1:=q2K (ws:=lnN (wrd x.back) [x.a,x.b]) ⟨by simp[lnN],q1O (q4T _) (q1A ha hb)⟩
    have a2:(q5X x.g).length<=36:=by
     rw[qbG]
     have:=x.g.ns_len
     exact q2K ⟨by simp[lnN];omega,q1O (q5H _) (q75 gk)⟩
    simp
    omega
   ·rw [q9V]
    exact k _ (s12.trans (s3.trans (s4.trans s5)))
theorem ok_sh (T:Txt mg cs)(L:Laid K mg "shown" q1p ["cellar"])(wn:Cal P w K mg base 1 "numbers_line" ["word","numbers"] spNl)(wat:Cal P w K mg base 5 "way_line" ["way"] spWl):Cal P w K mg base 6 "shown" ["cellar"] spSh:=by
 obtain⟨t0,vI⟩:=T.vI
 obtain⟨t1,vG⟩:=T.vG
 obtain⟨t2,wao⟩:=T.wao
 obtain⟨t3,wO⟩:=T.wO
 obtain⟨t4,wM⟩:=T.wM
 obtain⟨t5,wN⟩:=T.wN
 obtain⟨t6,wH⟩:=T.wH
 obtain⟨t7,wB⟩:=T.wB
 obtain⟨t8,wz⟩:=T.wz
 refine L.cal (k:=5) q6f (fun vs H Q E h=>?_) (fun f cdv A outer s H vs Q E hr h=>?_)
 ·obtain ⟨p,C,rfl,_⟩:=h
  rfl
 ·obtain ⟨p,C,rfl,hC,oC,k⟩:=h
  have big:=qC
  have r2:=oC.r2
  have cf:=oC.f
  have cl:=oC.l
  have cb:=oC.b
  have cw:=oC.wa
  have wl:=oC.wl
  have tl:=oC.tl
  have ll:=oC.ll
  have vl:=oC.vl
  obtain⟨wv,tv,lv,vv,hc,c1,c2,c3,c4⟩:=hC.ex
  obtain⟨vs3,hv3,hvl3,hvg3⟩:=c1.get
  obtain⟨vs4,hv4,hvl4,hvg4⟩:=c2.get
  obtain⟨vs5,hv5,hvl5,hvg5⟩:=c3.get
  obtain⟨vs6,hv6,hvl6,hvg6⟩:=c4.get
  refine⟨_,(qg (qI (i:=1) q6f.nd rfl (Or.inl rfl) (qK (qa (qR wn hr (by decide) rfl (qa qk (qa (qJ (qa (qD (qF K) (pv 0) (qz (v:= .int 0) rfl vI ⟨_,rfl⟩) (fun _ _=>rfl)) (qa (qD (qF K) (pv 0) (qz (v:= .int 1) rfl vG ⟨_,rfl⟩) (fun _ _=>rfl)) (qa (qD (qF K) (pv 0) (qz (v:= .int 2) rfl wao ⟨_,rfl⟩) (fun _ _=>rfl)) qc)))) qc))) (qa (qR wn hr (by decide) rfl (qa qk (qa (qJ (qa (qD (qF K) (pv 0) (qz (v:= .int 7) rfl wB ⟨_,rfl⟩) (fun _ _=>rfl)) qc)) qc))) (qa (qR wn hr (by decide) rfl (qa qk (qa (qJ (qa (qD (qF K) (pv 0) (qz (v:= .int 8) rfl wz ⟨_,rfl⟩) (fun _ _=>rfl)) qc)) qc))) qc)))))
   (qg (qT (q13 zU zbb zbc q2H (pv 1) (qa (q0N (q1k (N:=["way"]) (own:=1) (caps:=[]) ["cellar","lines"] (qe q1p) (by walk_at "k")) rfl (q1e K (qD (qF K) (pv 0) (qz (v:= .int 3) rfl wO ⟨_,rfl⟩) (fun _ _=>rfl))) (fun _ _ _ _=>(qM (i:=0) (show List.Nodup (["way"]:List Str) by walk_at "k") rfl (Or.inl rfl))) (fun _ _ _ _=>q1u) (fun _ _ _ _=>(qR wat hr (by decide) rfl (qa (pv 0) qc)))) qc)))
   (qg (qT (q13 zU zbb zbc q2H (pv 1) (qa (q0N (q1k (N:=["thing"]) (own:=1) (caps:=[]) ["cellar","lines"] (qe q1p) (by walk_at "k")) rfl (q1e K (qD (qF K) (pv 0) (qz (v:= .int 4) rfl wM ⟨_,rfl⟩) (fun _ _=>rfl))) (fun _ _ _ _=>(qM (i:=0) (show List.Nodup (["thing"]:List Str) by walk_at "k") rfl (Or.inl rfl))) (fun _ _ _ _=>q1u) (fun _ _ _ _=>(qR wn hr (by decide) rfl (qa qk (qa (pv 0) qc))))) qc)))
   (qg (qT (q13 zU zbb zbc q2H (pv 1) (qa (q0N (q1k (N:=["lever"]) (own:=1) (caps:=[]) ["cellar","lines"] (qe q1p) (by walk_at "k")) rfl (q1e K (qD (qF K) (pv 0) (qz (v:= .int 5) rfl wN ⟨_,rfl⟩) (fun _ _=>rfl))) (fun _ _ _ _=>(qM (i:=0) (show List.Nodup (["lever"]:List Str) by walk_at "k") rfl (Or.inl rfl))) (fun _ _ _ _=>q1u) (fun _ _ _ _=>(qR wn hr (by decide) rfl (qa qk (qa (pv 0) qc))))) qc)))
   (qg (qT (q13 zU zbb zbc q2H (pv 1) (qa (q0N (q1k (N:=["wheel"]) (own:=1) (caps:=[]) ["cellar","lines"] (qe q1p) (by walk_at "k")) rfl (q1e K (qD (qF K) (pv 0) (qz (v:= .int 6) rfl wH ⟨_,rfl⟩) (fun _ _=>rfl))) (fun _ _ _ _=>(qM (i:=0) (show List.Nodup (["wheel"]:List Str) by walk_at "k") rfl (Or.inl rfl))) (fun _ _ _ _=>q1u) (fun _ _ _ _=>(qR wn hr (by decide) rfl (qa qk (qa (pv 0) qc))))) qc)))
   (qj (qw (q13 zV zaA zaB (q1H K) qk (qa (pv 1) qc))))))))),?_⟩
  walk_at "r"
  intro q0 gq0
  generalize hGq0:upd _ q0 _=H0a
  have sa0:=qp hGq0 gq0
  have ha0:=qo hGq0
  refine⟨"rooms",q0,[C.rooms,C.fst,C.lst],rfl,ha0,q0V (by walk_at "k"),fun n hn=>by simp at hn;omega,by simp,fun H0b sb0=>?_⟩
  have s0:=sa0.trans sb0
  have hc0:=s0 _ _ hc
  walk_at "r"
  intro q1 gq1
  generalize hGq1:upd _ q1 _=H1a
  have sa1:=qp hGq1 gq1
  have ha1:=qo hGq1
  refine⟨"bars",q1,[C.bars],rfl,ha1,q0V (by walk_at "k"),fun n hn=>by simp at hn;omega,by simp,fun H1b sb1=>?_⟩
  have s1:=s0.trans (sa1.trans sb1)
  have hc1:=s1 _ _ hc
  walk_at "r"
  intro q2 gq2
  generalize hGq2:upd _ q2 _=H2a
  have sa2:=qp hGq2 gq2
  have ha2:=qo hGq2
  refine⟨"water",q2,[C.water],rfl,ha2,q0V (by walk_at "k"),fun n hn=>by simp at hn;omega,by simp,fun H2b sb2=>?_⟩
  have s2:=s1.trans (sa2.trans sb2)
  have hc2:=s2 _ _ hc
  walk_at "r"
  intro l gl
  generalize hGl:upd _ l _=H3
  have s3':=qp hGl gl
  have h3:=qo hGl
  have gl0:H l=none:=s2.free gl
  have s3:=s2.trans s3'
  have hc3:=s3 _ _ hc
  have hw3:=s3 _ _ hv3
  walk_at "r"
  intro D3 gD3
  refine q1I vs3 (fun i σ H'=>E1 fun v0=>A3 (σ=[v0]) (Same H3 H') (H' D3=some (.lst (((C.ways.take i).map (fun x=>Txt.join " " (lnW x))).map V.str)))) ⟨none,rfl,Same.upd gD3,by rw[qh];rfl⟩ ?_ ?_ ?_
  ·rintro i σ H' ⟨_,rfl,z1,_⟩
   exact SqT.of (z1 _ _ (s3 _ _ hv3))
  ·rintro i x σ H' hx ⟨v0,rfl,z1,hd⟩
   have hi:i<C.ways.length:=by rw[<-hvl3];exact(yA hx).1
   obtain⟨p1,e,hat⟩:=hvg3 i hi
   rw[hx] at e
   cases e
   have zs:=s3.trans z1
   have hm:=zN hi
   have ok:=oC.w _ hm
   walk_at "r"
   refine⟨p1,C.ways[i],rfl,hat.mono zs.ts,by omega,by omega,ok.2.2.2,fun H2 z2=>?_⟩
   walk_at "r"
   refine⟨_,z2 _ _ hd,by rw[yC,yC,zW];omega,_,rfl,(z1.trans z2).put gD3,?_⟩
   rw[qh,q2f (fun x=>Txt.join " " (lnW x)) C.ways hi]
   try rfl
  ·rintro σ H3c ⟨_,rfl,z1,hd⟩
   rw[hvl3,zac] at hd
   have h3l:=z1 _ _ h3
   walk_at "r"
   refine⟨l,D3,_,_,rfl,rfl,h3l,hd,by simp;omega,?_⟩
   generalize hGe3:upd _ l _=H4
   have h4:=qo hGe3
   have s4:Same H H4:=by rw[<-hGe3];exact(s3.trans z1).put gl0
   have hc4:=s4 _ _ hc
   have hw4:=s4 _ _ hv4
   walk_at "r"
   intro D4 gD4
   refine q1I vs4 (fun i σ H'=>E1 fun v0=>A3 (σ=[v0]) (Same H4 H') (H' D4=some (.lst (((C.things.take i).map (fun x=>Txt.join " " (lnP "thing" x))).map V.str)))) ⟨none,rfl,Same.upd gD4,by rw[qh];rfl⟩ ?_ ?_ ?_
   ·rintro i σ H' ⟨_,rfl,z1,_⟩
    exact SqT.of (z1 _ _ (s4 _ _ hv4))
   ·rintro i x σ H' hx ⟨v0,rfl,z1,hd⟩
    have hi:i<C.things.length:=by rw[<-hvl4];exact(yA hx).1
    obtain⟨p1,e,hat⟩:=hvg4 i hi
    rw[hx] at e
    cases e
    have zs:=s4.trans z1
    have hm:=zN hi
    have ok:=oC.t _ hm
    walk_at "r"
    refine⟨"thing",p1,[_,_],rfl,zs _ _ hat,q0V (by walk_at "k"),q1A (by omega) (by omega),by simp,fun H2 z2=>?_⟩
    walk_at "r"
    refine⟨_,z2 _ _ hd,by rw[yC,yC,zW];omega,_,rfl,(z1.trans z2).put gD4,?_⟩
    rw[qh,q2f (fun x=>Txt.join " " (lnP "thing" x)) C.things hi]
    try rfl
   ·rintro σ H4c ⟨_,rfl,z1,hd⟩
    rw[hvl4,zac] at hd
    have h4l:=z1 _ _ h4
    walk_at "r"
    refine⟨l,D4,_,_,rfl,rfl,h4l,hd,by simp;omega,?_⟩
    generalize hGe4:upd _ l _=H5
    have h5:=qo hGe4
    have s5:Same H H5:=by rw[<-hGe4];exact(s4.trans z1).put gl0
    have hc5:=s5 _ _ hc
    have hw5:=s5 _ _ hv5
    walk_at "r"
    intro D5 gD5
    refine q1I vs5 (fun i σ H'=>E1 fun v0=>A3 (σ=[v0]) (Same H5 H') (H' D5=some (.lst (((C.levers.take i).map (fun x=>Txt.join " " (lnP "lever" x))).map V.str)))) ⟨none,rfl,Same.upd gD5,by rw[qh];rfl⟩ ?_ ?_ ?_
    ·rintro i σ H' ⟨_,rfl,z1,_⟩
     exact SqT.of (z1 _ _ (s5 _ _ hv5))
    ·rintro i x σ H' hx ⟨v0,rfl,z1,hd⟩
     have hi:i<C.levers.length:=by rw[<-hvl5];exact(yA hx).1
     obtain⟨p1,e,hat⟩:=hvg5 i hi
     rw[hx] at e
     cases e
     have zs:=s5.trans z1
     have hm:=zN hi
     have ok:=oC.lv _ hm
     walk_at "r"
     refine⟨"lever",p1,[_,_],rfl,zs _ _ hat,q0V (by walk_at "k"),q1A (by omega) (by omega),by simp,fun H2 z2=>?_⟩
     walk_at "r"
     refine⟨_,z2 _ _ hd,by rw[yC,yC,zW];omega,_,rfl,(z1.trans z2).put gD5,?_⟩
     rw[qh,q2f (fun x=>Txt.join " " (lnP "lever" x)) C.levers hi]
     try rfl
    ·rintro σ H5c ⟨_,rfl,z1,hd⟩
     rw[hvl5,zac] at hd
     have h5l:=z1 _ _ h5
     walk_at "r"
     refine⟨l,D5,_,_,rfl,rfl,h5l,hd,by simp;omega,?_⟩
     generalize hGe5:upd _ l _=H6
     have h6:=qo hGe5
     have s6:Same H H6:=by rw[<-hGe5];exact(s5.trans z1).put gl0
     have hc6:=s6 _ _ hc
     have hw6:=s6 _ _ hv6
     walk_at "r"
     intro D6 gD6
     refine q1I vs6 (fun i σ H'=>E1 fun v0=>A3 (σ=[v0]) (Same H6 H') (H' D6=some (.lst (((C.wheels.take i).map (fun x=>Txt.join " " (lnP "wheel" x))).map V.str)))) ⟨none,rfl,Same.upd gD6,by rw[qh];rfl⟩ ?_ ?_ ?_
     ·rintro i σ H' ⟨_,rfl,z1,_⟩
      exact SqT.of (z1 _ _ (s6 _ _ hv6))
     ·rintro i x σ H' hx ⟨v0,rfl,z1,hd⟩
      have hi:i<C.wheels.length:=by rw[<-hvl6];exact(yA hx).1
      obtain⟨p1,e,hat⟩:=hvg6 i hi
      rw[hx] at e
      cases e
      have zs:=s6.trans z1
      have hm:=zN hi
      have ok:=oC.wh _ hm
      walk_at "r"
      refine⟨"wheel",p1,[_,_],rfl,zs _ _ hat,q0V (by walk_at "k"),q1A (by omega) (by omega),by simp,fun H2 z2=>?_⟩
      walk_at "r"
      refine⟨_,z2 _ _ hd,by rw[yC,yC,zW];omega,_,rfl,(z1.trans z2).put gD6,?_⟩
      rw[qh,q2f (fun x=>Txt.join " " (lnP "wheel" x)) C.wheels hi]
      try rfl
     ·rintro σ H6c ⟨_,rfl,z1,hd⟩
      rw[hvl6,zac] at hd
      have h6l:=z1 _ _ h6
      walk_at "r"
      refine⟨l,D6,_,_,rfl,rfl,h6l,hd,by simp;omega,?_⟩
      generalize hGe6:upd _ l _=H7
      have h7:=qo hGe6
      have s7:Same H H7:=by rw[<-hGe6];exact(s6.trans z1).put gl0
      have hc7:=s7 _ _ hc
      walk_at "r"
      refine⟨rfl,?_⟩
      walk_at "r"
      have e7:H7 l=some (.lst ((lin C).map V.str)):=by
       rw[h7]
       simp[lin,lns]
       rfl
      exact⟨_,l,lin C,rfl,rfl,SqL.of e7,by walk_at "k",q9x oC,k _ s7⟩
end
theorem qbT (l:List V)(i:Nat)(h:i<=l.length):cutV l none (some (i:Int))=l.take i:=by
 unfold cutV
 rw[HT.q4r,HT.q3y,List.drop_zero,zbW h,Nat.sub_zero]
theorem q5v (l:List V)(i:Nat)(h:i<=l.length):cutV l (some (i:Int)) none=l.drop i:=by
 unfold cutV
 rw[HT.q4r,HT.q3y,zbW h]
 exact zT (by rw[zbI];omega)
theorem q8O (l:List V)(i j:Nat)(h:i<=l.length)(h2:j<=l.length):cutV l (some (i:Int)) (some (j:Int))=(l.drop i).take (j - i):=by
 unfold cutV
 rw[HT.q3y,HT.q3y,zbW h,zbW h2]
def spCh:Sp:=fun vs H Q _=>E4 fun(c:Addr) (ys:List V) (j:Nat) (y:V)=>A5 (vs=[.ref c,.int j,y]) (H c=some (.tup ys)) (ys.length=9) (j<9) (∀(r:Addr) (H':Hp),Same H H'->H' r=some (.tup (ys.take j++[y]++ys.drop (j+1)))->Q (.ref r) H')
def vsOf (C:Cl)(v1 v2 v3 v4:Addr):List V:=[.int C.rooms,.int C.fst,.int C.lst,.ref v1,.ref v2,.ref v3,.ref v4,.int C.bars,.int C.water]
def q2m (C:Cl)(v1 v2 v3 v4:Addr)(a b c d:List Addr):Hand:=⟨C.rooms,C.fst,C.lst,C.bars,C.water,.ref v1,.ref v2,.ref v3,.ref v4,a.map V.ref,b.map V.ref,c.map V.ref,d.map V.ref,fun i=>wyW (C.ways.getD i ⟨0,0,.plain,false⟩),fun i=>C.things.getD i (0,0),fun i=>C.levers.getD i (0,0),fun i=>C.wheels.getD i (0,0)⟩
theorem q6w {K:W.Frag}{H:Hp}{C:Cl}{v1 v2 v3 v4:Addr}{a b c d:List Addr}(o:ClOk C)(i1:q2Q K H (.ref v1) (a.map V.ref))(i2:q2Q K H (.ref v2) (b.map V.ref))(i3:q2Q K H (.ref v3) (c.map V.ref))(i4:q2Q K H (.ref v4) (d.map V.ref))(w1:Rows q1C H a C.ways)(w2:Rows qH H b C.things)(w3:Rows qH H c C.levers)(w4:Rows qH H d C.wheels):HandOk K H (q2m C v1 v2 v3 v4 a b c d):=by
 have e1:=w1.1
 have e2:=w2.1
 have e3:=w3.1
 have e4:=w4.1
 have r1:=o.r1
 have r2:=o.r2
 have f:=o.f
 have l:=o.l
 have cb:=o.b
 have cw:=o.wa
 have l1:=o.wl
 have l2:=o.tl
 have l3:=o.ll
 have l4:=o.vl
 have S:∀n:Int,0<=n->n<=1000->Sml n:=fun n h0 h1=>q1F (by omega) (by omega)
 refine⟨S C.rooms (by omega) (by omega),S (C.rooms - 1) (by omega) (by omega),S C.fst (by omega) (by omega),S C.lst (by omega) (by omega),S C.bars (by omega) (by omega),S C.water (by omega) (by omega),i1,i2,i3,i4,fun i x z=>?_,fun i x z=>?_,fun i x z=>?_,fun i x z=>?_,by show(a.map V.ref).length<=1000;rw[yC];omega,by show(b.map V.ref).length<=1000;rw[yC];omega,by show(c.map V.ref).length<=1000;rw[yC];omega,by show(d.map V.ref).length<=1000;rw[yC];omega⟩
 ·obtain ⟨p,rfl,ha,hm⟩:=q4s w1 z ⟨0,0,.plain,false⟩
  exact way_is ha (o.w _ hm) r2
 ·obtain ⟨p,rfl,ha,hm⟩:=q4s w2 z (0,0)
  have z1:=o.t _ hm
  exact⟨p,rfl,ha,S (C.things.getD i (0,0)).1 (by omega) (by omega),S (C.things.getD i (0,0)).2 (by omega) (by omega)⟩
 ·obtain ⟨p,rfl,ha,hm⟩:=q4s w3 z (0,0)
  have z1:=o.lv _ hm
  exact⟨p,rfl,ha,S (C.levers.getD i (0,0)).1 (by omega) (by omega),S (C.levers.getD i (0,0)).2 (by omega) (by omega)⟩
 ·obtain ⟨p,rfl,ha,hm⟩:=q4s w4 z (0,0)
  have z1:=o.wh _ hm
  exact⟨p,rfl,ha,S (C.wheels.getD i (0,0)).1 (by omega) (by omega),S (C.wheels.getD i (0,0)).2 (by omega) (by omega)⟩
theorem q4a {C:Cl}{v1 v2 v3 v4:Addr}{a b c d:List Addr}(o:ClOk C)(e1:a.length=C.ways.length)(e2:b.length=C.things.length)(e3:c.length=C.levers.length)(e4:d.length=C.wheels.length):(q2m C v1 v2 v3 v4 a b c d).good:=by
 have r1:=o.r1
 have r2:=o.r2
 have f:=o.f
 have l:=o.l
 have l1:=o.wl
 have l2:=o.tl
 have l3:=o.ll
 have l4:=o.vl
 refine⟨⟨r1,r2⟩,⟨f.1,by show C.fst<=C.rooms - 1;omega⟩,⟨l.1,by show C.lst<=C.rooms - 1;omega⟩,o.b,o.wa,⟨by show(a.map V.ref).length<=20;rw[yC];omega,fun i hi=>?_⟩,⟨by show(((b.map V.ref).length:Nat):Int)<=8;rw[yC];omega,fun i hi=>?_⟩,⟨by show(((c.map V.ref).length:Nat):Int)<=4;rw[yC];omega,fun i hi=>?_⟩,⟨by show(((d.map V.ref).length:Nat):Int)<=4;rw[yC];omega,fun i hi=>?_⟩⟩
 ·have hi:i<(a.map V.ref).length:=hi
  rw[yC] at hi
  obtain⟨x,y,z,w⟩:=o.w _ (q4G ⟨0,0,.plain,false⟩ (show i<C.ways.length by omega))
  exact⟨x,y,z,q5t w⟩
 ·have hi:i<(b.map V.ref).length:=hi
  rw[yC] at hi
  have z:=o.t _ (q4G (0,0) (show i<C.things.length by omega))
  exact⟨z.1,z.2.1,Int.le_of_lt_add_one z.2.2⟩
 ·have hi:i<(c.map V.ref).length:=hi
  rw[yC] at hi
  exact o.lv _ (q4G (0,0) (show i<C.levers.length by omega))
 ·have hi:i<(d.map V.ref).length:=hi
  rw[yC] at hi
  exact o.wh _ (q4G (0,0) (show i<C.wheels.length by omega))
inductive Nxt (C:Cl):Cl->List Str->Prop
 |way (x:Way) (e1:C.things=[]) (e2:C.levers=[]) (e3:C.wheels=[]):Nxt C ⟨C.rooms,C.fst,C.lst,C.ways++[x],C.things,C.levers,C.wheels,C.bars,C.water⟩ (lnW x)
 |thing (x:Int×Int) (e2:C.levers=[]) (e3:C.wheels=[]):Nxt C ⟨C.rooms,C.fst,C.lst,C.ways,C.things++[x],C.levers,C.wheels,C.bars,C.water⟩ (lnP "thing" x)
 |lever (x:Int×Int) (e3:C.wheels=[]):Nxt C ⟨C.rooms,C.fst,C.lst,C.ways,C.things,C.levers++[x],C.wheels,C.bars,C.water⟩ (lnP "lever" x)
 |wheel (x:Int×Int):Nxt C ⟨C.rooms,C.fst,C.lst,C.ways,C.things,C.levers,C.wheels++[x],C.bars,C.water⟩ (lnP "wheel" x)
def pre (C:Cl)(i:Nat):Cl:=⟨C.rooms,C.fst,C.lst,C.ways.take (i - 3),C.things.take (i - 3 - C.ways.length),C.levers.take (i - 3 - C.ways.length - C.things.length),C.wheels.take (i - 3 - C.ways.length - C.things.length - C.levers.length),if 2<=i then C.bars else 0,if 3<=i then C.water else 0⟩
theorem pre_ok {C:Cl}(o:ClOk C)(i:Nat):ClOk (pre C i):=by
 have h1:=o.wl
 have h2:=o.tl
 have h3:=o.ll
 have h4:=o.vl
 refine⟨o.r1,o.r2,o.f,o.l,?_,?_,?_,?_,fun x hx=>o.w x (zaF hx),fun x hx=>o.t x (zaF hx),fun x hx=>o.lv x (zaF hx),fun x hx=>o.wh x (zaF hx),?_,?_⟩
 ·show (List.take _ _).length<=_
  rw[zW];omega
 ·show (List.take _ _).length<=_
  rw[zW];omega
 ·show (List.take _ _).length<=_
  rw[zW];omega
 ·show (List.take _ _).length<=_
  rw[zW];omega
 ·show 0<=(if 2<=i then C.bars else 0)/\(if 2<=i then C.bars else 0)<=255
  have:=o.b
  split<;>omega
 ·show 0<=(if 3<=i then C.water else 0)/\(if 3<=i then C.water else 0)<=9
  have:=o.wa
  split<;>omega
theorem q6t (C:Cl):(lns C).length=3+C.ways.length+C.things.length+C.levers.length+C.wheels.length:=by
 unfold lns
 simp
 omega
theorem qb3 (C:Cl):pre C (lns C).length=C:=by
 have e:=q6t C
 unfold pre
 rw[zT (by omega),zT (by omega),zT (by omega),zT (by omega),zM (by omega),zM (by omega)]
theorem q4i {α:Type}{l:List α}{j:Nat}{x:α}(h:l[j]? =some x):l.take (j+1)=l.take j++[x]:=by
 rw[zas,h]
 rfl
theorem qbo {C:Cl}{j:Nat}{ws:List Str}(h:(lns C)[j+3]? =some ws):Nxt (pre C (j+3)) (pre C (j+3+1)) ws:=by
 replace h:(C.ways.map lnW++(C.things.map (lnP "thing")++(C.levers.map (lnP "lever")++C.wheels.map (lnP "wheel"))))[j]? =some ws:=h
 have q2:∀a b:Int,(if 2<=j+3 then a else b)=a:=fun a b=>zM (by omega)
 have q3:∀a b:Int,(if 3<=j+3 then a else b)=a:=fun a b=>zM (by omega)
 have q2':∀a b:Int,(if 2<=j+3+1 then a else b)=a:=fun a b=>zM (by omega)
 have q3':∀a b:Int,(if 3<=j+3+1 then a else b)=a:=fun a b=>zM (by omega)
 by_cases h1:j<C.ways.length
 ·rw [zak (by simpa using h1),zaq] at h
  obtain⟨x,hx,rfl⟩:=zaG.mp h
  have e:pre C (j+3+1)=⟨(pre C (j+3)).rooms,(pre C (j+3)).fst,(pre C (j+3)).lst,(pre C (j+3)).ways++[x],(pre C (j+3)).things,(pre C (j+3)).levers,(pre C (j+3)).wheels,(pre C (j+3)).bars,(pre C (j+3)).water⟩:=by
   unfold pre
   rw[q2,q3,q2',q3',show j+3+1 - 3=j+1 by omega,show j+3 - 3=j by omega,q4i hx,show j+1 - C.ways.length=0 by omega,show j - C.ways.length=0 by omega]
  rw[e]
  refine .way x ?_ ?_ ?_
  ·show List.take (j+3 - 3 - C.ways.length) _=[]
   rw[show j+3 - 3 - C.ways.length=0 by omega];rfl
  ·show List.take (j+3 - 3 - C.ways.length - C.things.length) _=[]
   rw[show j+3 - 3 - C.ways.length - C.things.length=0 by omega];rfl
  ·show List.take (j+3 - 3 - C.ways.length - C.things.length - C.levers.length) _=[]
   rw[show j+3 - 3 - C.ways.length - C.things.length - C.levers.length=0 by omega];rfl
 rw[zah (by simpa using h1),yC] at h
 obtain⟨j2,rfl⟩:∃k,j=C.ways.length+k:=⟨j - C.ways.length,by omega⟩
 rw[show C.ways.length+j2 - C.ways.length=j2 by omega] at h
 have z1:∀k,k=C.ways.length+j2\/k=C.ways.length+j2+1->C.ways.take k=C.ways:=fun k hk=>zT (by omega)
 by_cases h2:j2<C.things.length
 ·rw [zak (by simpa using h2),zaq] at h
  obtain⟨x,hx,rfl⟩:=zaG.mp h
  have e:pre C (C.ways.length+j2+3+1)=⟨(pre C (C.ways.length+j2+3)).rooms,(pre C (C.ways.length+j2+3)).fst,(pre C (C.ways.length+j2+3)).lst,(pre C (C.ways.length+j2+3)).ways,(pre C (C.ways.length+j2+3)).things++[x],(pre C (C.ways.length+j2+3)).levers,(pre C (C.ways.length+j2+3)).wheels,(pre C (C.ways.length+j2+3)).bars,(pre C (C.ways.length+j2+3)).water⟩:=by
   unfold pre
   rw[q2,q3,q2',q3',z1 (C.ways.length+j2+3+1 - 3) (by omega),z1 (C.ways.length+j2+3 - 3) (by omega),show C.ways.length+j2+3+1 - 3 - C.ways.length=j2+1 by omega,show C.ways.length+j2+3 - 3 - C.ways.length=j2 by omega,q4i hx,show j2+1 - C.things.length=0 by omega,show j2 - C.things.length=0 by omega]
  rw[e]
  refine .thing x ?_ ?_
  ·show List.take (C.ways.length+j2+3 - 3 - C.ways.length - C.things.length) _=[]
   rw[show C.ways.length+j2+3 - 3 - C.ways.length - C.things.length=0 by omega];rfl
  ·show List.take (C.ways.length+j2+3 - 3 - C.ways.length - C.things.length - C.levers.length) _=[]
   rw[show C.ways.length+j2+3 - 3 - C.ways.length - C.things.length - C.levers.length=0 by omega];rfl
 rw[zah (by simpa using h2),yC] at h
 obtain⟨j3,rfl⟩:∃k,j2=C.things.length+k:=⟨j2 - C.things.length,by omega⟩
 rw[show C.things.length+j3 - C.things.length=j3 by omega] at h
 have z2:∀k,k=C.things.length+j3\/k=C.things.length+j3+1->C.things.take k=C.things:=fun k hk=>zT (by omega)
 generalize hN:C.ways.length+(C.things.length+j3)+3=N at*
 have y1:N - 3 - C.ways.length=C.things.length+j3:=by omega
 have y1':N+1 - 3 - C.ways.length=C.things.length+j3+1:=by omega
 by_cases h3:j3<C.levers.length
 ·rw [zak (by simpa using h3),zaq] at h
  obtain⟨x,hx,rfl⟩:=zaG.mp h
  have e:pre C (N+1)=⟨(pre C N).rooms,(pre C N).fst,(pre C N).lst,(pre C N).ways,(pre C N).things,(pre C N).levers++[x],(pre C N).wheels,(pre C N).bars,(pre C N).water⟩:=by
   unfold pre
   rw[q2,q3,q2',q3',z1 (N+1 - 3) (by omega),z1 (N - 3) (by omega),y1,y1',z2 _ (.inl rfl),z2 _ (.inr rfl),show C.things.length+j3+1 - C.things.length=j3+1 by omega,show C.things.length+j3 - C.things.length=j3 by omega,q4i hx,show j3+1 - C.levers.length=0 by omega,show j3 - C.levers.length=0 by omega]
  rw[e]
  refine .lever x ?_
  ·show List.take (N - 3 - C.ways.length - C.things.length - C.levers.length) _=[]
   rw[show N - 3 - C.ways.length - C.things.length - C.levers.length=0 by omega];rfl
 rw[zah (by simpa using h3),yC,zaq] at h
 obtain⟨j4,rfl⟩:∃k,j3=C.levers.length+k:=⟨j3 - C.levers.length,by omega⟩
 rw[show C.levers.length+j4 - C.levers.length=j4 by omega] at h
 obtain⟨x,hx,rfl⟩:=zaG.mp h
 have e:pre C (N+1)=⟨(pre C N).rooms,(pre C N).fst,(pre C N).lst,(pre C N).ways,(pre C N).things,(pre C N).levers,(pre C N).wheels++[x],(pre C N).bars,(pre C N).water⟩:=by
  unfold pre
  rw[q2,q3,q2',q3',z1 (N+1 - 3) (by omega),z1 (N - 3) (by omega),y1,y1',z2 _ (.inl rfl),z2 _ (.inr rfl),show C.things.length+(C.levers.length+j4)+1 - C.things.length=C.levers.length+j4+1 by omega,show C.things.length+(C.levers.length+j4) - C.things.length=C.levers.length+j4 by omega,zT (l:=C.levers) (i:=C.levers.length+j4+1) (by omega),zT (l:=C.levers) (i:=C.levers.length+j4) (by omega),show C.levers.length+j4+1 - C.levers.length=j4+1 by omega,show C.levers.length+j4 - C.levers.length=j4 by omega,q4i hx]
 rw[e]
 exact .wheel x
theorem q3h {α:Type}{At:Hp->Addr->α->Prop}{H:Hp}{q x:Addr}{ys:List α}{y:α}{ps:List Addr}(r:Rows At H ps ys)(h:H q=some (.tup (ps.map V.ref++[.ref x])))(hx:At H x y):q3R At H q (ys++[y]):=
 ⟨ps++[x],by rw[h,zY];rfl,r.snoc hx⟩
theorem pre_1 (C:Cl):pre C 1=⟨C.rooms,C.fst,C.lst,[],[],[],[],0,0⟩:=by simp[pre]
theorem pre_2 (C:Cl):pre C 2=⟨C.rooms,C.fst,C.lst,[],[],[],[],C.bars,0⟩:=by simp[pre]
theorem pre_3 (C:Cl):pre C 3=⟨C.rooms,C.fst,C.lst,[],[],[],[],C.bars,C.water⟩:=by simp[pre]
theorem qa4 {i:Nat}{sp:Sp}{dvs:List V}{t:TA}{th:TH}{D:Ends}{σ:St}{H:Hp}(q:t σ H fun vs H1=>sp (vs++dvs) H1 (fun v H2=>D.nx (σ.set i (some v)) H2) (fun cls od H'=>th cls od D σ H')):tTryH (xSet i (qaw sp dvs t)) th D σ H:=q
section
variable {P:Program}{w:World}{K:W.Frag}{mg:Str->Option Value}{base:Heap}{xs:Xs}{cs:Cs}
theorem ok_ch (T:Txt mg cs)(L:Laid K mg "changed" q1t ["parts","place","part"]):Cal P w K mg base 1 "changed" ["parts","place","part"] spCh:=by
 refine L.cal (k:=0) q6V (fun vs H Q E h=>?_) (fun f cdv A outer s H vs Q E hr h=>?_)
 ·obtain ⟨c,ys,j,y,rfl,_⟩:=h
  rfl
 ·obtain ⟨c,ys,j,y,rfl,hc,hy,hj,k⟩:=h
  have big:=qC
  refine⟨_,(qj (qw (qv (q2g K) (qv (q2g K) (qU (q3k K) (pv 0) q0s (qY (pv 1))) (qJ (qa (pv 2) qc))) (qU (q3k K) (pv 0) (qY (qv q0S (pv 1) qd)) q0s)))),?_⟩
  walk_at "r"
  refine qaP hc fun r1 H4 s4 h4=>?_
  rw[qbT _ _ (by omega)] at h4
  walk_at "r"
  intro r2 g2'
  generalize hG5:upd _ r2 _=H5
  have s5:=qp hG5 g2'
  have h5:=qo hG5
  refine q3b (s5 _ _ h4) h5 (by simp;omega) fun r3 H6 s6 h6=>?_
  have hc6:=s6 _ _ (s5 _ _ (s4 _ _ hc))
  walk_at "r"
  refine qaP hc6 fun r4 H7 s7 h7=>?_
  rw[show((j:Nat):Int)+1=((j+1:Nat):Int) by omega,q5v _ _ (by omega)] at h7
  refine q3b (s7 _ _ h6) h7 (by simp;omega) fun r5 H8 s8 h8=>?_
  walk_at "r"
  exact k r5 H8 (s4.trans (s5.trans (s6.trans (s7.trans s8)))) h8
end
inductive U where
 |s (z:Str)
 |n (i:Int)
def uv:U->V
 | .s z=> .str z
 | .n i=> .int i
def ut:U->Str
 | .s z=>z
 | .n i=>sI i
def uok:U->Prop
 | .s _=>True
 | .n i=>0<=i/\i<=255
def uN (z:Str)(ns:List Int):List U:= .s z::ns.map .n
def uP (z:Str)(x:Int×Int):List U:=uN z [x.1,x.2]
def uW (x:Way):List U:=uN (wrd x.back) [x.a,x.b]++uN x.g.word x.g.ns
def blk (C:Cl):Nat->List (List U)
 |0=>C.things.map (uP "thing")
 |1=>C.levers.map (uP "lever")
 |_=>C.wheels.map (uP "wheel")
def u3 (C:Cl):List (List U):=[uN "rooms" [C.rooms,C.fst,C.lst],uN "bars" [C.bars],uN "water" [C.water]]
def upto (C:Cl):Nat->List (List U)
 |0=>u3 C++C.ways.map uW
 |k+1=>upto C k++blk C k
theorem uN_t (z:Str)(ns:List Int):(uN z ns).map ut=lnN z ns:=by
 simp[uN,lnN,ut,Function.comp_def]
theorem uW_t (x:Way):(uW x).map ut=lnW x:=by
 unfold uW lnW
 rw[zY,uN_t,uN_t]
theorem uns_t (C:Cl):(upto C 3).map (List.map ut)=lns C:=by
 simp only[upto,u3,blk,lns,List.map_append,List.map_cons,List.map_nil,List.map_map,uN_t,Function.comp_def,uW_t,uP,List.append_assoc]
 rfl
theorem q4V {z:Str}{ns:List Int}(h:q7b ns):∀u∈uN z ns,uok u:=fun u hu=>by
 rcases zJ.mp hu with rfl|hu
 ·trivial
 ·obtain ⟨n,hn,rfl⟩:=zaw.mp hu
  exact h n hn
theorem qay {C:Cl}(o:ClOk C):∀us∈upto C 3,us.length<=6/\∀u∈us,uok u:=by
 have r2:=o.r2
 have f:=o.f
 have l:=o.l
 have b:=o.b
 have wa:=o.wa
 intro us h
 simp only[upto,u3,blk,List.mem_append,List.mem_cons,List.mem_map,List.not_mem_nil,or_false] at h
 rcases h with((((rfl|rfl|rfl)|⟨x,hx,rfl⟩)|⟨x,hx,rfl⟩)|⟨x,hx,rfl⟩)|⟨x,hx,rfl⟩
 ·exact ⟨by simp[uN],q4V fun n hn=>by simp at hn;rcases hn with rfl|rfl|rfl<;>omega⟩
 ·exact ⟨by simp[uN],q4V fun n hn=>by simp at hn;omega⟩
 ·exact ⟨by simp[uN],q4V fun n hn=>by simp at hn;omega⟩
 ·obtain ⟨⟨a0,a1⟩,⟨b0,b1⟩,_,gk⟩:=o.w x hx
  have gl:=x.g.ns_len
  refine⟨by simp[uW,uN];omega,fun y hy=>?_⟩
  rcases zad.mp hy with hy|hy
  ·exact q4V (q1A (by omega) (by omega)) y hy
  ·exact q4V (q75 gk) y hy
 ·obtain ⟨⟨a0,a1⟩,b0,b1⟩:=o.t x hx
  exact⟨by simp[uP,uN],q4V (q1A (by omega) (by omega))⟩
 ·obtain ⟨⟨a0,a1⟩,b0,b1⟩:=o.lv x hx
  exact⟨by simp[uP,uN],q4V (q1A (by omega) (by omega))⟩
 ·obtain ⟨⟨a0,a1⟩,b0,b1⟩:=o.wh x hx
  exact⟨by simp[uP,uN],q4V (q1A (by omega) (by omega))⟩
def LnAt (H:Hp)(p:Addr)(us:List U):Prop:=us≠[]/\H p=some (.lst (us.map uv))
theorem LnAt.mono {H H':Hp}{p:Addr}{us:List U}(s:Same H H')(h:LnAt H p us):LnAt H' p us:=⟨h.1,s _ _ h.2⟩
theorem LnAt.ne {H:Hp}{p l:Addr}{us:List U}{ps:List Addr}(h:LnAt H p us)(hl:H l=some (.lst (ps.map V.ref))):p≠l:=by
 rintro rfl
 obtain⟨h0,h1⟩:=h
 rw[hl] at h1
 have e:ps.map V.ref=us.map uv:=by injection h1 with h1;injection h1
 match us,ps,h0,e with
 |[],_,h0,_=>exact h0 rfl
 |u::us,[],_,e=>simp at e
 |u::us,p::ps,_,e=>
  have:=(zbp e).1
  cases u<;>cases this
def Lns (H0 H':Hp)(l:Addr)(uss:List (List U)):Prop:=Same H0 H'/\∃ps,H' l=some (.lst (ps.map V.ref))/\Rows LnAt H' ps uss
theorem Lns.app {H0 H:Hp}{l q:Addr}{us:List U}{uss:List (List U)}{ps:List Addr}(g:H0 l=none)(s0:Same H0 H)(hl:H l=some (.lst (ps.map V.ref)))(R:Rows LnAt H ps uss)(hq:LnAt H q us):Lns H0 (upd H l (.lst (ps.map V.ref++[.ref q]))) l (uss++[us]):=by
 have m:∀p x,LnAt H p x->LnAt (upd H l (.lst (ps.map V.ref++[.ref q]))) p x:=fun p x h=>⟨h.1,by rw[qm (h.ne hl)];exact h.2⟩
 exact⟨s0.put g,ps++[q],by rw[qh,zY];rfl,(R.mono m).snoc (m _ _ hq)⟩
theorem q3i {α β:Type}(f:α->β)(l:List α){i:Nat}(hi:i<l.length)(a:List β):a++(l.take (i+1)).map f=a++(l.take i).map f++[f l[i]]:=by
 rw[zal hi,zY,List.append_assoc]
 rfl
theorem pe_bmK {X:Cx}(K:W.Frag){T id:String}{name:Str}{r:V->List V->Hp->VK->Prop}{o e:Expr}{es:List Expr}{to:TE}{t:TA}{apos cpos:Pos}(pa:PlainAttrs T)(slot:Slot T name id)(hty:typeOf (.builtin id)=pure (.type "method_descriptor"))(hm:MtR X id r)(ho:PE X o to)(ha:PA X (e::es) t)
  (hbase:attributeBase o name X.env (eval o X.env)=eval o X.env:=by rfl)
  (hfew:((backTo cpos (starEach (e::es) X.env)).all (fun x=> !x.1)&&(backToKw cpos (keywordEach [] X.env)).all (fun x=>x.1.isSome)
   &&decide ((e::es).length+([]:List Keyword).length+(if ([]:List Keyword).isEmpty then 0 else 1)<30))=true:=by rfl)
  (hline:(apos.endLine==cpos.line)=true:=by rfl)(hs:starEach (e::es) X.env=(false,eval e X.env)::starEach es X.env:=by rfl)(hplain:(backTo cpos (starEach es X.env)).any (·.1)=false:=by rfl)(hK:X.K=K:=by rfl):
  PE X (.Call (.Attribute o name apos) (e::es) [] cpos) (tBM K T r to t):=by
 subst hK
 exact q13 pa slot hty hm ho ha hbase hfew hline hs hplain
def spLl:Sp:=fun vs H Q _=>E2 fun(p:Addr) (C:Cl)=>A4 (vs=[.ref p]) (ClAt H p C) (ClOk C) (∀(q:Addr) (H':Hp),Same H H'->H' q=some (.lst ((lin C).map V.str))->Q (.ref q) H')
section
variable {P:Program}{w:World}{K:W.Frag}{mg:Str->Option Value}{base:Heap}{xs:Xs}{cs:Cs}
theorem ok_ll (T:Txt mg cs)(L:Laid K mg "_law_lines" q0p ["_law_one"]):Cal P w K mg base 1 "_law_lines" ["_law_one"] spLl:=by
 refine L.cal (k:=0) q0X (fun vs H Q E h=>?_) (fun f cdv A outer s H vs Q E hr h=>?_)
 ·obtain ⟨p,C,rfl,_⟩:=h
  rfl
 ·obtain ⟨c,C,rfl,hC,oC,k⟩:=h
  obtain⟨v1,v2,v3,v4,hc,⟨p1,a1,r1⟩,⟨p2,a2,r2⟩,⟨p3,a3,r3⟩,⟨p4,a4,r4⟩⟩:=hC.ex
  have big:=qC
  have l1:=oC.wl
  have l2:=oC.tl
  have l3:=oC.ll
  have l4:=oC.vl
  refine⟨_,(qg (qI (i:=1) q0X.nd rfl (Or.inl rfl) (qK (qa (qK (qa qk (qa (qD (qF K) (pv 0) qd (fun _ _=>rfl)) (qa (qD (qF K) (pv 0) qd (fun _ _=>rfl)) (qa (qD (qF K) (pv 0) qd (fun _ _=>rfl)) qc))))) (qa (qK (qa qk (qa (qD (qF K) (pv 0) qd (fun _ _=>rfl)) qc))) (qa (qK (qa qk (qa (qD (qF K) (pv 0) qd (fun _ _=>rfl)) qc))) qc)))))
   (qg (q28 PassesOwn.never rfl (q1e K (qD (qF K) (pv 0) qd (fun _ _=>rfl))) (qM (i:=2) q0X.nd rfl (Or.inl rfl)) (qj (qT (q13 zU zaI zaJ q1y (pv 1) (qa (qv q1x (qK (qa (qD (qq K) (qK (qa qk (qa qk qc))) (q09 int1 rfl T.was q3P (qa (qD (qF K) (pv 2) qd (fun _ _=>rfl)) qc)) (fun _ _=>rfl)) (qa (qD (qF K) (pv 2) qd (fun _ _=>rfl)) (qa (qD (qF K) (pv 2) qd (fun _ _=>rfl)) qc)))) (q09 (qad K) rfl T.wbU q8Z (qa (qD (qF K) (pv 2) qd (fun _ _=>rfl)) qc))) qc)))))
   (qg (q28 PassesOwn.never rfl (q29 rfl T.vH (qa qd qc)) (qM (i:=3) q0X.nd rfl (Or.inl rfl)) (qj (q28 PassesOwn.never rfl (q1e K (qD (qF K) (pv 0) (qv q0S qd (pv 3)) (fun _ _=>rfl))) (qM (i:=4) q0X.nd rfl (Or.inl rfl)) (qj (qT (q13 zU zaI zaJ q1y (pv 1) (qa (qv q1x (qK (qa (qD (qq K) (qK (qa qk (qa qk (qa qk qc)))) (pv 3) (fun _ _=>rfl)) qc)) (q09 (qad K) rfl T.wbU q8Z (qa (pv 4) qc))) qc)))))))
   (qj (qw (q0N (q1k (N:=["_law_line"]) (own:=1) (caps:=[]) ["_law_one","_law_lines_here","_law_way","_law_k","_law_pair"] (qe q0p) (by walk_at "k")) rfl (q2E K (pv 1)) (fun _ _ _ _=>(qM (i:=0) (show List.Nodup (["_law_line"]:List Str) by walk_at "k") rfl (Or.inl rfl))) (fun _ _ _ _=>q1u) (fun _ _ _ _=>(pe_bmK K zV zaA zaB (q1H K) qk (qa (q0N (q1k (N:=["_law_part"]) (own:=1) (caps:=[]) ["_law_line"] ({kind:= .function,names:=[((".0":Str),.local),("_law_line",.local)],isGenerator:=false,isCoroutine:=false}) (by walk_at "k")) rfl (q2E K (pv 0)) (fun _ _ _ _=>(qM (i:=0) (show List.Nodup (["_law_part"]:List Str) by walk_at "k") rfl (Or.inl rfl))) (fun _ _ _ _=>q1u) (fun _ _ _ _=>(q09 str1 rfl T.wbJ q8Y (qa (pv 0) qc)))) qc))))))))),?_⟩
  walk_at "r"
  intro q1 g1
  generalize hG1:upd _ q1 _=H1
  have s1:=qp hG1 g1
  have h1:=qo hG1
  have hc1:=s1 _ _ hc
  walk_at "r"
  intro q2 g2
  generalize hG2:upd _ q2 _=H2
  have s2:=qp hG2 g2
  have h2:=qo hG2
  have hc2:=s2 _ _ hc1
  walk_at "r"
  intro q3 g3
  generalize hG3:upd _ q3 _=H3
  have s3:=qp hG3 g3
  have h3:=qo hG3
  have hc3:=s3 _ _ hc2
  walk_at "r"
  intro l gl
  generalize hG4:upd _ l _=H4
  have s4:=qp hG4 gl
  have h4:=qo hG4
  have s13:=s1.trans (s2.trans s3)
  have s14:=s13.trans s4
  have hc4:=s14 _ _ hc
  have R0:Lns H3 H4 l (u3 C):=⟨s4,[q1,q2,q3],h4,((Rows.nil.snoc (p:=q1) (x:=uN "rooms" [C.rooms,C.fst,C.lst]) ⟨by simp[uN],s4 _ _ (s3 _ _ (s2 _ _ h1))⟩).snoc (p:=q2) (x:=uN "bars" [C.bars]) ⟨by simp[uN],s4 _ _ (s3 _ _ h2)⟩).snoc (p:=q3) (x:=uN "water" [C.water]) ⟨by simp[uN],s4 _ _ h3⟩⟩
  try simp only[List.set_cons_succ,List.set_cons_zero]
  walk_at "r"
  refine⟨v1,rfl,⟨_,SqT.of (s14 _ _ a1)⟩,?_⟩
  refine q37 (p1.map V.ref) (fun i σ H'=>E1 fun u2=>A2 (σ=[some (.ref c),some (.ref l),u2,none,none]) (Lns H3 H' l (u3 C++(C.ways.take i).map uW))) ⟨none,rfl,by simpa using R0⟩ ?_ ?_ ?_
  ·rintro i σ H' ⟨_,rfl,s5,_⟩
   exact SqT.of (s5 _ _ (s13 _ _ a1))
  ·rintro i x σ H' hx ⟨u2,rfl,s5,ps,hps,R⟩
   have hi:i<C.ways.length:=by have:=(yA hx).1;rw[yC,r1.1] at this;exact this
   obtain⟨w0,e0,g0,hw,hg⟩:=r1.get hi
   rw[e0] at hx
   obtain rfl:=zE hx
   have s05:=s13.trans s5
   have hw5:=s05 _ _ hw
   have hg5:=s05 _ _ hg
   have hR:=R.1
   have hRl:((u3 C++(C.ways.take i).map uW)).length<=23:=by simp[u3];omega
   walk_at "r"
   intro b gb
   generalize hG6:upd _ b _=H6
   have s6:=qp hG6 gb
   have h6:=qo hG6
   have hw6:=s6 _ _ hw5
   have hg6:=s6 _ _ hg5
   walk_at "r"
   refine q0f (v:= .str (wrd C.ways[i].back)) (SqL.of h6) (by cases C.ways[i].back<;>rfl) ?_
   walk_at "r"
   intro b2 gb2
   generalize hG7:upd _ b2 _=H7
   have s7:=qp hG7 gb2
   have h7:=qo hG7
   have hw7:=s7 _ _ hw6
   have hg7:=s7 _ _ hg6
   walk_at "r"
   refine q9e (.inr (SqT.of hg7)) fun b3 gb3=>?_
   generalize hG8:upd _ b3 _=H8
   have s8:=qp hG8 gb3
   have h8:=qo hG8
   have h78:=s8 _ _ h7
   walk_at "r"
   have gl3:=C.ways[i].g.ns_len
   refine⟨b2,b3,_,_,rfl,rfl,h78,h8,by rw[Gt.vs_eq];simp;omega,fun b4 gb4=>?_⟩
   generalize hG9:upd _ b4 _=H9
   have s9:=qp hG9 gb4
   have h9:=qo hG9
   walk_at "r"
   have s59:=s6.trans (s7.trans (s8.trans s9))
   refine q5g (s59 _ _ hps) (by rw[yC];omega) ⟨_,rfl,?_⟩
   rw[q3i uW C.ways hi]
   refine Lns.app gl (s5.trans s59) (s59 _ _ hps) (R.mono fun _ _=>LnAt.mono s59) ⟨by simp[uW,uN],?_⟩
   rw[h9,Gt.vs_eq]
   simp[uW,uN,uv,Function.comp_def]
  rintro σ H5 ⟨u2,rfl,L5⟩
  rw[yC,r1.1,zac] at L5
  walk_at "r"
  refine q3L (fun k σ H'=>E3 fun u2 u3 u4=>A2 (σ=[some (.ref c),some (.ref l),u2,u3,u4]) (Lns H3 H' l (upto C k))) ⟨_,_,_,rfl,L5⟩ ?_ ?_
  ·rintro k σ H' hk ⟨u2,u3',u4,rfl,L6⟩
   have hc6:=L6.1 _ _ hc3
   have hk:k=0\/k=1\/k=2:=by have:k<3:=hk;omega
   rcases hk with rfl|rfl|rfl
   ·walk_at "r"
    refine⟨v2,rfl,⟨_,SqT.of (L6.1 _ _ (s13 _ _ a2))⟩,?_⟩
    refine q37 (p2.map V.ref) (fun i σ H'=>E2 fun u2 u4=>A2 (σ=[some (.ref c),some (.ref l),u2,some (.int (0+((0:Nat):Int))),u4]) (Lns H3 H' l (upto C 0++(C.things.take i).map (uP "thing")))) ⟨_,_,rfl,by simpa using L6⟩ ?_ ?_ ?_
    ·rintro i σ H' ⟨_,_,rfl,s5,_⟩
     exact SqT.of (s5 _ _ (s13 _ _ a2))
    ·rintro i x σ H' hx ⟨u2,u4,rfl,s5,ps,hps,R⟩
     have hi:i<C.things.length:=by have:=(yA hx).1;rw[yC,r2.1] at this;exact this
     obtain⟨w0,e0,hw⟩:=r2.get hi
     rw[e0] at hx
     obtain rfl:=zE hx
     have s05:=s13.trans s5
     have hw5:H' w0=some (.tup [.int C.things[i].1,.int C.things[i].2]):=s05 _ _ hw
     have hR:=R.1
     have hRl:((upto C 0++(C.things.take i).map (uP "thing"))).length<=100:=by simp[upto,u3,blk];omega
     walk_at "r"
     intro b gb
     generalize hG6:upd _ b _=H6
     have s6:=qp hG6 gb
     have h6:=qo hG6
     have hw6:=s6 _ _ hw5
     walk_at "r"
     intro b2 gb2
     generalize hG7:upd _ b2 _=H7
     have s7:=qp hG7 gb2
     have h7:=qo hG7
     have hw7:=s7 _ _ hw6
     walk_at "r"
     refine q9e (.inr (SqT.of hw7)) fun b3 gb3=>?_
     generalize hG8:upd _ b3 _=H8
     have s8:=qp hG8 gb3
     have h8:=qo hG8
     have h78:=s8 _ _ h7
     walk_at "r"
     refine⟨b2,b3,_,_,rfl,rfl,h78,h8,by simp;omega,fun b4 gb4=>?_⟩
     generalize hG9:upd _ b4 _=H9
     have s9:=qp hG9 gb4
     have h9:=qo hG9
     walk_at "r"
     have s59:=s6.trans (s7.trans (s8.trans s9))
     refine q5g (s59 _ _ hps) (by rw[yC];omega) ⟨_,_,rfl,?_⟩
     rw[q3i (uP "thing") C.things hi]
     exact Lns.app gl (s5.trans s59) (s59 _ _ hps) (R.mono fun _ _=>LnAt.mono s59) ⟨by simp[uP,uN],h9⟩
    ·rintro σ H7 ⟨u2,u4,rfl,L7⟩
     rw[yC,r2.1,zac] at L7
     walk_at "r"
     exact⟨_,_,_,rfl,L7⟩
   ·walk_at "r"
    refine⟨v3,rfl,⟨_,SqT.of (L6.1 _ _ (s13 _ _ a3))⟩,?_⟩
    refine q37 (p3.map V.ref) (fun i σ H'=>E2 fun u2 u4=>A2 (σ=[some (.ref c),some (.ref l),u2,some (.int (0+((1:Nat):Int))),u4]) (Lns H3 H' l (upto C 1++(C.levers.take i).map (uP "lever")))) ⟨_,_,rfl,by simpa using L6⟩ ?_ ?_ ?_
    ·rintro i σ H' ⟨_,_,rfl,s5,_⟩
     exact SqT.of (s5 _ _ (s13 _ _ a3))
    ·rintro i x σ H' hx ⟨u2,u4,rfl,s5,ps,hps,R⟩
     have hi:i<C.levers.length:=by have:=(yA hx).1;rw[yC,r3.1] at this;exact this
     obtain⟨w0,e0,hw⟩:=r3.get hi
     rw[e0] at hx
     obtain rfl:=zE hx
     have s05:=s13.trans s5
     have hw5:H' w0=some (.tup [.int C.levers[i].1,.int C.levers[i].2]):=s05 _ _ hw
     have hR:=R.1
     have hRl:((upto C 1++(C.levers.take i).map (uP "lever"))).length<=100:=by simp[upto,u3,blk];omega
     walk_at "r"
     intro b gb
     generalize hG6:upd _ b _=H6
     have s6:=qp hG6 gb
     have h6:=qo hG6
     have hw6:=s6 _ _ hw5
     walk_at "r"
     intro b2 gb2
     generalize hG7:upd _ b2 _=H7
     have s7:=qp hG7 gb2
     have h7:=qo hG7
     have hw7:=s7 _ _ hw6
     walk_at "r"
     refine q9e (.inr (SqT.of hw7)) fun b3 gb3=>?_
     generalize hG8:upd _ b3 _=H8
     have s8:=qp hG8 gb3
     have h8:=qo hG8
     have h78:=s8 _ _ h7
     walk_at "r"
     refine⟨b2,b3,_,_,rfl,rfl,h78,h8,by simp;omega,fun b4 gb4=>?_⟩
     generalize hG9:upd _ b4 _=H9
     have s9:=qp hG9 gb4
     have h9:=qo hG9
     walk_at "r"
     have s59:=s6.trans (s7.trans (s8.trans s9))
     refine q5g (s59 _ _ hps) (by rw[yC];omega) ⟨_,_,rfl,?_⟩
     rw[q3i (uP "lever") C.levers hi]
     exact Lns.app gl (s5.trans s59) (s59 _ _ hps) (R.mono fun _ _=>LnAt.mono s59) ⟨by simp[uP,uN],h9⟩
    ·rintro σ H7 ⟨u2,u4,rfl,L7⟩
     rw[yC,r3.1,zac] at L7
     walk_at "r"
     exact⟨_,_,_,rfl,L7⟩
   ·walk_at "r"
    refine⟨v4,rfl,⟨_,SqT.of (L6.1 _ _ (s13 _ _ a4))⟩,?_⟩
    refine q37 (p4.map V.ref) (fun i σ H'=>E2 fun u2 u4=>A2 (σ=[some (.ref c),some (.ref l),u2,some (.int (0+((2:Nat):Int))),u4]) (Lns H3 H' l (upto C 2++(C.wheels.take i).map (uP "wheel")))) ⟨_,_,rfl,by simpa using L6⟩ ?_ ?_ ?_
    ·rintro i σ H' ⟨_,_,rfl,s5,_⟩
     exact SqT.of (s5 _ _ (s13 _ _ a4))
    ·rintro i x σ H' hx ⟨u2,u4,rfl,s5,ps,hps,R⟩
     have hi:i<C.wheels.length:=by have:=(yA hx).1;rw[yC,r4.1] at this;exact this
     obtain⟨w0,e0,hw⟩:=r4.get hi
     rw[e0] at hx
     obtain rfl:=zE hx
     have s05:=s13.trans s5
     have hw5:H' w0=some (.tup [.int C.wheels[i].1,.int C.wheels[i].2]):=s05 _ _ hw
     have hR:=R.1
     have hRl:((upto C 2++(C.wheels.take i).map (uP "wheel"))).length<=100:=by simp[upto,u3,blk];omega
     walk_at "r"
     intro b gb
     generalize hG6:upd _ b _=H6
     have s6:=qp hG6 gb
     have h6:=qo hG6
     have hw6:=s6 _ _ hw5
     walk_at "r"
     intro b2 gb2
     generalize hG7:upd _ b2 _=H7
     have s7:=qp hG7 gb2
     have h7:=qo hG7
     have hw7:=s7 _ _ hw6
     walk_at "r"
     refine q9e (.inr (SqT.of hw7)) fun b3 gb3=>?_
     generalize hG8:upd _ b3 _=H8
     have s8:=qp hG8 gb3
     have h8:=qo hG8
     have h78:=s8 _ _ h7
     walk_at "r"
     refine⟨b2,b3,_,_,rfl,rfl,h78,h8,by simp;omega,fun b4 gb4=>?_⟩
     generalize hG9:upd _ b4 _=H9
     have s9:=qp hG9 gb4
     have h9:=qo hG9
     walk_at "r"
     have s59:=s6.trans (s7.trans (s8.trans s9))
     refine q5g (s59 _ _ hps) (by rw[yC];omega) ⟨_,_,rfl,?_⟩
     rw[q3i (uP "wheel") C.wheels hi]
     exact Lns.app gl (s5.trans s59) (s59 _ _ hps) (R.mono fun _ _=>LnAt.mono s59) ⟨by simp[uP,uN],h9⟩
    ·rintro σ H7 ⟨u2,u4,rfl,L7⟩
     rw[yC,r4.1,zac] at L7
     walk_at "r"
     exact⟨_,_,_,rfl,L7⟩
  rintro σ H6 ⟨u2,u3',u4,rfl,s6,ps,hps,R⟩
  replace R:Rows LnAt H6 ps (upto C 3):=R
  have ht:=uns_t C
  have hlen:ps.length=(lns C).length:=by rw[R.1,<-ht,yC]
  have hll:=q5S oC
  walk_at "r"
  intro D hD
  have hDl:D≠l:=fun e=>by rw[e,hps] at hD;cases hD
  refine q3q (ps.map V.ref) (fun i σ H'=>E1 fun v0=>A3 (σ=[v0]) (Same H6 H') (H' D=some (.lst (((lin C).take i).map V.str)))) ⟨none,rfl,Same.upd hD,by rw[qh];rfl⟩ ?_ ?_ ?_
  ·rintro i σ H' ⟨_,rfl,s7,_⟩
   exact SqL.of (s7 _ _ hps)
  ·rintro i x σ H' hx ⟨v0,rfl,s7,hd⟩
   have hi:i<(upto C 3).length:=by have:=(yA hx).1;rw[yC,R.1] at this;exact this
   obtain⟨q,e0,hn,hq⟩:=R.get hi
   rw[e0] at hx
   obtain rfl:=zE hx
   have hq7:=s7 _ _ hq
   obtain⟨hul,hu⟩:=qay oC _ (zN hi)
   have hi2:i<(lns C).length:=by rw[<-ht,yC];exact hi
   have hi3:i<(lin C).length:=by unfold lin;rw[yC];exact hi2
   have hut:(upto C 3)[i].map ut=(lns C)[i]:=by simp only[<-ht,List.getElem_map]
   have hw:=q4f oC _ (zN hi2)
   walk_at "r"
   refine⟨rfl,?_⟩
   walk_at "r"
   intro D2 hD2
   generalize hus:(upto C 3)[i]=us at*
   refine q3q (us.map uv) (fun j σ H''=>E1 fun v1=>A3 (σ=[v1]) (Same H' H'') (H'' D2=some (.lst (((us.take j).map ut).map V.str)))) ⟨none,rfl,Same.upd hD2,by rw[qh];rfl⟩ ?_ ?_ ?_
   ·rintro j σ H'' ⟨_,rfl,s8,_⟩
    exact SqL.of (s8 _ _ hq7)
   ·rintro j y σ H'' hy ⟨v1,rfl,s8,hd2⟩
    have hj:j<us.length:=by have:=(yA hy).1;simpa using this
    obtain rfl:y=uv us[j]:=by simpa[hj] using hy.symm
    have huj:=hu _ (zN hj)
    have hnx:=q2f ut us hj
    have hjl:(((us.take j).map ut).map V.str).length<sizeLine:=by rw[yC,yC,zW];omega
    generalize us[j]=u at huj hnx
    cases u with
    |s z=>
     walk_at "r"
     refine qa5 (x:=z) ?_
     exact⟨_,hd2,hjl,_,rfl,s8.put hD2,by rw[qh,hnx];rfl⟩
    |n m=>
     walk_at "r"
     refine q7G (q6d huj.1 huj.2) ?_
     exact⟨_,hd2,hjl,_,rfl,s8.put hD2,by rw[qh,hnx];rfl⟩
   ·rintro σ H8 ⟨_,rfl,s8,hd2⟩
    rw[yC,zac,hut] at hd2
    walk_at "r"
    refine⟨_,D2,(lns C)[i],rfl,rfl,SqL.of hd2,by walk_at "k",?_,?_⟩
    ·have:=q9Z 6 hw.2.1 hw.2.2
     omega
    ·refine ⟨_,s8 _ _ hd,by simp;omega,_,rfl,(s7.trans s8).put hD,?_⟩
     rw[qh,show Txt.join " " (lns C)[i]=(lin C)[i] by simp[lin],zal hi3,zY]
     rfl
  ·rintro σ H7 ⟨_,rfl,s7,hd⟩
   rw[yC,hlen,zT (by unfold lin;rw[yC];exact zC _)] at hd
   walk_at "r"
   exact k D H7 (s13.trans (s6.trans s7)) hd
end
structure Wok (z:Str):Prop where
 asc:z.cps.all (· <128)=true
 len:z.length<=150
theorem Wok.rep {z:Str}(h:Wok z):(reprText z).length<=1502:=by
 have:=PySem.StrLaws.reprText_len z fun c hc=>by
  have:=Asc.mem h.asc hc
  have:128<=16 ^ 8:=by decide
  omega
 have:=h.len
 omega
theorem Wok.sml {z:Str}(h:Wok z)(hn:isN z=true):Sml (vN z):= .of (zcm (q68 h.asc hn h.len) (by walk_at "k"))
theorem Wok.sml1 {z:Str}(h:Wok z)(hn:isN z=true):Sml (vN z - 1):=by
 refine .of ?_
 have:=q68 h.asc hn h.len
 have:2 ^ 999+1<=2 ^ 1000:=by walk_at "k"
 omega
theorem jfq {te:TE}{ts:List TE}{n:Nat}{σ:St}{H:Hp}{Q:VK}{y:Str}(hy:Wok y)(hn:n<=500000)(ht:∀K:VK,K (.str y) H->te σ H K)(q:∀m,m<=n+20000->q2l ts m σ H Q):q2l (tFq te::ts) n σ H Q:=
 ht _ ⟨y,rfl,by have:=hy.rep;omega,fun z hz=>⟨z,rfl,by have:=qC;omega,q _ (by omega)⟩⟩
def nV (ws:List Str):List V:=ws.map fun z=>V.int (vN z)
def spNum:Sp:=fun vs H Q _=>E1 fun(z:Str)=>A3 (vs=[.str z]) (Wok z) (∀H',Same H H'->Q (.bl (isN z)) H')
def spNo (C:Addr):Sp:=fun vs H Q E=>E2 fun(p:Addr) (ws:List Str)=>A6 (vs=[.ref p]) (H p=some (.lst (ws.map V.str))) ((∀z∈ws,Wok z)) (ws.length<=12) ((ws.all isN=true->∀(q:Addr) (H':Hp),Same H H'->H' q=some (.tup (nV ws))->Q (.ref q) H')) ((¬ws.all isN=true->∀H',Same H H'->E (.ref C) none H'))
def spNb (C:Addr):Sp:=fun vs H Q E=>E5 fun(z:Str) (p:Addr) (z0:Str) (ws:List Str) (m:Nat)=>A8 (vs=[.str z,.ref p,.int m]) (H p=some (.lst (V.str z0::ws.map V.str))) (z.length<=150) (m<=10) ((∀y∈ws,Wok y)) (ws.length<=12) ((z0=z/\ws.length=m/\ws.all isN=true->∀(q:Addr) (H':Hp),Same H H'->H' q=some (.tup (nV ws))->Q (.ref q) H')) ((¬(z0=z/\ws.length=m/\ws.all isN=true)->∀H',Same H H'->E (.ref C) none H'))
def q1J (z:Str)(m:Nat):Prop:=((z="way"\/z="drop")/\m=0)\/(z="thing"/\m=1)\/(z="lever"/\m=2)\/(z="wheel"/\m=3)
def spPt (C:Addr):Sp:=fun vs H Q E=>E1 fun(z:Str)=>A4 (vs=[.str z]) (Wok z) ((∀(m:Nat) (j:Int),q1J z m->j=3+(m:Int)->Q (.int j) H)) (((∀m,¬q1J z m)->E (.ref C) none H))
section
variable {P:Program}{w:World}{K:W.Frag}{mg:Str->Option Value}{base:Heap}{xs:Xs}{cs:Cs}
theorem ok_num (T:Txt mg cs)(L:Laid K mg "is_number" q0z ["word"]):Cal P w K mg base 1 "is_number" ["word"] spNum:=by
 obtain⟨t1,waJ⟩:=T.waJ
 refine L.cal (k:=0) q55 (fun vs H Q E h=>?_) (fun f cdv A outer s H vs Q E hr h=>?_)
 ·obtain ⟨z,rfl,_⟩:=h
  rfl
 ·obtain ⟨z,rfl,hz,k⟩:=h
  have big:=qC
  have hl:z.cps.toList.length=z.length:=zaY
  refine⟨_,(qg (qQ (PW.pt (q23 (qr q0i (pv 0) qk (qB _)) (q1i (q1S (q1a (qx (q5C K rfl) rfl T.wce qaq (qa (q0N (q1k (N:=["sign"]) (own:=1) (caps:=[]) ["word"] (qe q0z) (by walk_at "k")) rfl (q7U K (pv 0)) (fun _ _ _ _=>(qM (i:=0) (show List.Nodup (["sign"]:List Str) by walk_at "k") rfl (Or.inl rfl))) (fun _ _ _ _=>q1u) (fun _ _ _ _=>(q1w op_inS (pv 0) (qz (v:= .str "0123456789") rfl waJ ⟨_,rfl⟩) (by with_unfolding_all rfl)))) qc))))))) (qj (qw q2F)) qy)
   (qj (qw (pe_or (q1w q0i (pv 0) qk (qB _)) (q46 (q1w q4y (qD qah (pv 0) qd (fun _ _=>rfl)) qk (qB _))))))),?_⟩
  walk_at "r"
  refine ifd (fun h=>?_) (fun h0=>?_)
  ·have:isN z=false:=by simp[isN,h]
   rw[this] at k
   walk_at "r"
   exact k _ (Same.refl _)
  walk_at "r"
  try refine r_iS ?_
  walk_at "r"
  refine⟨z,rfl,hz.asc,?_⟩
  intro D hD
  refine q6C (fun i σ H'=>E1 fun v0=>A3 (σ=[v0]) (Same H H') (H' D=some (.lst (((z.cps.toList.take i).map dgt).map V.bl)))) ⟨none,rfl,Same.upd hD,by rw[qh];rfl⟩ ?_ ?_
  ·rintro i c σ H' hc ⟨v0,rfl,s1,hd⟩
   have hc':z.cps.toList[i]? =some c:=by simpa using hc
   have hi:i<z.length:=by
    have:=(zau.mp hc).1
    exact this
   have hz1:=hz.len
   walk_at "r"
   refine⟨_,_,rfl,rfl,?_⟩
   refine⟨_,hd,by simp;omega,_,rfl,s1.put hD,?_⟩
   rw[qh,zas,hc',zY,zY]
   rfl
  ·rintro σ H1 ⟨_,rfl,s1,hd⟩
   rw[zT (by rw[hl];exact zC _)] at hd
   walk_at "r"
   refine⟨D,_,rfl,SqL.of hd,?_⟩
   rw[show(z.cps.toList.map dgt).all id=z.cps.toList.all dgt by simp]
   cases ea:z.cps.toList.all dgt with
   |false=>
    have:isN z=false:=by simp only[isN,ea,Bool.and_false,Bool.false_and]
    rw[this] at k
    walk_at "r"
    exact k _ s1
   |true=>
    walk_at "r"
    refine ifd (fun h=>?_) (fun h=>?_)
    ·have:isN z=true:=by rw[h];walk_at "k"
     rw[this] at k
     exact k _ s1
    ·cases ec:z.cps.toList with
     |nil=>exact absurd (q4j.mpr ec) h0
     |cons c cs=>
      have el:led z=(!decide ((⟨#[c]⟩:Str)="0")):=by unfold led;rw[ec]
      have e2:isN z=(!decide ((⟨#[c]⟩:Str)="0")):=by simp only[isN,ea,h0,h,el,decide_false,Bool.not_false,Bool.and_true,Bool.true_and,Bool.false_or]
      rw[e2] at k
      walk_at "r"
      refine⟨z,0,c,rfl,rfl,by have:=hz.len;omega,by rw[ec];exact qE (xs:=c::cs) (j:=0) rfl,?_⟩
      walk_at "r"
      exact k _ s1
theorem ok_no (T:Txt mg cs)(TX:Tx K mg xs)(L:Laid K mg "numbers_of" q0o ["words"])(wan:Cal P w K mg base 1 "is_number" ["word"] spNum):CalX P w K mg base 2 "numbers_of" ["words"] (spNo xs.NoCellar):=by
 refine L.calX (k:=1) q2C (fun vs H Q E h=>?_) (fun f cdv A outer s H vs Q E hr h=>?_)
 ·obtain ⟨p,ws,rfl,_⟩:=h
  rfl
 ·obtain ⟨p,ws,rfl,hp,hw,hl,k,ke⟩:=h
  have big:=qC
  have gx:∀{i:Nat} {x:V},(ws.map V.str)[i]? =some x->∃hi:i<ws.length,x= .str ws[i]:=fun {i x} hx=>by
   have hi:i<ws.length:=by have:=(yA hx).1;rwa [yC] at this
   exact⟨hi,by simpa[hi] using hx.symm⟩
  refine⟨_,(qg (q28 PassesOwn.leaving rfl (q2E K (pv 0)) (qM (i:=1) q2C.nd rfl (Or.inl rfl)) (qj (qQ (q1S (q1a (qR wan hr (by decide) rfl (qa (pv 1) qc)))) (qj (q1m q0Y rfl rfl TX.wx TX.wE (qa (q1v (.cons (qaa (pv 1)) (.cons qk .nil))) qc))) qy)))
   (qj (qw (q09 (q69 K) rfl T.wap q2P (qa (q7X (q0N (q1k (N:=["word"]) (own:=1) (caps:=[]) ["words","word"] (qe q0o) (by walk_at "k")) rfl (q2E K (pv 0)) (fun _ _ _ _=>(qM (i:=0) (show List.Nodup (["word"]:List Str) by walk_at "k") rfl (Or.inl rfl))) (fun _ _ _ _=>q1u) (fun _ _ _ _=>(q09 intT rfl T.was q3P (qa (pv 0) qc))))) qc))))),?_⟩
  walk_at "r"
  refine qbJ (ws.map V.str) (fun i σ H'=>E1 fun v1=>A3 (σ=[some (.ref p),v1]) (Same H H') ((ws.take i).all isN=true)) ⟨none,rfl,Same.refl _,rfl⟩ ?_ ?_ ?_
  ·rintro i σ H' ⟨_,rfl,s1,_⟩
   exact SqL.of (s1 _ _ hp)
  ·rintro i x σ H' hx ⟨v1,rfl,s1,ht⟩
   obtain⟨hi,rfl⟩:=gx hx
   have hb:=hw _ (zN hi)
   walk_at "r"
   refine⟨ws[i],rfl,hb,fun H2 s2=>?_⟩
   cases en:isN ws[i] with
   |true=>
    walk_at "r"
    refine⟨_,rfl,s1.trans s2,?_⟩
    rw[zal hi,zbX,ht]
    simp[en]
   |false=>
    walk_at "r"
    refine q1L ?_
    walk_at "r"
    refine jfq hb (by omega) (fun K h=>⟨_,rfl,h⟩) fun m1 h1=>?_
    refine jc (by walk_at "k") (by omega) fun m2 h2=>?_
    refine jn fun y hy=>?_
    walk_at "r"
    refine ke (fun h=>?_) _ (s1.trans s2)
    have:=zH.mp h _ (zN hi)
    rw[en] at this
    cases this
  ·rintro σ H1 ⟨v1,rfl,s1,ht⟩
   rw[yC,zac] at ht
   have hp1:=s1 _ _ hp
   walk_at "r"
   intro D hD
   refine q3q (ws.map V.str) (fun i σ H'=>E1 fun v0=>A3 (σ=[v0]) (Same H1 H') (H' D=some (.lst (nV (ws.take i))))) ⟨none,rfl,Same.upd hD,by rw[qh];rfl⟩ ?_ ?_ ?_
   ·rintro i σ H' ⟨_,rfl,s2,_⟩
    exact SqL.of (s2 _ _ hp1)
   ·rintro i x σ H' hx ⟨v0,rfl,s2,hd⟩
    obtain⟨hi,rfl⟩:=gx hx
    have hb:=hw _ (zN hi)
    have hn:=zH.mp ht _ (zN hi)
    walk_at "r"
    refine⟨_,_,rfl,q2k hb.asc (by have:=hb.len;omega) hn,by have:=hb.len;omega,?_⟩
    refine⟨_,hd,by unfold nV;rw[yC,List.length_take];omega,_,rfl,s2.put hD,?_⟩
    rw[qh,zal hi]
    unfold nV
    rw[zY]
    rfl
   ·rintro σ H2 ⟨_,rfl,s2,hd⟩
    rw[yC,zac] at hd
    walk_at "r"
    refine qaO (SqL.of hd) fun q hq=>?_
    walk_at "r"
    exact k ht q _ (s1.trans (s2.trans (Same.upd hq))) qh
theorem ok_nb (T:Txt mg cs)(TX:Tx K mg xs)(L:Laid K mg "numbers_behind" qZ ["word","words","many"])(wI:CalX P w K mg base 2 "numbers_of" ["words"] (spNo xs.NoCellar)):CalX P w K mg base 3 "numbers_behind" ["word","words","many"] (spNb xs.NoCellar):=by
 refine L.calX (k:=2) q2X (fun vs H Q E h=>?_) (fun f cdv A outer s H vs Q E hr h=>?_)
 ·obtain ⟨z,p,z0,ws,m,rfl,_⟩:=h
  rfl
 ·obtain ⟨z,p,z0,ws,m,rfl,hp,hzl,hm,hw,hl,k,ke⟩:=h
  have big:=qC
  refine⟨_,(qg (qQ (PW.pt (q23 (qr q4y (qD (qq K) (pv 1) qd (fun _ _=>rfl)) (pv 0) (qB _)) (q1i (qr q4y (qx (lenK K) rfl T.wq q0k (qa (pv 1) qc)) (qv q0S (pv 2) qd) (qB _))))) (qj (q1m q0Y rfl rfl TX.wx TX.wE (qa (q1v (.cons qk (.cons (q3g (pv 0)) (.cons qk (.cons (q3g (pv 2)) .nil))))) qc))) qy)
   (qj (qw (qV wI qS hr (by decide) rfl (qa (qU (q04 K) (pv 1) (qY qd) q0s) qc))))),?_⟩
  walk_at "r"
  by_cases hz:z0=z
  ·rw [show(!decide (z0=z))=false by simp[hz]]
   refine iteF ?_
   walk_at "r"
   by_cases hc:ws.length=m
   ·rw [show(!decide (((V.str z0::ws.map V.str).length:Int)=(m:Int)+1))=false by simp[hc]]
    refine iteF ?_
    walk_at "r"
    refine⟨p,_,rfl,SqL.of hp,fun q gq=>?_⟩
    rw[q0G]
    generalize hGq:upd _ q _=H1
    have s1:=qp hGq gq
    have h1:=qo hGq
    walk_at "r"
    exact⟨q,ws,rfl,h1,hw,hl,fun ha r H' s' hr=>k ⟨hz,hc,ha⟩ r H' (s1.trans s') hr,fun ha H' s'=>ke (fun h=>ha h.2.2) H' (s1.trans s')⟩
   ·rw [show(!decide (((V.str z0::ws.map V.str).length:Int)=(m:Int)+1))=true by simp;omega]
    walk_at "r"
    refine q1L ?_
    walk_at "r"
    refine jc (by walk_at "k") (by omega) fun m1 h1=>?_
    refine jfs (y:=z) (b:=1000) (by omega) (by omega) (fun K h=>⟨_,rfl,h⟩) fun m2 h2=>?_
    refine jc (by walk_at "k") (by omega) fun m3 h3=>?_
    refine jfi (q1F (by omega) (by omega)) (by omega) (fun K h=>⟨_,rfl,h⟩) fun m4 h4=>?_
    refine jn fun y hy=>?_
    walk_at "r"
    exact ke (fun h=>hc h.2.1) _ (.refl _)
  ·rw [show(!decide (z0=z))=true by simp[hz]]
   walk_at "r"
   refine q1L ?_
   walk_at "r"
   refine jc (by walk_at "k") (by omega) fun m1 h1=>?_
   refine jfs (y:=z) (b:=1000) (by omega) (by omega) (fun K h=>⟨_,rfl,h⟩) fun m2 h2=>?_
   refine jc (by walk_at "k") (by omega) fun m3 h3=>?_
   refine jfi (q1F (by omega) (by omega)) (by omega) (fun K h=>⟨_,rfl,h⟩) fun m4 h4=>?_
   refine jn fun y hy=>?_
   walk_at "r"
   exact ke (fun h=>hz h.1) _ (.refl _)
theorem ok_pt (T:Txt mg cs)(TX:Tx K mg xs)(L:Laid K mg "part_of" q1q ["word"]):CalX P w K mg base 1 "part_of" ["word"] (spPt xs.NoCellar):=by
 obtain⟨t1,wO⟩:=T.wO
 obtain⟨t2,wM⟩:=T.wM
 obtain⟨t3,wN⟩:=T.wN
 obtain⟨t4,wH⟩:=T.wH
 refine L.calX (k:=0) q6T (fun vs H Q E h=>?_) (fun f cdv A outer s H vs Q E hr h=>?_)
 ·obtain ⟨z,rfl,_⟩:=h
  rfl
 ·obtain ⟨z,rfl,hz,k,ke⟩:=h
  refine⟨_,(qg (qQ (PW.pt (q23 (qr q0i (pv 0) qk (qB _)) (q1i (qr q0i (pv 0) qk (qB _))))) (qj (qw (qz (v:= .int 3) rfl wO ⟨_,rfl⟩))) qy)
   (qg (qQ (qr q0i (pv 0) qk (qB _)) (qj (qw (qz (v:= .int 4) rfl wM ⟨_,rfl⟩))) qy)
   (qg (qQ (qr q0i (pv 0) qk (qB _)) (qj (qw (qz (v:= .int 5) rfl wN ⟨_,rfl⟩))) qy)
   (qg (qQ (qr q0i (pv 0) qk (qB _)) (qj (qw (qz (v:= .int 6) rfl wH ⟨_,rfl⟩))) qy)
   (qj (q1m q0Y rfl rfl TX.wx TX.wE (qa (q1v (.cons qk (.cons (qaa (pv 0)) .nil))) qc))))))),?_⟩
  walk_at "r"
  refine ifd (fun h1=>?_) (fun h1=>?_)
  ·walk_at "r"
   exact k 0 3 (.inl ⟨.inl h1,rfl⟩) rfl
  walk_at "r"
  refine ifd (fun h2=>?_) (fun h2=>?_)
  ·walk_at "r"
   exact k 0 3 (.inl ⟨.inr h2,rfl⟩) rfl
  walk_at "r"
  refine ifd (fun h3=>?_) (fun h3=>?_)
  ·walk_at "r"
   exact k 1 4 (.inr (.inl ⟨h3,rfl⟩)) rfl
  walk_at "r"
  refine ifd (fun h4=>?_) (fun h4=>?_)
  ·walk_at "r"
   exact k 2 5 (.inr (.inr (.inl ⟨h4,rfl⟩))) rfl
  walk_at "r"
  refine ifd (fun h5=>?_) (fun h5=>?_)
  ·walk_at "r"
   exact k 3 6 (.inr (.inr (.inr ⟨h5,rfl⟩))) rfl
  walk_at "r"
  refine q1L ?_
  walk_at "r"
  refine jc (by walk_at "k") (by omega) fun m1 hm1=>?_
  refine jfq hz (by omega) (fun K h=>⟨_,rfl,h⟩) fun m2 hm2=>?_
  refine jn fun y hy=>?_
  walk_at "r"
  refine ke fun m hm=>?_
  rcases hm with⟨a|a,_⟩|⟨a,_⟩|⟨a,_⟩|⟨a,_⟩
  ·exact h1 a
  ·exact h2 a
  ·exact h3 a
  ·exact h4 a
  ·exact h5 a
end
def q18 (r lo hi:Int)(ws:List Str):Prop:=∃a b,ws=[a,b]/\isN a=true/\isN b=true/\vN a<r/\lo<=vN b/\vN b<=hi
def q4R (r:Int)(ws:List Str):Prop:=∃a b g ns,ws=a::b::g::ns/\isN a=true/\isN b=true/\ns.all isN=true/\vN a<r/\vN b<r/\vN a≠vN b/\q1T g (ns.map vN)=true
def q0F (C:Cl)(z0:Str)(ws:List Str):Prop:=
 ((z0="way"\/z0="drop")/\(C.things=[]/\C.levers=[]/\C.wheels=[])/\C.ways.length<20/\q4R C.rooms ws)\/
 (z0="thing"/\(C.levers=[]/\C.wheels=[])/\C.things.length<8/\q18 C.rooms 0 11 ws)\/
 (z0="lever"/\C.wheels=[]/\C.levers.length<4/\q18 C.rooms 1 255 ws)\/
 (z0="wheel"/\C.wheels.length<4/\q18 C.rooms 0 9 ws)
def gtOf (z:Str)(ns:List Int):Gt:=
 if z="door" then .door (ns.getD 0 0) else if z="need" then .need (ns.getD 0 0) else if z="bar" then .bar (ns.getD 0 0) else if z="wade" then .wade (ns.getD 0 0) (ns.getD 1 0) else if z="float" then .float (ns.getD 0 0) else .plain
def rowC (C:Cl)(z0:Str)(ws:List Str):Cl:=
 if z0="thing" then⟨C.rooms,C.fst,C.lst,C.ways,C.things++[(vN (ws.getD 0 ""),vN (ws.getD 1 ""))],C.levers,C.wheels,C.bars,C.water⟩
 else if z0="lever" then⟨C.rooms,C.fst,C.lst,C.ways,C.things,C.levers++[(vN (ws.getD 0 ""),vN (ws.getD 1 ""))],C.wheels,C.bars,C.water⟩
 else if z0="wheel" then⟨C.rooms,C.fst,C.lst,C.ways,C.things,C.levers,C.wheels++[(vN (ws.getD 0 ""),vN (ws.getD 1 ""))],C.bars,C.water⟩
 else⟨C.rooms,C.fst,C.lst,C.ways++[⟨vN (ws.getD 0 ""),vN (ws.getD 1 ""),gtOf (ws.getD 2 "") ((ws.drop 3).map vN),decide (z0="way")⟩],C.things,C.levers,C.wheels,C.bars,C.water⟩
theorem q5Z {z:Str}{ns:List Int}(h:q1T z ns=true):(gtOf z ns).word=z/\(gtOf z ns).ns=ns/\(gtOf z ns).ok:=by
 have nn:∀{t:Str} {ts:List Int},z=t->q14 t=some ts->ns.length=ts.length/\(List.zipWith chk ns ts).all id=true:=fun {t ts} e ht=>by
  subst e
  by_cases hl:ns.length=ts.length
  ·rw [q0E ht hl] at h
   exact⟨hl,h⟩
  ·rw [q35 ht hl] at h
   cases h
 have one:∀{t:Int},ns.length=[t].length/\(List.zipWith chk ns [t]).all id=true->∃n,ns=[n]/\0<=n/\n<=t:=fun {t} ⟨h1,h2⟩=>by
  obtain⟨n,rfl⟩:=List.length_eq_one_iff.mp h1
  exact⟨n,rfl,by simpa[chk] using h2⟩
 unfold gtOf
 by_cases h2:z="door"
 ·obtain ⟨n,rfl,a,b⟩:=one (nn h2 q1Z)
  rw[zM h2]
  exact⟨h2.symm,rfl,by show 0<=n/\n<12;omega⟩
 rw[zI h2]
 by_cases h3:z="need"
 ·obtain ⟨n,rfl,a,b⟩:=one (nn h3 q1Y)
  rw[zM h3]
  exact⟨h3.symm,rfl,by show 0<=n/\n<12;omega⟩
 rw[zI h3]
 by_cases h4:z="bar"
 ·obtain ⟨n,rfl,a,b⟩:=one (nn h4 q2e)
  rw[zM h4]
  exact⟨h4.symm,rfl,by show 0<=n/\n<8;omega⟩
 rw[zI h4]
 by_cases h5:z="wade"
 ·obtain ⟨hl,ha⟩:=nn h5 q1X
  obtain⟨n,m,rfl⟩:∃n m,ns=[n,m]:=match ns,hl with|[n,m],_=>⟨n,m,rfl⟩
  have ha:(0<=n/\n<=9)/\0<=m/\m<=11:=by simpa[chk] using ha
  rw[zM h5]
  exact⟨h5.symm,rfl,by show(0<=n/\n<10)/\0<=m/\m<12;omega⟩
 rw[zI h5]
 by_cases h6:z="float"
 ·obtain ⟨n,rfl,a,b⟩:=one (nn h6 q1E)
  rw[zM h6]
  exact⟨h6.symm,rfl,by show 0<=n/\n<10;omega⟩
 rw[zI h6]
 by_cases h1:z="plain"
 ·have:=(nn h1 q1D).1
  exact⟨h1.symm,(zaX.mp this).symm,trivial⟩
 ·rw [q2A (q2v h1 h2 h3 h4 h5 h6)] at h
  cases h
theorem q26 (C:Cl)(a b:Str):rowC C "thing" [a,b]=⟨C.rooms,C.fst,C.lst,C.ways,C.things++[(vN a,vN b)],C.levers,C.wheels,C.bars,C.water⟩:=zM rfl
theorem q27 (C:Cl)(a b:Str):rowC C "lever" [a,b]=⟨C.rooms,C.fst,C.lst,C.ways,C.things,C.levers++[(vN a,vN b)],C.wheels,C.bars,C.water⟩:=by
 unfold rowC
 rw[zI (by walk_at "k"),zM rfl]
 rfl
theorem q25 (C:Cl)(a b:Str):rowC C "wheel" [a,b]=⟨C.rooms,C.fst,C.lst,C.ways,C.things,C.levers,C.wheels++[(vN a,vN b)],C.bars,C.water⟩:=by
 unfold rowC
 rw[zI (by walk_at "k"),zI (by walk_at "k"),zM rfl]
 rfl
theorem q3z (C:Cl){z0:Str}(h:z0="way"\/z0="drop")(a b g:Str)(ns:List Str):rowC C z0 (a::b::g::ns)=⟨C.rooms,C.fst,C.lst,C.ways++[⟨vN a,vN b,gtOf g (ns.map vN),decide (z0="way")⟩],C.things,C.levers,C.wheels,C.bars,C.water⟩:=by
 unfold rowC
 rcases h with rfl|rfl
 ·rw [zI (by walk_at "k"),zI (by walk_at "k"),zI (by walk_at "k")]
  rfl
 ·rw [zI (by walk_at "k"),zI (by walk_at "k"),zI (by walk_at "k")]
  rfl
theorem row_ok {C:Cl}{z0:Str}{ws:List Str}(o:ClOk C)(h:q0F C z0 ws):ClOk (rowC C z0 ws):=by
 have sn:∀{α:Type} {p:α->Prop} {l:List α} {x:α},(∀y∈l,p y)->p x->∀y∈l++[x],p y:=fun {α p l x} h1 h2 y hy=>by
  rcases zad.mp hy with hy|hy
  ·exact h1 y hy
  ·rw [zL.mp hy];exact h2
 rcases h with⟨hz,_,hl,a,b,g,ns,rfl,h1,h2,h3,h4,h5,h6,h7⟩|⟨rfl,_,hl,a,b,rfl,h1,h2,h3,h4,h5⟩|⟨rfl,_,hl,a,b,rfl,h1,h2,h3,h4,h5⟩|⟨rfl,hl,a,b,rfl,h1,h2,h3,h4,h5⟩
 ·rw [q3z C hz]
  refine⟨o.r1,o.r2,o.f,o.l,by show(C.ways++_).length<=20;rw[zai];simp;omega,o.tl,o.ll,o.vl,sn o.w ⟨⟨q0U _,h4⟩,⟨q0U _,h5⟩,h6,(q5Z h7).2.2⟩,o.t,o.lv,o.wh,o.b,o.wa⟩
 ·rw [q26]
  refine⟨o.r1,o.r2,o.f,o.l,o.wl,by show(C.things++_).length<=8;rw[zai];simp;omega,o.ll,o.vl,o.w,sn o.t ⟨⟨q0U _,h3⟩,h4,by show vN b<12;omega⟩,o.lv,o.wh,o.b,o.wa⟩
 ·rw [q27]
  refine⟨o.r1,o.r2,o.f,o.l,o.wl,o.tl,by show(C.levers++_).length<=4;rw[zai];simp;omega,o.vl,o.w,o.t,sn o.lv ⟨⟨q0U _,h3⟩,h4,h5⟩,o.wh,o.b,o.wa⟩
 ·rw [q25]
  refine⟨o.r1,o.r2,o.f,o.l,o.wl,o.tl,o.ll,by show(C.wheels++_).length<=4;rw[zai];simp;omega,o.w,o.t,o.lv,sn o.wh ⟨⟨q0U _,h3⟩,h4,h5⟩,o.b,o.wa⟩
def snf {α:Type}(n:Nat)(f:Nat->α)(y:α):Nat->α:=fun i=>if i=n then y else f i
theorem q4n {α:Type}{n i:Nat}{f:Nat->α}{y:α}(h:i<n):snf n f y i=f i:=zI (by omega)
theorem q2V {α:Type}{n:Nat}{f:Nat->α}{y:α}:snf n f y n=y:=zM rfl
theorem q6y {α:Type}{l:List α}{x z:α}{i:Nat}(h:(l++[x])[i]? =some z):(i<l.length/\l[i]? =some z)\/(i=l.length/\z=x):=by
 by_cases hi:i<l.length
 ·rw [zak hi] at h
  exact .inl ⟨hi,h⟩
 ·rw [zah (by omega)] at h
  have:i - l.length=0:=by
   refine zcj fun q=>?_
   rw[List.getElem?_eq_none (by simp;omega)] at h
   cases h
  rw[this] at h
  exact .inr ⟨by omega,(zE h).symm⟩
theorem q31 {H:Hp}{zs:List V}{ys:Nat->Int×Int}{x:V}{y:Int×Int}(h:q38 H zs ys)(hx:q2t H x y.1 y.2):q38 H (zs++[x]) (snf zs.length ys y):=fun i z e=>by
 rcases q6y e with⟨h1,h2⟩|⟨h1,h2⟩
 ·rw [q4n h1];exact h i z h2
 ·subst h1 h2;rw[q2V];exact hx
theorem q7h {H:Hp}{zs:List V}{ys:Nat->Wy}{x:V}{y:Wy}(h:q6J H zs ys)(hx:q4Q H x y):q6J H (zs++[x]) (snf zs.length ys y):=fun i z e=>by
 rcases q6y e with⟨h1,h2⟩|⟨h1,h2⟩
 ·rw [q4n h1];exact h i z h2
 ·subst h1 h2;rw[q2V];exact hx
theorem q1n {r m lo hi:Int}{zs:List V}{ys:Nat->Int×Int}{x:V}{y:Int×Int}(h:q5Y r m lo hi zs ys):q5Y r m lo hi (zs++[x]) (snf zs.length ys y)↔((zs.length:Int)<m/\(0<=y.1/\y.1<r)/\lo<=y.2/\y.2<=hi):=by
 constructor
 ·rintro ⟨h1,h2⟩
  have:=h2 zs.length (by simp)
  rw[q2V] at this
  refine⟨by simp at h1;omega,this⟩
 ·rintro ⟨h1,h2⟩
  refine⟨by simp;omega,fun i hi=>?_⟩
  by_cases e:i=zs.length
  ·subst e;rw[q2V];exact h2
  ·have:i<zs.length:=by simp at hi;omega
   rw[q4n this];exact h.2 i this
theorem q4b {r:Int}{zs:List V}{ys:Nat->Wy}{x:V}{y:Wy}(h:q8x r zs ys):q8x r (zs++[x]) (snf zs.length ys y)↔(zs.length<20/\y.good r):=by
 constructor
 ·rintro ⟨h1,h2⟩
  have:=h2 zs.length (by simp)
  rw[q2V] at this
  exact⟨by simp at h1;omega,this⟩
 ·rintro ⟨h1,h2⟩
  refine⟨by simp;omega,fun i hi=>?_⟩
  by_cases e:i=zs.length
  ·subst e;rw[q2V];exact h2
  ·have:i<zs.length:=by simp at hi;omega
   rw[q4n this];exact h.2 i this
def spWo (C:Addr):Sp:=fun vs H Q E=>E2 fun(p:Addr) (ws:List Str)=>A6 (vs=[.ref p]) (H p=some (.lst (ws.map V.str))) ((∀y∈ws,Wok y)) (ws.length<=12) ((∀z0 a b g ns,ws=z0::a::b::g::ns->isN a=true->isN b=true->ns.all isN=true->∀(q t:Addr) (H':Hp),Same H H'->H' q=some (.tup [.int (vN a),.int (vN b),.ref t,.bl (decide (z0="way"))])->H' t=some (.tup (.str g::nV ns))->Q (.ref q) H')) (((∀z0 a b g ns,ws=z0::a::b::g::ns->¬(isN a=true/\isN b=true/\ns.all isN=true))->∀H',Same H H'->E (.ref C) none H'))
def spMo (K:W.Frag)(C:Addr):Sp:=fun vs H Q E=>E2 fun(p:Addr) (h:Hand)=>A5 (vs=[.ref p]) (H p=some (.tup h.vs)) (HandOk K H h) ((h.good->∀(r:Addr) (H':Hp),Same H H'->Made h r H'->Q (.ref r) H')) ((¬h.good->∀H',Same H H'->E (.ref C) none H'))
section
variable {P:Program}{w:World}{K:W.Frag}{mg:Str->Option Value}{base:Heap}{xs:Xs}{cs:Cs}
theorem ok_wo (T:Txt mg cs)(TX:Tx K mg xs)(L:Laid K mg "way_of" q21 ["words"])(wI:CalX P w K mg base 2 "numbers_of" ["words"] (spNo xs.NoCellar)):CalX P w K mg base 3 "way_of" ["words"] (spWo xs.NoCellar):=by
 refine L.calX (k:=2) q54 (fun vs H Q E h=>?_) (fun f cdv A outer s H vs Q E hr h=>?_)
 ·obtain ⟨p,ws,rfl,_⟩:=h
  rfl
 ·obtain ⟨p,ws,rfl,hp,hw,hl,k,ke⟩:=h
  have big:=qC
  refine⟨_,(qg (qQ (qr q2G (qx (lenK K) rfl T.wq q0k (qa (pv 0) qc)) qd (qB _)) (qj (q1m q0Y rfl rfl TX.wx TX.wE (qa qk qc))) qy)
   (qg (qI (i:=1) q54.nd rfl (Or.inl rfl) (qv (q2g K) (qJ (qa (qD (qq K) (pv 0) qd (fun _ _=>rfl)) qc)) (qV wI qS hr (by decide) rfl (qa (qU (q04 K) (pv 0) (qY qd) q0s) qc))))
   (qj (qw (qv (q2g K) (qV wI qS hr (by decide) rfl (qa (qU (q04 K) (pv 0) (qY qd) (qY qd)) qc)) (qJ (qa (pv 1) (qa (q1w q0i (qD (qq K) (pv 0) qd (fun _ _=>rfl)) qk (qB _)) qc)))))))),?_⟩
  walk_at "r"
  refine ifd (fun h=>?_) (fun h=>?_)
  ·walk_at "r"
   refine q1L ?_
   walk_at "r"
   exact ke (fun z0 a b g ns e=>by subst e;simp at h;omega) _ (.refl _)
  obtain⟨z0,a,b,g,ns,rfl⟩:∃z0 a b g ns,ws=z0::a::b::g::ns:=match ws,h with
   |z0::a::b::g::ns,_=>⟨_,_,_,_,_,rfl⟩
   |[],h=>absurd (by simp) h
   |[_],h=>absurd (by simp) h
   |[_,_],h=>absurd (by simp) h
   |[_,_,_],h=>absurd (by simp) h
  have hp':H p=some (.lst (V.str z0::V.str a::V.str b::V.str g::ns.map V.str)):=hp
  have hnl:ns.length<=8:=by simp at hl;omega
  walk_at "r"
  refine q0f (SqL.of hp') (qE (j:=3) rfl) ?_
  walk_at "r"
  intro t gt
  generalize hGt:upd _ t _=H1
  have s1:=qp hGt gt
  have h1:=qo hGt
  have hp1:=s1 _ _ hp'
  walk_at "r"
  refine⟨p,_,rfl,SqL.of hp1,fun q gq=>?_⟩
  rw[show(some (4:Int))=some (((4:Nat):Int)) from rfl,q5v _ 4 (by simp)]
  generalize hGq:upd _ q _=H2
  have s2:=qp hGq gq
  have h2:H2 q=some (.lst (ns.map V.str)):=qo hGq
  have s12:=s1.trans s2
  walk_at "r"
  refine⟨q,ns,rfl,h2,fun y hy=>hw y (by simp[hy]),by omega,fun hns r H3 s3 h3=>?_,fun hns H3 s3=>ke (fun _ _ _ _ _ e z=>by cases e;exact hns z.2.2) _ (s12.trans s3)⟩
  refine q3b (s3 _ _ (s2 _ _ h1)) h3 (by simp[nV];omega) fun g' H4 s4 h4=>?_
  have s14:=s12.trans (s3.trans s4)
  have hp4:=s14 _ _ hp'
  try simp only[List.set_cons_succ,List.set_cons_zero]
  walk_at "r"
  refine⟨p,_,rfl,SqL.of hp4,fun q5 gq5=>?_⟩
  rw[show(some (1:Int))=some (((1:Nat):Int)) from rfl,show(some (3:Int))=some (((3:Nat):Int)) from rfl,q8O _ 1 3 (by simp) (by simp)]
  generalize hGq5:upd _ q5 _=H5
  have s5:=qp hGq5 gq5
  have h5:H5 q5=some (.lst ([a,b].map V.str)):=qo hGq5
  walk_at "r"
  refine⟨q5,[a,b],rfl,h5,fun y hy=>hw y (by simp at hy;rcases hy with rfl|rfl<;>simp),by simp,fun hab r6 H6 s6 h6=>?_,fun hab H6 s6=>ke (fun _ _ _ _ _ e z=>by cases e;exact hab (by simp[z.1,z.2.1])) _ (s14.trans (s5.trans s6))⟩
  have s16:=s14.trans (s5.trans s6)
  have hp6:=s16 _ _ hp'
  walk_at "r"
  intro t7 gt7
  generalize hGt7:upd _ t7 _=H7
  have s7:=qp hGt7 gt7
  have h7:=qo hGt7
  refine q3b (s7 _ _ h6) h7 (by simp[nV];omega) fun g8 H8 s8 h8=>?_
  walk_at "r"
  simp only[List.all_cons,List.all_nil,Bool.and_true,Bool.and_eq_true] at hab
  exact k z0 a b g ns rfl hab.1 hab.2 hns g8 g' H8 (s16.trans (s7.trans s8)) h8 (s8 _ _ (s7 _ _ (s6 _ _ (s5 _ _ h4))))
theorem ok_mo {d1 d2:Tok}(T:Txt mg cs)(TX:Tx K mg xs)(L:Laid K mg "made_of" q1r ["parts"])(waV:CalDX P w K mg base 4 "cellar" ["rooms","first","last","ways","things","levers","wheels","bars","water"] (spMkC K xs.NoCellar) q17 [.none,.none,.none,.int 0 d1,.int 0 d2]):CalX P w K mg base 5 "made_of" ["parts"] (spMo K xs.NoCellar):=by
 obtain⟨t0,vI⟩:=T.vI
 obtain⟨t1,vG⟩:=T.vG
 obtain⟨t2,wao⟩:=T.wao
 obtain⟨t3,wO⟩:=T.wO
 obtain⟨t4,wM⟩:=T.wM
 obtain⟨t5,wN⟩:=T.wN
 obtain⟨t6,wH⟩:=T.wH
 obtain⟨t7,wB⟩:=T.wB
 obtain⟨t8,wz⟩:=T.wz
 refine L.calX (k:=4) q6U (fun vs H Q E h=>?_) (fun f cdv A outer s H vs Q E hr h=>?_)
 ·obtain ⟨p,h,rfl,_⟩:=h
  rfl
 ·obtain ⟨p,h,rfl,hp,o,k,ke⟩:=h
  refine⟨_,(qj (qw (q9o waV qS (q62 d1 d2) (q60 d1 d2) hr (by decide) rfl (pa_c (qD (qF K) (pv 0) (qz (v:= .int 0) rfl vI ⟨_,rfl⟩) (fun _ _=>rfl)) (pa_c (qD (qF K) (pv 0) (qz (v:= .int 1) rfl vG ⟨_,rfl⟩) (fun _ _=>rfl)) (pa_c (qD (qF K) (pv 0) (qz (v:= .int 2) rfl wao ⟨_,rfl⟩) (fun _ _=>rfl)) (pa_c (qD (qF K) (pv 0) (qz (v:= .int 3) rfl wO ⟨_,rfl⟩) (fun _ _=>rfl)) (pa_c (qD (qF K) (pv 0) (qz (v:= .int 4) rfl wM ⟨_,rfl⟩) (fun _ _=>rfl)) (pa_c (qD (qF K) (pv 0) (qz (v:= .int 5) rfl wN ⟨_,rfl⟩) (fun _ _=>rfl)) (pa_c (qD (qF K) (pv 0) (qz (v:= .int 6) rfl wH ⟨_,rfl⟩) (fun _ _=>rfl)) (pa_c (qD (qF K) (pv 0) (qz (v:= .int 7) rfl wB ⟨_,rfl⟩) (fun _ _=>rfl)) (pa_c (qD (qF K) (pv 0) (qz (v:= .int 8) rfl wz ⟨_,rfl⟩) (fun _ _=>rfl)) qc)))))))))))),?_⟩
  unfold Hand.vs at hp
  walk_at "r"
  exact⟨h,rfl,o,k,ke⟩
end
def q0u (C:Cl):List Nat:=[C.ways.length,C.things.length,C.levers.length,C.wheels.length]
def q1c (C:Cl)(m:Nat):Bool:=(((q0u C).drop (m+1)).map fun n:Nat=>decide ((0:Int)<(n:Int))).any id
theorem q8P {C:Cl}{v1 v2 v3 v4:Addr}{m:Nat}{j:Int}(h:m<=3)(hj:j=3+(m:Int)):cutV (vsOf C v1 v2 v3 v4) (some (j+1)) (some (6+1))=([v1,v2,v3,v4].drop (m+1)).map V.ref:=by
 rw[show j+1=((4+m:Nat):Int) by omega,show((6:Int)+1)=((7:Nat):Int) from rfl,q8O _ (4+m) 7 (by simp[vsOf];omega) (by simp[vsOf])]
 match m,h with
 |0,_=>rfl
 |1,_=>rfl
 |2,_=>rfl
 |3,_=>rfl
theorem len0 {α:Type}{l:List α}:decide ((0:Int)<(l.length:Int))=false↔l=[]:=by
 rw[decide_eq_false_iff_not]
 constructor
 ·intro h
  exact zaX.mp (by omega)
 ·rintro rfl
  simp
theorem q8k {C:Cl}:q1c C 0=false↔C.things=[]/\C.levers=[]/\C.wheels=[]:=by
 simp only[q1c,q0u,List.drop_succ_cons,List.drop_zero,List.map_cons,List.map_nil,List.any_cons,List.any_nil,Bool.or_false,Bool.or_eq_false_iff,id,len0]
theorem q8j {C:Cl}:q1c C 1=false↔C.levers=[]/\C.wheels=[]:=by
 simp only[q1c,q0u,List.drop_succ_cons,List.drop_zero,List.map_cons,List.map_nil,List.any_cons,List.any_nil,Bool.or_false,Bool.or_eq_false_iff,id,len0]
theorem q8i {C:Cl}:q1c C 2=false↔C.wheels=[]:=by
 simp only[q1c,q0u,List.drop_succ_cons,List.drop_zero,List.map_cons,List.map_nil,List.any_cons,List.any_nil,Bool.or_false,Bool.or_eq_false_iff,id,len0]
theorem q6o {z:Str}{m n:Nat}(h:q1J z m)(h2:q1J z n):m=n:=by
 rcases h with⟨rfl|rfl,rfl⟩|⟨rfl,rfl⟩|⟨rfl,rfl⟩|⟨rfl,rfl⟩<;>rcases h2 with⟨a|a,rfl⟩|⟨a,rfl⟩|⟨a,rfl⟩|⟨a,rfl⟩<;>first|rfl|(exfalso;revert a;walk_at "k")
theorem q4t {C:Cl}{z0:Str}{ws:List Str}(g:q0F C z0 ws):∃m,q1J z0 m/\q1c C m=false:=by
 rcases g with⟨z,e,_⟩|⟨z,e,_⟩|⟨z,e,_⟩|⟨z,_⟩
 ·exact ⟨0,.inl ⟨z,rfl⟩,q8k.mpr e⟩
 ·exact ⟨1,.inr (.inl ⟨z,rfl⟩),q8j.mpr e⟩
 ·exact ⟨2,.inr (.inr (.inl ⟨z,rfl⟩)),q8i.mpr e⟩
 ·exact ⟨3,.inr (.inr (.inr ⟨z,rfl⟩)),rfl⟩
theorem q6u {C:Cl}{z0:Str}{ws:List Str}{m:Nat}(h:q0F C z0 ws)(hm:q1J z0 m):q1c C m=false:=by
 obtain⟨n,h1,h2⟩:=q4t h
 rw[q6o hm h1]
 exact h2
theorem q6h {C:Cl}{z0:Str}{ws:List Str}(hz:z0="way"\/z0="drop")(g:q0F C z0 ws):C.ways.length<20/\q4R C.rooms ws:=by
 rcases g with⟨_,_,g⟩|⟨rfl,_⟩|⟨rfl,_⟩|⟨rfl,_⟩
 ·exact g
 all_goals (exfalso;revert hz;walk_at "k")
theorem q3n {C:Cl}{ws:List Str}(g:q0F C "thing" ws):C.things.length<8/\q18 C.rooms 0 11 ws:=by
 rcases g with⟨h,_⟩|⟨h,_,g⟩|⟨h,_⟩|⟨h,_⟩
 ·exact absurd h (by walk_at "k")
 ·exact g
 ·exact absurd h (by walk_at "k")
 ·exact absurd h (by walk_at "k")
theorem q3o {C:Cl}{ws:List Str}(g:q0F C "lever" ws):C.levers.length<4/\q18 C.rooms 1 255 ws:=by
 rcases g with⟨h,_⟩|⟨h,_⟩|⟨h,_,g⟩|⟨h,_⟩
 ·exact absurd h (by walk_at "k")
 ·exact absurd h (by walk_at "k")
 ·exact g
 ·exact absurd h (by walk_at "k")
theorem q3m {C:Cl}{ws:List Str}(g:q0F C "wheel" ws):C.wheels.length<4/\q18 C.rooms 0 9 ws:=by
 rcases g with⟨h,_⟩|⟨h,_⟩|⟨h,_⟩|⟨h,g⟩
 ·exact absurd h (by walk_at "k")
 ·exact absurd h (by walk_at "k")
 ·exact absurd h (by walk_at "k")
 ·exact g
theorem qb7 {r lo hi:Int}{ws:List Str}(g:q18 r lo hi ws):ws.length=2/\ws.all isN=true:=by
 obtain⟨a,b,rfl,h1,h2,_⟩:=g
 exact⟨rfl,by simp[h1,h2]⟩
def spWr (K:W.Frag)(X:Addr):Sp:=fun vs H Q E=>E5 fun(c p:Addr) (C:Cl) (z0:Str) (ws:List Str)=>A9 (vs=[.ref c,.ref p]) (ClAt H c C) (ClOk C) (H p=some (.lst (V.str z0::ws.map V.str))) (Wok z0) ((∀y∈ws,Wok y)) (ws.length<=11) ((q0F C z0 ws->∀(r:Addr) (H':Hp),Same H H'->ClAt H' r (rowC C z0 ws)->Q (.ref r) H')) ((¬q0F C z0 ws->∀H',Same H H'->E (.ref X) none H'))
section
variable {P:Program}{w:World}{K:W.Frag}{mg:Str->Option Value}{base:Heap}{xs:Xs}{cs:Cs}
theorem ok_wr (T:Txt mg cs)(TX:Tx K mg xs)(L:Laid K mg "with_row" q0Q ["made","words"])(waQ:CalX P w K mg base 1 "part_of" ["word"] (spPt xs.NoCellar))(waW:CalX P w K mg base 3 "way_of" ["words"] (spWo xs.NoCellar))(wr:CalX P w K mg base 3 "numbers_behind" ["word","words","many"] (spNb xs.NoCellar))(wR:Cal P w K mg base 1 "changed" ["parts","place","part"] spCh)(wL:CalX P w K mg base 5 "made_of" ["parts"] (spMo K xs.NoCellar)):CalX P w K mg base 6 "with_row" ["made","words"] (spWr K xs.NoCellar):=by
 obtain⟨t3,wO⟩:=T.wO
 obtain⟨t6,wH⟩:=T.wH
 refine L.calX (k:=5) q2w (fun vs H Q E h=>?_) (fun f cdv A outer s H vs Q E hr h=>?_)
 ·obtain ⟨c,p,C,z0,ws,rfl,_⟩:=h
  rfl
 ·obtain ⟨c,p,C,z0,ws,rfl,hC,oC,hp,hz,hw,hl,k,ke⟩:=h
  obtain⟨v1,v2,v3,v4,hc,m1,m2,m3,m4⟩:=hC.ex
  have hc':H c=some (.tup (vsOf C v1 v2 v3 v4)):=hc
  obtain⟨as,ha1,ra⟩:=id m1
  obtain⟨bs,hb1,rb⟩:=id m2
  obtain⟨cs',hc1,rc⟩:=id m3
  obtain⟨ds,hd1,rd⟩:=id m4
  have o0:HandOk K H (q2m C v1 v2 v3 v4 as bs cs' ds):=q6w oC ⟨_,rfl,SqT.of ha1⟩ ⟨_,rfl,SqT.of hb1⟩ ⟨_,rfl,SqT.of hc1⟩ ⟨_,rfl,SqT.of hd1⟩ ra rb rc rd
  have g0:(q2m C v1 v2 v3 v4 as bs cs' ds).good:=q4a oC ra.1 rb.1 rc.1 rd.1
  have big:=qC
  refine⟨_,(qg (qI (i:=2) q2w.nd rfl (Or.inl rfl) (qV waQ qS hr (by decide) rfl (qa (qD (qq K) (pv 1) qd (fun _ _=>rfl)) qc)))
   (qg (qQ (q1a (qx (q8X K rfl) rfl T.wcl bt_any (qa (q7X (q0N (q1k (N:=["later"]) (own:=1) (caps:=[]) ["made","words","part","row"] (qe q0Q) (by walk_at "k")) rfl (q1e K (qU (q3k K) (pv 0) (qY (qv q0S (pv 2) qd)) (qY (qv q0S (qz (v:= .int 6) rfl wH ⟨_,rfl⟩) qd)))) (fun _ _ _ _=>(qM (i:=0) (show List.Nodup (["later"]:List Str) by walk_at "k") rfl (Or.inl rfl))) (fun _ _ _ _=>q1u) (fun _ _ _ _=>(q1w q5l (qx (lenK K) rfl T.wq q0k (qa (pv 0) qc)) qd (qB _))))) qc))) (qj (q1m q0Y rfl rfl TX.wx TX.wE (qa qk qc))) qy)
   (qg (qI (i:=3) q2w.nd rfl (Or.inl rfl) (q4w (qr q0i (pv 2) (qz (v:= .int 3) rfl wO ⟨_,rfl⟩) (qB _)) (qV waW qS hr (by decide) rfl (qa (pv 1) qc)) (qV wr qS hr (by decide) rfl (qa (qD (qq K) (pv 1) qd (fun _ _=>rfl)) (qa (pv 1) (qa qd qc))))))
   (qj (qw (qV wL qS hr (by decide) rfl (qa (qR wR hr (by decide) rfl (qa (pv 0) (qa (pv 2) (qa (qv (q2g K) (qD (qF K) (pv 0) (pv 2) (fun _ _=>rfl)) (qJ (qa (pv 3) qc))) qc)))) qc))))))),?_⟩
  walk_at "r"
  refine⟨z0,rfl,hz,fun m j hm hj=>?_,fun hm=>ke (fun g=>let ⟨n,h,_⟩:=q4t g;hm n h) _ (.refl _)⟩
  have hm3:m<=3:=by rcases hm with⟨_,rfl⟩|⟨_,rfl⟩|⟨_,rfl⟩|⟨_,rfl⟩<;>omega
  have tl:∀{α:Type} {At:Hp->Addr->α->Prop} {q:Addr} {ys:List α},q3R At H q ys->∃zs:List V,H q=some (.tup zs)/\zs.length=ys.length:=fun⟨ps,a,b⟩=>⟨_,a,by rw[yC,b.1]⟩
  have hq0:∀(i:Nat) (q:Addr),[v1,v2,v3,v4][i]? =some q->∃zs:List V,H q=some (.tup zs)/\(q0u C)[i]? =some zs.length:=fun i q e=>by
   rcases i with _|_|_|_|i
   ·cases e;obtain⟨zs,a,b⟩:=tl m1;exact⟨zs,a,by rw[b];rfl⟩
   ·cases e;obtain⟨zs,a,b⟩:=tl m2;exact⟨zs,a,by rw[b];rfl⟩
   ·cases e;obtain⟨zs,a,b⟩:=tl m3;exact⟨zs,a,by rw[b];rfl⟩
   ·cases e;obtain⟨zs,a,b⟩:=tl m4;exact⟨zs,a,by rw[b];rfl⟩
   ·simp at e
  walk_at "r"
  refine qaP hc' fun r1 H1 s1 h1=>?_
  rw[q8P hm3 hj] at h1
  walk_at "r"
  intro D hD
  refine q1I (([v1,v2,v3,v4].drop (m+1)).map V.ref) (fun i σ H'=>E1 fun v0=>A3 (σ=[v0]) (Same H1 H') (H' D=some (.lst ((((((q0u C).drop (m+1)).take i).map fun n:Nat=>decide ((0:Int)<(n:Int)))).map V.bl)))) ⟨none,rfl,Same.upd hD,by rw[qh];rfl⟩ ?_ ?_ ?_
  ·rintro i σ H' ⟨_,rfl,s2,_⟩
   exact SqT.of (s2 _ _ h1)
  ·rintro i y σ H' hy ⟨v0,rfl,s2,hd⟩
   rw[zaq,zb7] at hy
   obtain⟨q,hq,rfl⟩:=zaG.mp hy
   obtain⟨zs,a1,a2⟩:=hq0 _ _ hq
   have a3:=s2 _ _ (s1 _ _ a1)
   walk_at "r"
   refine⟨_,hd,by simp[q0u];omega,_,rfl,s2.put hD,?_⟩
   rw[qh,zas,zb7,a2,zY,zY]
   rfl
  rintro σ H2 ⟨_,rfl,s2,hd⟩
  rw[yC,show([v1,v2,v3,v4].drop (m+1)).length=((q0u C).drop (m+1)).length by simp[q0u],zac] at hd
  walk_at "r"
  refine⟨D,_,rfl,SqL.of hd,?_⟩
  rw[show List.any _ id=q1c C m from rfl]
  have s12:=s1.trans s2
  have hp2:=s12 _ _ hp
  have hc2:=s12 _ _ hc
  cases eb:q1c C m with
  |true=>
   walk_at "r"
   refine q1L ?_
   walk_at "r"
   exact ke (fun g=>by have:=q6u g hm;rw[eb] at this;cases this) _ s12
  |false=>
   walk_at "r"
   rcases hm with⟨hz0,rfl⟩|⟨rfl,rfl⟩|⟨rfl,rfl⟩|⟨rfl,rfl⟩
   ·obtain rfl:j=3:=hj
    refine ifd (fun _=>?_) (fun h=>absurd rfl h)
    walk_at "r"
    refine⟨p,z0::ws,rfl,hp2,fun y hy=>by rcases zJ.mp hy with rfl|hy;exact hz;exact hw y hy,by simp;omega,fun z a b g ns e ha hb hns q t H3 s3 hq ht=>?_,fun hbad H3 s3=>ke (fun g=>?_) _ (s12.trans s3)⟩
    ·cases e
     have s13:=s12.trans s3
     have hc3:=s13 _ _ hc
     walk_at "r"
     intro t4 gt
     generalize hGt:upd _ t4 _=H4
     have s4:=qp hGt gt
     have h4:=qo hGt
     have s14:=s13.trans s4
     have l20:=oC.wl
     have e1:=ra.1
     refine q3b (s14 _ _ ha1) h4 (by simp;omega) fun u H5 s5 h5=>?_
     have s15:=s14.trans s5
     walk_at "r"
     refine⟨c,_,3,.ref u,rfl,s15 _ _ hc,rfl,by decide,fun r6 H6 s6 h6=>?_⟩
     have s16:=s15.trans s6
     have s36:=s4.trans (s5.trans s6)
     have o6:=o0.mono s16
     have hwy:∀y∈a::b::g::ns,Wok y:=hw
     have hns':∀n∈ns.map vN,Sml n:=fun n hn=>by
      obtain⟨z,hz,rfl⟩:=zaw.mp hn
      exact(hwy z (by simp[hz])).sml (zH.mp hns z hz)
     have wi:q4Q H6 (.ref q) ⟨vN a,vN b,g,ns.map vN,decide (z0="way")⟩:=⟨q,t,rfl,s36 _ _ hq,by rw[s36 _ _ ht];simp[nV],by simp;simp at hl;omega,(hwy a (by simp)).sml ha,(hwy b (by simp)).sml hb,by have:=(hwy g (by simp)).rep;show(reprText g).length<=2000;omega,hns'⟩
     walk_at "r"
     refine⟨r6,{q2m C v1 v2 v3 v4 as bs cs' ds with v1:= .ref u,z1:=as.map V.ref++[.ref q],y1:=snf (as.map V.ref).length (q2m C v1 v2 v3 v4 as bs cs' ds).y1 ⟨vN a,vN b,g,ns.map vN,decide (z0="way")⟩},rfl,h6,⟨o6.sr,o6.sr1,o6.sf,o6.sl,o6.sb,o6.sw,⟨u,rfl,SqT.of (s6 _ _ h5)⟩,o6.i2,o6.i3,o6.i4,q7h o6.w1 wi,o6.w2,o6.w3,o6.w4,by simp;omega,o6.l2,o6.l3,o6.l4⟩,fun hg r H7 s7 mm=>?_,fun hg H7 s7=>ke (fun g=>hg ?_) _ (s16.trans s7)⟩
     ·obtain ⟨y1,y2,y3,y4,y5⟩:=(q4b g0.g1).mp hg.g1
      replace y1:(as.map V.ref).length<20:=y1
      rw[yC,e1] at y1
      obtain⟨p1,p2,p3,p4,x0,x1,x2,x3,x4⟩:=mm
      have s17:=s16.trans s7
      refine k (.inl ⟨hz0,q8k.mp eb,y1,a,b,g,ns,rfl,ha,hb,hns,y2.2,y3.2,y4,y5⟩) r H7 s17 ?_
      rw[q3z C hz0]
      refine⟨p1,p2,p3,p4,x0,q3h (ra.mono fun _ _=>q1C.mono s17.ts) x1 ⟨t,s7 _ _ (s36 _ _ hq),?_⟩,⟨bs,x2,rb.mono fun _ _=>qH.mono s17.ts⟩,⟨cs',x3,rc.mono fun _ _=>qH.mono s17.ts⟩,⟨ds,x4,rd.mono fun _ _=>qH.mono s17.ts⟩⟩
      obtain⟨gw,gn,_⟩:=q5Z y5
      rw[s7 _ _ (s36 _ _ ht),Gt.vs_eq,gw,gn]
      simp[nV]
     ·obtain ⟨y1,a',b',g',ns',e,_,_,_,y2,y3,y4,y5⟩:=q6h hz0 g
      cases e
      exact⟨g0.r,g0.f,g0.l,g0.b,g0.w,(q4b g0.g1).mpr ⟨by show(as.map V.ref).length<20;rw[yC,e1];exact y1,⟨q0U _,y2⟩,⟨q0U _,y3⟩,y4,y5⟩,g0.g2,g0.g3,g0.g4⟩
    ·obtain ⟨_,a,b,g',ns,rfl,h1,h2,h3,_⟩:=q6h hz0 g
     exact hbad z0 a b g' ns rfl ⟨h1,h2,h3⟩
   ·obtain rfl:j=4:=hj
    refine ifd (fun h=>absurd h (by decide)) (fun _=>?_)
    walk_at "r"
    refine⟨"thing",p,"thing",ws,2,rfl,hp2,by walk_at "k",by omega,hw,by omega,fun hg q H3 s3 hq=>?_,fun hg H3 s3=>ke (fun g=>hg ⟨rfl,qb7 (q3n g).2⟩) _ (s12.trans s3)⟩
    obtain⟨a,b,rfl⟩:∃a b,ws=[a,b]:=match ws,hg.2.1 with|[a,b],_=>⟨a,b,rfl⟩
    obtain⟨ha,hb⟩:isN a=true/\isN b=true:=by simpa using hg.2.2
    have hq:H3 q=some (.tup [.int (vN a),.int (vN b)]):=hq
    have s13:=s12.trans s3
    have hc3:=s13 _ _ hc
    walk_at "r"
    intro t4 gt
    generalize hGt:upd _ t4 _=H4
    have s4:=qp hGt gt
    have h4:=qo hGt
    have s14:=s13.trans s4
    have l20:=oC.tl
    have e1:=rb.1
    refine q3b (s14 _ _ hb1) h4 (by simp;omega) fun u H5 s5 h5=>?_
    have s15:=s14.trans s5
    walk_at "r"
    refine⟨c,_,4,.ref u,rfl,s15 _ _ hc,rfl,by decide,fun r6 H6 s6 h6=>?_⟩
    have s16:=s15.trans s6
    have s36:=s4.trans (s5.trans s6)
    have o6:=o0.mono s16
    have pi:q2t H6 (.ref q) (vN a) (vN b):=⟨q,rfl,s36 _ _ hq,(hw a (by simp)).sml ha,(hw b (by simp)).sml hb⟩
    walk_at "r"
    refine⟨r6,{q2m C v1 v2 v3 v4 as bs cs' ds with v2:= .ref u,z2:=bs.map V.ref++[.ref q],y2:=snf (bs.map V.ref).length (q2m C v1 v2 v3 v4 as bs cs' ds).y2 (vN a,vN b)},rfl,h6,⟨o6.sr,o6.sr1,o6.sf,o6.sl,o6.sb,o6.sw,o6.i1,⟨u,rfl,SqT.of (s6 _ _ h5)⟩,o6.i3,o6.i4,o6.w1,q31 o6.w2 pi,o6.w3,o6.w4,o6.l1,by simp;omega,o6.l3,o6.l4⟩,fun hg r H7 s7 mm=>?_,fun hg H7 s7=>ke (fun g=>hg ?_) _ (s16.trans s7)⟩
    ·obtain ⟨y1,y2,y3,y4⟩:=(q1n g0.g2).mp hg.g2
     replace y1:(((bs.map V.ref).length:Nat):Int)<8:=y1
     rw[yC,e1] at y1
     obtain⟨p1,p2,p3,p4,x0,x1,x2,x3,x4⟩:=mm
     have s17:=s16.trans s7
     refine k (.inr (.inl ⟨rfl,q8j.mp eb,by omega,a,b,rfl,ha,hb,y2.2,y3,y4⟩)) r H7 s17 ?_
     rw[q26]
     exact⟨p1,p2,p3,p4,x0,⟨as,x1,ra.mono fun _ _=>q1C.mono s17.ts⟩,q3h (rb.mono fun _ _=>qH.mono s17.ts) x2 (s7 _ _ (s36 _ _ hq)),⟨cs',x3,rc.mono fun _ _=>qH.mono s17.ts⟩,⟨ds,x4,rd.mono fun _ _=>qH.mono s17.ts⟩⟩
    ·obtain ⟨y1,a',b',e,_,_,y2,y3,y4⟩:=q3n g
     cases e
     exact⟨g0.r,g0.f,g0.l,g0.b,g0.w,g0.g1,(q1n g0.g2).mpr ⟨by show(((bs.map V.ref).length:Nat):Int)<8;rw[yC,e1];omega,⟨q0U _,y2⟩,y3,y4⟩,g0.g3,g0.g4⟩
   ·obtain rfl:j=5:=hj
    refine ifd (fun h=>absurd h (by decide)) (fun _=>?_)
    walk_at "r"
    refine⟨"lever",p,"lever",ws,2,rfl,hp2,by walk_at "k",by omega,hw,by omega,fun hg q H3 s3 hq=>?_,fun hg H3 s3=>ke (fun g=>hg ⟨rfl,qb7 (q3o g).2⟩) _ (s12.trans s3)⟩
    obtain⟨a,b,rfl⟩:∃a b,ws=[a,b]:=match ws,hg.2.1 with|[a,b],_=>⟨a,b,rfl⟩
    obtain⟨ha,hb⟩:isN a=true/\isN b=true:=by simpa using hg.2.2
    have hq:H3 q=some (.tup [.int (vN a),.int (vN b)]):=hq
    have s13:=s12.trans s3
    have hc3:=s13 _ _ hc
    walk_at "r"
    intro t4 gt
    generalize hGt:upd _ t4 _=H4
    have s4:=qp hGt gt
    have h4:=qo hGt
    have s14:=s13.trans s4
    have l20:=oC.ll
    have e1:=rc.1
    refine q3b (s14 _ _ hc1) h4 (by simp;omega) fun u H5 s5 h5=>?_
    have s15:=s14.trans s5
    walk_at "r"
    refine⟨c,_,5,.ref u,rfl,s15 _ _ hc,rfl,by decide,fun r6 H6 s6 h6=>?_⟩
    have s16:=s15.trans s6
    have s36:=s4.trans (s5.trans s6)
    have o6:=o0.mono s16
    have pi:q2t H6 (.ref q) (vN a) (vN b):=⟨q,rfl,s36 _ _ hq,(hw a (by simp)).sml ha,(hw b (by simp)).sml hb⟩
    walk_at "r"
    refine⟨r6,{q2m C v1 v2 v3 v4 as bs cs' ds with v3:= .ref u,z3:=cs'.map V.ref++[.ref q],y3:=snf (cs'.map V.ref).length (q2m C v1 v2 v3 v4 as bs cs' ds).y3 (vN a,vN b)},rfl,h6,⟨o6.sr,o6.sr1,o6.sf,o6.sl,o6.sb,o6.sw,o6.i1,o6.i2,⟨u,rfl,SqT.of (s6 _ _ h5)⟩,o6.i4,o6.w1,o6.w2,q31 o6.w3 pi,o6.w4,o6.l1,o6.l2,by simp;omega,o6.l4⟩,fun hg r H7 s7 mm=>?_,fun hg H7 s7=>ke (fun g=>hg ?_) _ (s16.trans s7)⟩
    ·obtain ⟨y1,y2,y3,y4⟩:=(q1n g0.g3).mp hg.g3
     replace y1:(((cs'.map V.ref).length:Nat):Int)<4:=y1
     rw[yC,e1] at y1
     obtain⟨p1,p2,p3,p4,x0,x1,x2,x3,x4⟩:=mm
     have s17:=s16.trans s7
     refine k (.inr (.inr (.inl ⟨rfl,q8i.mp eb,by omega,a,b,rfl,ha,hb,y2.2,y3,y4⟩))) r H7 s17 ?_
     rw[q27]
     exact⟨p1,p2,p3,p4,x0,⟨as,x1,ra.mono fun _ _=>q1C.mono s17.ts⟩,⟨bs,x2,rb.mono fun _ _=>qH.mono s17.ts⟩,q3h (rc.mono fun _ _=>qH.mono s17.ts) x3 (s7 _ _ (s36 _ _ hq)),⟨ds,x4,rd.mono fun _ _=>qH.mono s17.ts⟩⟩
    ·obtain ⟨y1,a',b',e,_,_,y2,y3,y4⟩:=q3o g
     cases e
     exact⟨g0.r,g0.f,g0.l,g0.b,g0.w,g0.g1,g0.g2,(q1n g0.g3).mpr ⟨by show(((cs'.map V.ref).length:Nat):Int)<4;rw[yC,e1];omega,⟨q0U _,y2⟩,y3,y4⟩,g0.g4⟩
   ·obtain rfl:j=6:=hj
    refine ifd (fun h=>absurd h (by decide)) (fun _=>?_)
    walk_at "r"
    refine⟨"wheel",p,"wheel",ws,2,rfl,hp2,by walk_at "k",by omega,hw,by omega,fun hg q H3 s3 hq=>?_,fun hg H3 s3=>ke (fun g=>hg ⟨rfl,qb7 (q3m g).2⟩) _ (s12.trans s3)⟩
    obtain⟨a,b,rfl⟩:∃a b,ws=[a,b]:=match ws,hg.2.1 with|[a,b],_=>⟨a,b,rfl⟩
    obtain⟨ha,hb⟩:isN a=true/\isN b=true:=by simpa using hg.2.2
    have hq:H3 q=some (.tup [.int (vN a),.int (vN b)]):=hq
    have s13:=s12.trans s3
    have hc3:=s13 _ _ hc
    walk_at "r"
    intro t4 gt
    generalize hGt:upd _ t4 _=H4
    have s4:=qp hGt gt
    have h4:=qo hGt
    have s14:=s13.trans s4
    have l20:=oC.vl
    have e1:=rd.1
    refine q3b (s14 _ _ hd1) h4 (by simp;omega) fun u H5 s5 h5=>?_
    have s15:=s14.trans s5
    walk_at "r"
    refine⟨c,_,6,.ref u,rfl,s15 _ _ hc,rfl,by decide,fun r6 H6 s6 h6=>?_⟩
    have s16:=s15.trans s6
    have s36:=s4.trans (s5.trans s6)
    have o6:=o0.mono s16
    have pi:q2t H6 (.ref q) (vN a) (vN b):=⟨q,rfl,s36 _ _ hq,(hw a (by simp)).sml ha,(hw b (by simp)).sml hb⟩
    walk_at "r"
    refine⟨r6,{q2m C v1 v2 v3 v4 as bs cs' ds with v4:= .ref u,z4:=ds.map V.ref++[.ref q],y4:=snf (ds.map V.ref).length (q2m C v1 v2 v3 v4 as bs cs' ds).y4 (vN a,vN b)},rfl,h6,⟨o6.sr,o6.sr1,o6.sf,o6.sl,o6.sb,o6.sw,o6.i1,o6.i2,o6.i3,⟨u,rfl,SqT.of (s6 _ _ h5)⟩,o6.w1,o6.w2,o6.w3,q31 o6.w4 pi,o6.l1,o6.l2,o6.l3,by simp;omega⟩,fun hg r H7 s7 mm=>?_,fun hg H7 s7=>ke (fun g=>hg ?_) _ (s16.trans s7)⟩
    ·obtain ⟨y1,y2,y3,y4⟩:=(q1n g0.g4).mp hg.g4
     replace y1:(((ds.map V.ref).length:Nat):Int)<4:=y1
     rw[yC,e1] at y1
     obtain⟨p1,p2,p3,p4,x0,x1,x2,x3,x4⟩:=mm
     have s17:=s16.trans s7
     refine k (.inr (.inr (.inr ⟨rfl,by omega,a,b,rfl,ha,hb,y2.2,y3,y4⟩))) r H7 s17 ?_
     rw[q25]
     exact⟨p1,p2,p3,p4,x0,⟨as,x1,ra.mono fun _ _=>q1C.mono s17.ts⟩,⟨bs,x2,rb.mono fun _ _=>qH.mono s17.ts⟩,⟨cs',x3,rc.mono fun _ _=>qH.mono s17.ts⟩,q3h (rd.mono fun _ _=>qH.mono s17.ts) x4 (s7 _ _ (s36 _ _ hq))⟩
    ·obtain ⟨y1,a',b',e,_,_,y2,y3,y4⟩:=q3m g
     cases e
     exact⟨g0.r,g0.f,g0.l,g0.b,g0.w,g0.g1,g0.g2,g0.g3,(q1n g0.g4).mpr ⟨by show(((ds.map V.ref).length:Nat):Int)<4;rw[yC,e1];omega,⟨q0U _,y2⟩,y3,y4⟩⟩
end
def spNT (C:Addr):Sp:=fun vs H Q _=>E2 fun(e:Addr) (n:Int)=>A4 (vs=[.ref e,.int n]) (H e=some (ExcO e C none)) (Sml n) (∀(dx:Addr),H dx=none->dx≠e->Q .non (upd (upd (upd H dx (XdO dx [])) e (ExcO e C (some dx))) dx (XdO dx [("line",.int n)])))
structure Lok (z:Str):Prop where
 asc:z.cps.all (· <128)=true
 len:z.length<=290
 nl:10∉z.cps.toList
 ws:(Txt.split z " ").length<=12
 wl:∀y∈Txt.split z " ",y.length<=150
def hdw (z:Str):Str:=(Txt.split z " ").headD ""
def tlw (z:Str):List Str:=(Txt.split z " ").tail
theorem q0v (z:Str):Txt.split z " "=hdw z::tlw z:=by
 have:=q50 z (c:=32) (by decide)
 have e:(" ":Str)=⟨#[32]⟩:=rfl
 rw[<-e] at this
 unfold hdw tlw
 cases h:Txt.split z " " with
 |nil=>rw[h] at this;simp at this
 |cons a r=>rfl
theorem q81 {c:Nat}:∀{ps:List (List Nat)} {p:List Nat},p∈ps->p.length<=(jl c ps).length/\∀x∈p,x∈jl c ps
 |[q],p,h=>by rw[zL.mp h];exact⟨zC _,fun _ h=>h⟩
 |q::r::s,p,h=>by
  have e:jl c (q::r::s)=q++c::jl c (r::s):=rfl
  rw[e]
  rcases zJ.mp h with rfl|h
  ·exact ⟨by simp,fun x hx=>by simp[hx]⟩
  ·obtain ⟨a,b⟩:=q81 (c:=c) h
   exact⟨by simp;omega,fun x hx=>by simp[b x hx]⟩
theorem Lok.wok {z:Str}(h:Lok z):∀y∈Txt.split z " ",Wok y:=fun y hy=>by
 have e:Str.join " " (Txt.split z " ")=z:=PySem.StrLaws.join_split z " "
 have ez:z.cps.toList=jl 32 ((Txt.split z " ").map fun w=>w.cps.toList):=by
  have:=q1M 32 (Txt.split z " ")
  rw[show(⟨#[32]⟩:Str)=" " from rfl,e] at this
  exact this
 obtain⟨a,b⟩:=q81 (c:=32) (zaw.mpr ⟨y,hy,rfl⟩:y.cps.toList∈(Txt.split z " ").map fun w=>w.cps.toList)
 rw[<-ez] at a b
 refine⟨?_,h.wl y hy⟩
 rw[zca]
 intro x hx
 have:=Asc.mem h.asc (b x (by simpa using hx))
 simpa using this
def q3s (C:Cl):Nat->Str->List Str->Prop
 |0,z,ws=>z="rooms"/\∃a b c,ws=[a,b,c]/\isN a=true/\isN b=true/\isN c=true/\1<=vN a/\vN a<=14/\vN b<vN a/\vN c<vN a
 |1,z,ws=>z="bars"/\∃a,ws=[a]/\isN a=true/\vN a<=255
 |2,z,ws=>z="water"/\∃a,ws=[a]/\isN a=true/\vN a<=9
 |_+3,z,ws=>q0F C z ws
def q1B (C:Cl):Nat->Str->List Str->Cl
 |0,_,ws=>⟨vN (ws.getD 0 ""),vN (ws.getD 1 ""),vN (ws.getD 2 ""),[],[],[],[],0,0⟩
 |1,_,ws=>⟨C.rooms,C.fst,C.lst,C.ways,C.things,C.levers,C.wheels,vN (ws.getD 0 ""),C.water⟩
 |2,_,ws=>⟨C.rooms,C.fst,C.lst,C.ways,C.things,C.levers,C.wheels,C.bars,vN (ws.getD 0 "")⟩
 |_+3,z,ws=>rowC C z ws
theorem qaF {C:Cl}{i:Nat}{z:Str}{ws:List Str}(o:0<i->ClOk C)(h:q3s C i z ws):ClOk (q1B C i z ws):=by
 match i,o,h with
 |0,_,⟨_,a,b,c,e,_,_,_,h1,h2,h3,h4⟩=>
  subst e
  exact⟨h1,h2,⟨q0U _,h3⟩,⟨q0U _,h4⟩,by simp[q1B],by simp[q1B],by simp[q1B],by simp[q1B],by simp[q1B],by simp[q1B],by simp[q1B],by simp[q1B],by simp[q1B],by simp[q1B]⟩
 |1,o,⟨_,a,e,_,h1⟩=>
  subst e
  have o:=o (by omega)
  exact⟨o.r1,o.r2,o.f,o.l,o.wl,o.tl,o.ll,o.vl,o.w,o.t,o.lv,o.wh,⟨q0U _,h1⟩,o.wa⟩
 |2,o,⟨_,a,e,_,h1⟩=>
  subst e
  have o:=o (by omega)
  exact⟨o.r1,o.r2,o.f,o.l,o.wl,o.tl,o.ll,o.vl,o.w,o.t,o.lv,o.wh,o.b,⟨q0U _,h1⟩⟩
 |i+3,o,h=>exact row_ok (o (by omega)) h
def C0:Cl:=⟨0,0,0,[],[],[],[],0,0⟩
inductive Run (Ls:List Str):Nat->Cl->Prop
 |nil:Run Ls 0 C0
 |step {i:Nat} {C:Cl} {z:Str} (h:Run Ls i C) (e:Ls[i]? =some z) (g:q3s C i (hdw z) (tlw z)):Run Ls (i+1) (q1B C i (hdw z) (tlw z))
def q41 (Ls:List Str)(i:Nat):Prop:=(∃C z,Run Ls i C/\Ls[i]? =some z/\¬q3s C i (hdw z) (tlw z))\/(i=Ls.length/\Ls.length<3/\∃C,Run Ls i C)
theorem Run.inv {Ls:List Str}{i:Nat}{C':Cl}(h:Run Ls (i+1) C'):∃C z,Run Ls i C/\Ls[i]? =some z/\q3s C i (hdw z) (tlw z)/\C'=q1B C i (hdw z) (tlw z):=by
 cases h with
 |step a b c=>exact⟨_,_,a,b,c,rfl⟩
theorem Run.det {Ls:List Str}:∀{i:Nat} {C D:Cl},Run Ls i C->Run Ls i D->C=D
 |0,_,_,h1,h2=>by cases h1;cases h2;rfl
 |i+1,_,_,h1,h2=>by
  obtain⟨C,z,a,b,c,rfl⟩:=h1.inv
  obtain⟨D,y,a',b',c',rfl⟩:=h2.inv
  rw[b] at b'
  cases b'
  rw[Run.det a a']
theorem Run.ok {Ls:List Str}:∀{i:Nat} {C:Cl},Run Ls i C->0<i->ClOk C
 |0,_,_,h=>absurd h (by omega)
 |i+1,_,h,_=>by
  obtain⟨C,z,a,b,c,rfl⟩:=h.inv
  exact qaF (Run.ok a) c
theorem Run.le {Ls:List Str}:∀{n:Nat} {C:Cl},Run Ls n C->∀{i:Nat},i<n->∃D z,Run Ls i D/\Ls[i]? =some z/\q3s D i (hdw z) (tlw z)
 |0,_,_,i,h=>absurd h (by omega)
 |n+1,_,h,i,hi=>by
  obtain⟨C,z,a,b,c,rfl⟩:=h.inv
  by_cases e:i=n
  ·subst e;exact⟨C,z,a,b,c⟩
  ·exact Run.le a (by omega)
theorem Run.len {Ls:List Str}{n:Nat}{C:Cl}(h:Run Ls n C):n<=Ls.length:=by
 cases n with
 |zero=>omega
 |succ n=>
  obtain⟨C,z,a,b,c,rfl⟩:=h.inv
  have:=(yA b).1
  omega
theorem q41.not {Ls:List Str}{i:Nat}{C:Cl}(h:q41 Ls i)(hr:Run Ls Ls.length C):Ls.length<3/\i=Ls.length:=by
 rcases h with⟨D,z,a,b,c⟩|⟨a,b,_⟩
 ·have hi:=(yA b).1
  obtain⟨D',y,a',b',c'⟩:=hr.le hi
  rw[b] at b'
  cases b'
  rw[a.det a'] at c
  exact absurd c' c
 ·exact ⟨b,a⟩
theorem q41.one {Ls:List Str}{i j:Nat}(h:q41 Ls i)(h2:q41 Ls j):i=j:=by
 have key:∀{i j:Nat},q41 Ls i->q41 Ls j->¬i<j:=fun {i j} h h2 lt=>by
  have run:∃C,Run Ls j C:=by
   rcases h2 with⟨D,z,a,b,c⟩|⟨a,b,D,c⟩
   ·exact ⟨D,a⟩
   ·exact ⟨D,c⟩
  obtain⟨C,hC⟩:=run
  obtain⟨D,z,a,b,c⟩:=hC.le lt
  rcases h with⟨D',y,a',b',c'⟩|⟨a',_,_⟩
  ·rw [b] at b'
   cases b'
   rw[a.det a'] at c
   exact c' c
  ·have:=hC.len
   omega
 have:=key h h2
 have:=key h2 h
 omega
section
variable {P:Program}{w:World}{K:W.Frag}{mg:Str->Option Value}{base:Heap}{xs:Xs}{cs:Cs}
theorem q8c (T:Txt mg cs)(TX:Tx K mg xs)(L:LaidX K mg "NoText" xs.NoText "NoText.__init__" q05 ["self","line"]):MakesX P w K mg base 1 "NoText" xs.NoText ["self","line"] (spNT xs.NoText):=by
 refine L.makes (k:=0) q2n (fun vs H Q E h=>?_) (fun f cdv A outer s H vs Q E hr h=>?_)
 ·obtain ⟨e,n,rfl,_⟩:=h
  rfl
 ·obtain ⟨e,n,rfl,he,hn,k⟩:=h
  have big:=qC
  refine⟨_,(qg (qT (pe_bi K TX.waE rfl TX.vE (qa (pv 0) (qa (q1v (.cons qk (.cons (q3g (pv 1)) .nil))) qc))))
   (qj (q7S K (pv 0) (pv 1) rfl))),?_⟩
  walk_at "r"
  refine r_bi0 ?_
  walk_at "r"
  refine jc (by walk_at "k") (by omega) fun m1 h1=>?_
  refine jfi hn (by omega) (fun K h=>⟨_,rfl,h⟩) fun m2 h2=>?_
  refine jn fun y hy=>?_
  walk_at "r"
  refine r_bi he TX.waP (by simp;omega) ?_
  walk_at "r"
  refine q7H ?_
  walk_at "r"
  refine⟨e,xs.NoText,rfl,TX.vW,TX.wu,TX.wT,.inl ⟨he,fun dx hd hne=>?_⟩⟩
  dsimp only
  exact k dx hd hne
theorem q8b (T:Txt mg cs)(TX:Tx K mg xs)(L:LaidX K mg "NoText" xs.NoText "NoText.__init__" q05 ["self","line"]):MakesM P w K mg base 1 "NoText" xs.NoText ["self","line"] (spNT xs.NoText):=by
 refine L.makesM (k:=0) q2n (fun vs H Q E h=>?_) (fun f cdv A outer s H vs Q E hr h=>?_)
 ·obtain ⟨e,n,rfl,_⟩:=h
  rfl
 ·obtain ⟨e,n,rfl,he,hn,k⟩:=h
  have big:=qC
  refine⟨_,(qg (qT (pe_bi K TX.waE rfl TX.vE (qa (pv 0) (qa (q1v (.cons qk (.cons (q3g (pv 1)) .nil))) qc))))
   (qj (q7S K (pv 0) (pv 1) rfl))),?_⟩
  walk_at "r"
  refine r_bi0 ?_
  walk_at "r"
  refine jc (by walk_at "k") (by omega) fun m1 h1=>?_
  refine jfi hn (by omega) (fun K h=>⟨_,rfl,h⟩) fun m2 h2=>?_
  refine jn fun y hy=>?_
  walk_at "r"
  refine r_bi he TX.waP (by simp;omega) ?_
  walk_at "r"
  refine q7H ?_
  walk_at "r"
  refine⟨e,xs.NoText,rfl,TX.vW,TX.wu,TX.wT,.inl ⟨he,fun dx hd hne=>?_⟩⟩
  dsimp only
  exact k dx hd hne
end
def spLn (K:W.Frag)(X:Addr):Sp:=fun vs H Q E=>E6 fun(v:V) (i:Nat) (p:Addr) (C:Cl) (z0:Str) (ws:List Str)=>A8 (vs=[v,.int i,.ref p]) ((0<i->∃c,v= .ref c/\ClAt H c C/\ClOk C)) (H p=some (.lst (V.str z0::ws.map V.str))) (Wok z0) ((∀y∈ws,Wok y)) (ws.length<=11) ((q3s C i z0 ws->∀(r:Addr) (H':Hp),Same H H'->ClAt H' r (q1B C i z0 ws)->Q (.ref r) H')) ((¬q3s C i z0 ws->∀H',Same H H'->E (.ref X) none H'))
def h00 (a b c:Int)(n0 n1 n2 n3:Addr):Hand:=⟨a,b,c,0,0,.ref n0,.ref n1,.ref n2,.ref n3,[],[],[],[],fun _=>⟨0,0,"",[],false⟩,fun _=>(0,0),fun _=>(0,0),fun _=>(0,0)⟩
theorem q6x {a b c:Int}{n0 n1 n2 n3:Addr}:(h00 a b c n0 n1 n2 n3).good↔(1<=a/\a<=14)/\(0<=b/\b<=a - 1)/\(0<=c/\c<=a - 1):=by
 constructor
 ·intro g
  exact⟨g.r,g.f,g.l⟩
 ·rintro ⟨h1,h2,h3⟩
  exact⟨h1,h2,h3,by show(0:Int)<=0/\(0:Int)<=255;omega,by show(0:Int)<=0/\(0:Int)<=9;omega,⟨by simp[h00],fun i hi=>by simp[h00] at hi⟩,⟨by simp[h00],fun i hi=>by simp[h00] at hi⟩,⟨by simp[h00],fun i hi=>by simp[h00] at hi⟩,⟨by simp[h00],fun i hi=>by simp[h00] at hi⟩⟩
section
variable {P:Program}{w:World}{K:W.Frag}{mg:Str->Option Value}{base:Heap}{xs:Xs}{cs:Cs}
theorem ok_ln (T:Txt mg cs)(TX:Tx K mg xs)(TK:Tk K mg)(L:Laid K mg "with_line" q0H ["made","number","words"])(wr:CalX P w K mg base 3 "numbers_behind" ["word","words","many"] (spNb xs.NoCellar))(wR:Cal P w K mg base 1 "changed" ["parts","place","part"] spCh)(wL:CalX P w K mg base 5 "made_of" ["parts"] (spMo K xs.NoCellar))(waA:CalX P w K mg base 6 "with_row" ["made","words"] (spWr K xs.NoCellar)):CalX P w K mg base 7 "with_line" ["made","number","words"] (spLn K xs.NoCellar):=by
 obtain⟨t1,wB⟩:=T.wB
 obtain⟨t2,wz⟩:=T.wz
 obtain⟨c_NOTHING_MORE,n0,n1,n2,n3,wbk,hN,hn0,hn1,hn2,hn3,_⟩:=TK.NOTHING_MORE
 refine L.calX (k:=6) q53 (fun vs H Q E h=>?_) (fun f cdv A outer s H vs Q E hr h=>?_)
 ·obtain ⟨v,i,p,C,z0,ws,rfl,_⟩:=h
  rfl
 ·obtain ⟨v,i,p,C,z0,ws,rfl,hv,hp,hz,hw,hl,k,ke⟩:=h
  have big:=qC
  refine⟨_,(qg (qQ (qr q0i (pv 1) qd (qB _)) (qj (qw (qV wL qS hr (by decide) rfl (qa (qv (q2g K) (qV wr qS hr (by decide) rfl (qa qk (qa (pv 2) (qa qd qc)))) (qz (v:= .ref c_NOTHING_MORE) rfl wbk rfl)) qc)))) qy)
   (qg (qQ (qr q0i (pv 1) qd (qB _)) (qj (qw (qV wL qS hr (by decide) rfl (qa (qR wR hr (by decide) rfl (qa (pv 0) (qa (qz (v:= .int 7) rfl wB ⟨_,rfl⟩) (qa (qD (qF K) (qV wr qS hr (by decide) rfl (qa qk (qa (pv 2) (qa qd qc)))) qd (fun _ _=>rfl)) qc)))) qc)))) qy)
   (qg (qQ (qr q0i (pv 1) qd (qB _)) (qj (qw (qV wL qS hr (by decide) rfl (qa (qR wR hr (by decide) rfl (qa (pv 0) (qa (qz (v:= .int 8) rfl wz ⟨_,rfl⟩) (qa (qD (qF K) (qV wr qS hr (by decide) rfl (qa qk (qa (pv 2) (qa qd qc)))) qd (fun _ _=>rfl)) qc)))) qc)))) qy)
   (qj (qw (qV waA qS hr (by decide) rfl (qa (pv 0) (qa (pv 2) qc)))))))),?_⟩
  walk_at "r"
  refine ifd (fun h=>?_) (fun h0=>?_)
  ·obtain rfl:i=0:=by omega
   walk_at "r"
   refine⟨"rooms",p,z0,ws,3,rfl,hp,by walk_at "k",by omega,hw,by omega,fun hg q H1 s1 h1=>?_,fun hg H1 s1=>ke (fun g=>hg ?_) _ s1⟩
   ·obtain ⟨rfl,hlen,ha⟩:=hg
    obtain⟨a,b,c,rfl⟩:∃a b c,ws=[a,b,c]:=match ws,hlen with|[a,b,c],_=>⟨a,b,c,rfl⟩
    obtain⟨na,nb,nc⟩:isN a=true/\isN b=true/\isN c=true:=by simpa using ha
    have h1:H1 q=some (.tup [.int (vN a),.int (vN b),.int (vN c)]):=h1
    walk_at "r"
    refine⟨q,c_NOTHING_MORE,_,_,rfl,rfl,SqT.of h1,hN _,by simp;omega,fun e=>absurd e (by simp),fun _ e=>absurd e (by simp),fun _ _ u gu=>?_⟩
    generalize hGu:upd _ u _=H2
    have s2:=qp hGu gu
    have h2:=qo hGu
    have s12:=s1.trans s2
    walk_at "r"
    have sa:=(hw a (by simp)).sml na
    have sb:=(hw b (by simp)).sml nb
    have sc:=(hw c (by simp)).sml nc
    refine⟨u,h00 (vN a) (vN b) (vN c) n0 n1 n2 n3,rfl,h2,⟨sa,(hw a (by simp)).sml1 na,sb,sc,sml0,sml0,⟨n0,rfl,hn0 _⟩,⟨n1,rfl,hn1 _⟩,⟨n2,rfl,hn2 _⟩,⟨n3,rfl,hn3 _⟩,fun i x e=>by simp[h00] at e,fun i x e=>by simp[h00] at e,fun i x e=>by simp[h00] at e,fun i x e=>by simp[h00] at e,by simp[h00],by simp[h00],by simp[h00],by simp[h00]⟩,fun hg r H3 s3 mm=>?_,fun hg H3 s3=>ke (fun g=>hg ?_) _ (s12.trans s3)⟩
    ·obtain ⟨g1,g2,g3⟩:=q6x.mp hg
     obtain⟨p1,p2,p3,p4,x0,x1,x2,x3,x4⟩:=mm
     exact k ⟨rfl,a,b,c,rfl,na,nb,nc,g1.1,g1.2,by omega,by omega⟩ r H3 (s12.trans s3) ⟨p1,p2,p3,p4,x0,⟨[],x1,Rows.nil⟩,⟨[],x2,Rows.nil⟩,⟨[],x3,Rows.nil⟩,⟨[],x4,Rows.nil⟩⟩
    ·obtain ⟨_,a',b',c',e,_,_,_,y1,y2,y3,y4⟩:=g
     cases e
     exact q6x.mpr ⟨⟨y1,y2⟩,⟨q0U _,by omega⟩,⟨q0U _,by omega⟩⟩
   ·obtain ⟨rfl,a,b,c,rfl,y1,y2,y3,_⟩:=g
    exact⟨rfl,rfl,by simp[y1,y2,y3]⟩
  walk_at "r"
  obtain⟨c,rfl,hC,oC⟩:=hv (by omega)
  obtain⟨v1,v2,v3,v4,hc,m1,m2,m3,m4⟩:=hC.ex
  obtain⟨as,ha1,ra⟩:=id m1
  obtain⟨bs,hb1,rb⟩:=id m2
  obtain⟨cs',hc1,rc⟩:=id m3
  obtain⟨ds,hd1,rd⟩:=id m4
  have o0:HandOk K H (q2m C v1 v2 v3 v4 as bs cs' ds):=q6w oC ⟨_,rfl,SqT.of ha1⟩ ⟨_,rfl,SqT.of hb1⟩ ⟨_,rfl,SqT.of hc1⟩ ⟨_,rfl,SqT.of hd1⟩ ra rb rc rd
  have g0:(q2m C v1 v2 v3 v4 as bs cs' ds).good:=q4a oC ra.1 rb.1 rc.1 rd.1
  refine ifd (fun h=>?_) (fun h1=>?_)
  ·obtain rfl:i=1:=by omega
   walk_at "r"
   refine⟨"bars",p,z0,ws,1,rfl,hp,by walk_at "k",by omega,hw,by omega,fun hg q H1 s1 h1=>?_,fun hg H1 s1=>ke (fun g=>hg ?_) _ s1⟩
   ·obtain ⟨rfl,hlen,ha⟩:=hg
    obtain⟨a,rfl⟩:∃a,ws=[a]:=match ws,hlen with|[a],_=>⟨a,rfl⟩
    have na:isN a=true:=by simpa using ha
    have h1:H1 q=some (.tup [.int (vN a)]):=h1
    walk_at "r"
    refine⟨c,_,7,.int (vN a),rfl,s1 _ _ hc,rfl,by decide,fun u H2 s2 h2=>?_⟩
    walk_at "r"
    have s12:=s1.trans s2
    have o2:=o0.mono s12
    refine⟨u,{q2m C v1 v2 v3 v4 as bs cs' ds with b:=vN a},rfl,h2,⟨o2.sr,o2.sr1,o2.sf,o2.sl,(hw a (by simp)).sml na,o2.sw,o2.i1,o2.i2,o2.i3,o2.i4,o2.w1,o2.w2,o2.w3,o2.w4,o2.l1,o2.l2,o2.l3,o2.l4⟩,fun hg r H3 s3 mm=>?_,fun hg H3 s3=>ke (fun g=>hg ?_) _ (s12.trans s3)⟩
    ·have s13:=s12.trans s3
     obtain⟨p1,p2,p3,p4,x0,x1,x2,x3,x4⟩:=mm
     exact k ⟨rfl,a,rfl,na,hg.b.2⟩ r H3 s13 ⟨p1,p2,p3,p4,x0,⟨as,x1,ra.mono fun _ _=>q1C.mono s13.ts⟩,⟨bs,x2,rb.mono fun _ _=>qH.mono s13.ts⟩,⟨cs',x3,rc.mono fun _ _=>qH.mono s13.ts⟩,⟨ds,x4,rd.mono fun _ _=>qH.mono s13.ts⟩⟩
    ·obtain ⟨_,a',e,_,y1⟩:=g
     cases e
     exact⟨g0.r,g0.f,g0.l,⟨q0U _,y1⟩,g0.w,g0.g1,g0.g2,g0.g3,g0.g4⟩
   ·obtain ⟨rfl,a,rfl,y1,_⟩:=g
    exact⟨rfl,rfl,by simp[y1]⟩
  walk_at "r"
  refine ifd (fun h=>?_) (fun h2=>?_)
  ·obtain rfl:i=2:=by omega
   walk_at "r"
   refine⟨"water",p,z0,ws,1,rfl,hp,by walk_at "k",by omega,hw,by omega,fun hg q H1 s1 h1=>?_,fun hg H1 s1=>ke (fun g=>hg ?_) _ s1⟩
   ·obtain ⟨rfl,hlen,ha⟩:=hg
    obtain⟨a,rfl⟩:∃a,ws=[a]:=match ws,hlen with|[a],_=>⟨a,rfl⟩
    have na:isN a=true:=by simpa using ha
    have h1:H1 q=some (.tup [.int (vN a)]):=h1
    walk_at "r"
    refine⟨c,_,8,.int (vN a),rfl,s1 _ _ hc,rfl,by decide,fun u H2 s2 h2=>?_⟩
    walk_at "r"
    have s12:=s1.trans s2
    have o2:=o0.mono s12
    refine⟨u,{q2m C v1 v2 v3 v4 as bs cs' ds with wt:=vN a},rfl,h2,⟨o2.sr,o2.sr1,o2.sf,o2.sl,o2.sb,(hw a (by simp)).sml na,o2.i1,o2.i2,o2.i3,o2.i4,o2.w1,o2.w2,o2.w3,o2.w4,o2.l1,o2.l2,o2.l3,o2.l4⟩,fun hg r H3 s3 mm=>?_,fun hg H3 s3=>ke (fun g=>hg ?_) _ (s12.trans s3)⟩
    ·have s13:=s12.trans s3
     obtain⟨p1,p2,p3,p4,x0,x1,x2,x3,x4⟩:=mm
     exact k ⟨rfl,a,rfl,na,hg.w.2⟩ r H3 s13 ⟨p1,p2,p3,p4,x0,⟨as,x1,ra.mono fun _ _=>q1C.mono s13.ts⟩,⟨bs,x2,rb.mono fun _ _=>qH.mono s13.ts⟩,⟨cs',x3,rc.mono fun _ _=>qH.mono s13.ts⟩,⟨ds,x4,rd.mono fun _ _=>qH.mono s13.ts⟩⟩
    ·obtain ⟨_,a',e,_,y1⟩:=g
     cases e
     exact⟨g0.r,g0.f,g0.l,g0.b,⟨q0U _,y1⟩,g0.g1,g0.g2,g0.g3,g0.g4⟩
   ·obtain ⟨rfl,a,rfl,y1,_⟩:=g
    exact⟨rfl,rfl,by simp[y1]⟩
  walk_at "r"
  obtain⟨j,rfl⟩:∃j,i=j+3:=⟨i - 3,by omega⟩
  exact⟨c,p,C,z0,ws,rfl,hC,oC,hp,hz,hw,hl,k,ke⟩
end
def spRd (X:Addr):Sp:=fun vs H Q E=>E1 fun(Ls:List Str)=>A6 (vs=[.str (Txt.join "\n" Ls)]) (Ls≠[]) ((∀z∈Ls,Lok z)) (Ls.length<=100) ((∀C,Run Ls Ls.length C->3<=Ls.length->∀(r:Addr) (H':Hp),Same H H'->ClAt H' r C->Q (.ref r) H')) ((∀i,q41 Ls i->∀(d:Addr) (H':Hp),Same H H'->H' d=some (XdO d [("line",.int (i:Nat))])->E (.ref X) (some d) H'))
theorem q6s {Ls:List Str}(h:∀z∈Ls,Lok z)(hl:Ls.length<=100):(Txt.join "\n" Ls).length<=29100:=by
 have:=q8s (c:=10) (ws:=Ls) (n:=290) fun w hw=>(h w hw).len
 have e:("\n":Str)=⟨#[10]⟩:=rfl
 rw[e]
 have:Ls.length*(290+1)<=100*291:=zaV _ hl
 omega
theorem q8f {Ls:List Str}(h0:Ls≠[])(h:∀z∈Ls,Lok z):Txt.split (Txt.join "\n" Ls) "\n"=Ls:=q4k (c:=10) (by decide) h0 fun w hw=>(h w hw).nl
theorem qbH {Ls:List Str}{i:Nat}{x:V}(hx:(Ls.map V.str)[i]? =some x):∃z,Ls[i]? =some z/\x= .str z:=by
 rw[zaq] at hx
 obtain⟨z,a,b⟩:=zaG.mp hx
 exact⟨z,a,b.symm⟩
section
variable {P:Program}{w:World}{K:W.Frag}{mg:Str->Option Value}{base:Heap}{xs:Xs}{cs:Cs}
theorem ok_rd (T:Txt mg cs)(TX:Tx K mg xs)(L:Laid K mg "read" q3w ["text"])(wc:MakesX P w K mg base 1 "NoText" xs.NoText ["self","line"] (spNT xs.NoText))(M_NoText:MakesM P w K mg base 1 "NoText" xs.NoText ["self","line"] (spNT xs.NoText))(wah:CalX P w K mg base 7 "with_line" ["made","number","words"] (spLn K xs.NoCellar)):CalX P w K mg base 8 "read" ["text"] (spRd xs.NoText):=by
 obtain⟨t1,vq⟩:=T.vq
 refine L.calX (k:=7) q2W (fun vs H Q E h=>?_) (fun f cdv A outer s H vs Q E hr h=>?_)
 ·obtain ⟨Ls,rfl,_⟩:=h
  rfl
 ·obtain ⟨Ls,rfl,h0,hL,hl,k,ke⟩:=h
  have big:=qC
  have hj:=q6s hL hl
  have hs:=q8f h0 hL
  generalize Txt.join "\n" Ls=txt at hj hs ⊢
  refine⟨_,(qg (qI (i:=1) q2W.nd rfl (Or.inl rfl) (q13 zV zaQ zaR q2h (pv 0) (qa qk qc)))
   (qg (qI (i:=2) q2W.nd rfl (Or.inl rfl) q3C)
   (qg (q28 PassesOwn.leaving rfl (q7W K rfl T.wbE (qa (pv 1) qc)) (q3B (n:=2) K rfl (q0l (qM (i:=3) q2W.nd rfl (Or.inl rfl)) (q0l (qM (i:=4) q2W.nd rfl (Or.inl rfl)) q30))) (qj (q7P rfl rfl rfl (q6j (q7O (i:=2) q2W.nd rfl (Or.inl rfl) (q6l wah rfl hr (by decide) rfl (qa (pv 2) (qa (pv 3) (qa (q13 zV zaQ zaR q2h (pv 4) (qa qk qc)) qc))))))
   (q9l K M_NoText q44 (fun _=>PassesOwnAt.leaving) rfl hr (by decide) rfl TX.wx rfl (fun _=>(qa (pv 3) qc))))))
   (qg (qQ (qr q2G (qx (lenK K) rfl T.wq q0k (qa (pv 1) qc)) (qz (v:= .int 3) rfl vq ⟨_,rfl⟩) (qB _)) (qj (q7Q wc q44 rfl rfl hr (by decide) rfl (qa (qx (lenK K) rfl T.wq q0k (qa (pv 1) qc)) qc))) qy)
   (qj (qw (pv 2))))))),?_⟩
  walk_at "r"
  refine⟨rfl,?_⟩
  walk_at "r"
  refine⟨txt,_,rfl,rfl,rfl,by omega,by rw[hs];omega,fun p gp=>?_⟩
  rw[hs]
  generalize hGp:upd _ p _=H1
  have s1:=qp hGp gp
  have h1:=qo hGp
  walk_at "r"
  refine qbK (Ls.map V.str) (fun i σ H'=>E3 fun v v3 v4=>A3 (σ=[some (.str txt),some (.ref p),some v,v3,v4]) (Same H1 H') (∃C,Run Ls i C/\(0<i->∃c,v= .ref c/\ClAt H' c C))) ⟨_,_,_,rfl,Same.refl _,_,.nil,fun h=>absurd h (by omega)⟩ ?_ ?_ ?_
  ·rintro i σ H' ⟨v,v3,v4,rfl,s2,_⟩
   exact SqL.of (s2 _ _ h1)
  ·rintro i x σ H' t hx ⟨v,v3,v4,rfl,s2,C,hR,hv⟩ gt
   obtain⟨z,ez,rfl⟩:=qbH hx
   have hi:i<Ls.length:=(yA ez).1
   have hz:=hL z (zaD ez)
   have hz1:=hz.len
   have hz2:=hz.ws
   have wk:=hz.wok
   rw[q0v] at wk hz2
   generalize hGt:upd _ t _=H2
   have s3:=qp hGt gt
   have h2:=qo hGt
   walk_at "r"
   refine qa4 ?_
   walk_at "r"
   refine⟨rfl,?_⟩
   walk_at "r"
   refine⟨z,_,rfl,rfl,rfl,by omega,by rw[q0v];omega,fun q gq=>?_⟩
   rw[q0v]
   generalize hGq:upd _ q _=H3
   have s4:=qp hGq gq
   have h3:=qo hGq
   have s13:=s1.trans (s2.trans (s3.trans s4))
   walk_at "r"
   refine⟨v,i,q,C,hdw z,tlw z,rfl,fun h=>?_,h3,wk _ (by simp),fun y hy=>wk y (by simp[hy]),by simp at hz2;omega,fun hg r H4 s5 hr4=>?_,fun hg H4 s5=>?_⟩
   ·obtain ⟨c,e,hc⟩:=hv h
    exact⟨c,e,hc.mono (s3.trans s4).ts,hR.ok h⟩
   ·walk_at "r"
    exact⟨_,_,_,rfl,s2.trans (s3.trans (s4.trans s5)),_,.step hR ez hg,fun _=>⟨r,rfl,hr4⟩⟩
   ·refine ⟨TX.waq,rfl,fun a oe ha=>?_⟩
    generalize hGa:upd _ a _=H5
    have s6:=qp hGa ha
    have h5:=qo hGa
    walk_at "r"
    intro e he
    refine⟨e,i,rfl,qh,q1F (by omega) (by omega),fun d2 hd2 hne=>⟨rfl,?_,d2,?_,?_⟩⟩
    ·have hd0:H5 d2=Option.none:=by rw[qm hne] at hd2;exact hd2
     have n1:=ql h5 he
     have n2:=ql h5 hd0
     rw[qm n2,qm n1,qm n2,qm n1]
     exact h5
    ·rw [qm (Ne.symm hne),qh]
    ·have hd0:H5 d2=Option.none:=by rw[qm hne] at hd2;exact hd2
     refine ke i (.inl ⟨C,z,hR,ez,hg⟩) d2 _ (s13.trans (s5.trans (s6.trans fun b o qb=>?_))) ?_
     ·have n1:=ql qb he
      have n2:=ql qb hd0
      rw[q2c n1,qm n2,qm n1,qm n2,qm n1]
      exact qb
     ·rw [q2c hne,qh]
  ·rintro σ H2 ⟨v,v3,v4,rfl,s2,C,hR,hv⟩
   rw[yC] at hR hv
   have h2:=s2 _ _ h1
   have s12:=s1.trans s2
   walk_at "r"
   refine ifd (fun h=>?_) (fun h=>?_)
   ·rw [yC] at h
    walk_at "r"
    refine q9d ?_
    walk_at "r"
    intro e he
    refine⟨e,Ls.length,by simp,qh,q1F (by omega) (by omega),fun d2 hd2 hne=>⟨rfl,some d2,?_,?_⟩⟩
    ·rw [qm (Ne.symm hne),qh]
    ·have hd0:H2 d2=Option.none:=by rw[qm hne] at hd2;exact hd2
     refine ke Ls.length (.inr ⟨rfl,by omega,C,hR⟩) d2 _ (s12.trans fun b o qb=>?_) ?_
     ·have n1:=ql qb he
      have n2:=ql qb hd0
      rw[q2c n1,qm n2,qm n1,qm n2,qm n1]
      exact qb
     ·rw [q2c hne,qh]
   ·rw [yC] at h
    obtain⟨c,rfl,hc⟩:=hv (by omega)
    walk_at "r"
    exact k C hR (by omega) c H2 s12 hc
end
def numB (z:Str)(lo hi:Int):Bool:=isN z&&(decide (lo<=vN z)&&decide (vN z<hi))
def q1f (ws:List Str)(bs:List (Int×Int)):Bool:=decide (ws.length=bs.length)&&(ws.zip bs).all fun x=>numB x.1 x.2.1 x.2.2
def spNu:Sp:=fun vs H Q _=>E3 fun(z:Str) (lo hi:Int)=>A4 (vs=[.str z,.int lo,.int hi]) (Wok z) (hi<=1000) (∀H',Same H H'->Q (.bl (numB z lo hi)) H')
theorem qai {A:Around}{k:Nat}(hr:Room k A):A.units+1+1<cLine:=by have:=hr.un;omega
def signV (c:Nat):V:= .str ⟨#[c]⟩
section
variable {P:Program}{w:World}{K:W.Frag}{mg:Str->Option Value}{base:Heap}{xs:Xs}{cs:Cs}
theorem ok_nu (T:Txt mg cs)(L:Laid K mg "_law_number" q0d ["_law_text","_law_low","_law_beyond"]):Cal P w K mg base 1 "_law_number" ["_law_text","_law_low","_law_beyond"] spNu:=by
 refine L.cal (k:=0) q3T (fun vs H Q E h=>?_) (fun f cdv A outer s H vs Q E hr h=>?_)
 ·obtain ⟨z,lo,hi,rfl,_⟩:=h
  rfl
 ·obtain ⟨z,lo,hi,rfl,hz,hhi,k⟩:=h
  have big:=qC
  have hl:z.cps.toList.length=z.length:=zaY
  have hlen:=hz.len
  refine⟨_,(qg (qQ (PW.pt (q23 (qr q0i (pv 0) qk (qB _)) (q23 (qr q5l (qx q5A rfl T.wq q0k (qa (pv 0) qc)) qd (qB _)) (q1i (qr (op_neD K 1 (qai hr)) (q0N (q1k (N:=["_law_sign"]) (own:=1) (caps:=[]) ["_law_text","_law_low","_law_beyond"] (qe q0d) (by walk_at "k")) rfl (q7U K (pv 0)) (fun _ _ _ _=>(qM (i:=0) (show List.Nodup (["_law_sign"]:List Str) by walk_at "k") rfl (Or.inl rfl))) (fun _ _ _ _=>(pf_one (qr q82 (pv 0) qk (by with_unfolding_all rfl)))) (fun _ _ _ _=>(pv 0))) (qK qc) (qB _)))))) (qj (qw q2F)) qy)
   (qj (qw (q6n (pe_or (q1w q0i (pv 0) qk (qB _)) (q46 (q1w q4y (qD qah (pv 0) qd (fun _ _=>rfl)) qk (qB _)))) (q46 (q6m qbh q2G (pv 1) (q09 intT rfl T.was q3P (qa (pv 0) qc)) (pv 2))))))),?_⟩
  walk_at "r"
  refine ifd (fun h=>?_) (fun h0=>?_)
  ·have:numB z lo hi=false:=by rw[numB,show isN z=false by simp[isN,h]];rfl
   rw[this] at k
   walk_at "r"
   exact k _ (Same.refl _)
  walk_at "r"
  refine⟨z,rfl,by omega,?_⟩
  walk_at "r"
  refine ifd (fun h3=>?_) (fun h3=>?_)
  ·have:numB z lo hi=false:=by
    cases e:isN z with
    |false=>rw[numB,e];rfl
    |true=>
     have:=q9W hz.asc e (by omega)
     rw[numB,e,show decide (vN z<hi)=false from zav (by omega),zb2,zb2]
   rw[this] at k
   walk_at "r"
   exact k _ (Same.refl _)
  walk_at "r"
  try refine r_iS ?_
  walk_at "r"
  refine⟨z,rfl,hz.asc,?_⟩
  intro D hD
  refine q6C (fun i σ H'=>E1 fun v0=>A3 (σ=[v0]) (Same H H') (H' D=some (.lst (((z.cps.toList.take i).filter fun c=> !dgt c).map signV)))) ⟨none,rfl,Same.upd hD,by rw[qh];rfl⟩ ?_ ?_
  ·rintro i c σ H' hc ⟨v0,rfl,s1,hd⟩
   have hc':z.cps.toList[i]? =some c:=by simpa using hc
   have hi':i<z.length:=by
    have:=(zau.mp hc).1
    exact this
   walk_at "r"
   refine⟨_,_,rfl,rfl,?_⟩
   cases ed:dgt c with
   |true=>
    refine⟨_,rfl,?_⟩
    rw[show Txt.contains "0123456789" ⟨#[c]⟩=true from ed]
    refine⟨_,rfl,s1,?_⟩
    rw[hd,zas,hc',List.filter_append]
    simp[ed]
   |false=>
    refine⟨_,rfl,?_⟩
    rw[show Txt.contains "0123456789" ⟨#[c]⟩=false from ed]
    walk_at "r"
    refine⟨_,hd,?_,_,rfl,s1.put hD,?_⟩
    ·rw [yC]
     have:=List.length_filter_le (fun c=> !dgt c) (z.cps.toList.take i)
     rw[zW] at this
     omega
    ·rw [qh,zas,hc',List.filter_append,zY]
     simp[ed,signV]
  ·rintro σ H1 ⟨_,rfl,s1,hd⟩
   rw[zT (by rw[hl];exact zC _)] at hd
   walk_at "r"
   intro e ge
   generalize hGe:upd _ e _=H2
   have s2:=qp hGe ge
   have h2:=qo hGe
   have hd2:=s2 _ _ hd
   have s12:=s1.trans s2
   cases ea:z.cps.toList.all dgt with
   |false=>
    have:isN z=false:=by simp only[isN,ea,Bool.and_false,Bool.false_and]
    have:numB z lo hi=false:=by rw[numB,this];rfl
    rw[this] at k
    refine .inr ⟨D,e,_,_,rfl,rfl,SqL.of hd2,SqL.of h2,?_,?_⟩
    ·intro q
     rw[yC,zcq,zaX,List.filter_eq_nil_iff] at q
     have:z.cps.toList.all dgt=true:=zH.mpr fun x hx=>by simpa using q x hx
     rw[ea] at this
     cases this
    ·walk_at "r"
     exact k _ s12
   |true=>
    have q0:(z.cps.toList.filter fun c=> !dgt c)=[]:=List.filter_eq_nil_iff.mpr fun x hx=>by simpa using zH.mp ea x hx
    rw[q0] at hd2
    refine r_neDT (SqL.of hd2) (SqL.of h2) rfl (fun j hj=>absurd hj (by simp)) ?_
    walk_at "r"
    have iv:∀hn:isN z=true,∀H3:Hp,Same H H3->q7o (rI0 fun i j=>V.bl (decide (i<=j))) (rI0 fun i j=>V.bl (decide (i<j))) (tVar 1) (tCB rIntT (q5J (tVar 0) tNil)) (tVar 2) [some (.str z),some (.int lo),some (.int hi)] H3 Q:=fun hn H3 s3=>by
     walk_at "r"
     refine⟨z,vN z,rfl,q2k hz.asc (by omega) hn,by omega,?_⟩
     have e:numB z lo hi=(decide (lo<=vN z)&&decide (vN z<hi)):=by rw[numB,hn];rfl
     rw[e] at k
     walk_at "r"
     refine ifd (fun h5=>?_) (fun h5=>?_)
     ·rw [zbx h5,Bool.true_and] at k
      walk_at "r"
      exact k _ s3
     ·rw [zav h5,zcs] at k
      exact k _ s3
    refine ifd (fun h=>?_) (fun h=>?_)
    ·refine ⟨true,rfl,?_⟩
     exact iv (by rw[h];walk_at "k") _ s12
    ·cases ec:z.cps.toList with
     |nil=>exact absurd (q4j.mpr ec) h0
     |cons c cs=>
      have el:led z=(!decide ((⟨#[c]⟩:Str)="0")):=by unfold led;rw[ec]
      have e2:isN z=(!decide ((⟨#[c]⟩:Str)="0")):=by simp only[isN,ea,h0,h,el,decide_false,Bool.not_false,Bool.and_true,Bool.true_and,Bool.false_or]
      walk_at "r"
      refine⟨z,0,c,rfl,rfl,by omega,by rw[ec];exact qE (xs:=c::cs) (j:=0) rfl,?_⟩
      walk_at "r"
      cases en:isN z with
      |true=>
       rw[<-e2,en]
       exact iv en _ s12
      |false=>
       rw[<-e2,en]
       have:numB z lo hi=false:=by rw[numB,en];rfl
       rw[this] at k
       exact k _ s12
end
def BdAt (H:Hp)(q:Addr)(bs:List (Int×Int)):Prop:=∃ps:List Addr,H q=some (.lst (ps.map V.ref))/\Rows qH H ps bs
theorem BdAt.mono {H H':Hp}{q:Addr}{bs:List (Int×Int)}(s:Same H H')(h:BdAt H q bs):BdAt H' q bs:=let ⟨ps,a,b⟩:=h;⟨ps,s _ _ a,b.mono fun _ _=>qH.mono s.ts⟩
def q99:Sp:=fun vs H Q _=>E4 fun(p q:Addr) (ws:List Str) (bs:List (Int×Int))=>A7 (vs=[.ref p,.ref q]) (H p=some (.lst (ws.map V.str))) ((∀y∈ws,Wok y)) (ws.length<=12) (BdAt H q bs) ((∀b∈bs,b.2<=1000)) (∀H',Same H H'->Q (.bl (q1f ws bs)) H')
def gbd (g:Str):Option (List (Int×Int)):=(q14 g).map fun ts=>ts.map fun t=>(0,t+1)
def q36 (g:Str)(ns:List Str):Bool:=match gbd g with|none=>false|some bs=>q1f ns bs
theorem q6p:∀(ns:List Str) (ts:List Int),ns.length=ts.length->(ns.zip (ts.map fun t=>((0:Int),t+1))).all (fun x=>numB x.1 x.2.1 x.2.2)=(ns.all isN&&(List.zipWith chk (ns.map vN) ts).all id)
 |[],[],_=>rfl
 |z::ns,t::ts,h=>by
  have ih:=q6p ns ts (by simpa using h)
  simp only[List.map_cons,List.zip_cons_cons,List.all_cons,List.zipWith_cons_cons,id]
  rw[ih]
  have:numB z 0 (t+1)=(isN z&&chk (vN z) t):=by
   unfold numB chk
   rw[show decide (vN z<t+1)=decide (vN z<=t) from decide_eq_decide.mpr (by omega)]
  rw[this]
  cases isN z<;>cases chk (vN z) t<;>simp
theorem q6z (g:Str)(ns:List Str):q36 g ns=(ns.all isN&&q1T g (ns.map vN)):=by
 unfold q36 gbd
 cases h:q14 g with
 |none=>rw[q2A h,zb2];rfl
 |some ts=>
  show q1f ns (ts.map fun t=>((0:Int),t+1))=_
  unfold q1f
  by_cases hl:ns.length=ts.length
  ·rw [q0E h (by simpa using hl),q6p ns ts hl]
   simp[hl]
  ·rw [q35 h (by simpa using hl)]
   simp[hl]
section
variable {P:Program}{w:World}{K:W.Frag}{mg:Str->Option Value}{base:Heap}{xs:Xs}{cs:Cs}
theorem ok_nus (T:Txt mg cs)(L:Laid K mg "_law_numbers" q0h ["_law_parts","_law_bounds"])(vB:Cal P w K mg base 1 "_law_number" ["_law_text","_law_low","_law_beyond"] spNu):Cal P w K mg base 2 "_law_numbers" ["_law_parts","_law_bounds"] q99:=by
 refine L.cal (k:=1) q0W (fun vs H Q E h=>?_) (fun f cdv A outer s H vs Q E hr h=>?_)
 ·obtain ⟨p,q,ws,bs,rfl,_⟩:=h
  rfl
 ·obtain ⟨p,q,ws,bs,rfl,hp,hw,hl,⟨ps,hq,rw'⟩,hb,k⟩:=h
  have big:=qC
  have e1:=rw'.1
  refine⟨_,(qg (qQ (qr q4y (qx (lenK K) rfl T.wq q0k (qa (pv 0) qc)) (qx (lenK K) rfl T.wq q0k (qa (pv 1) qc)) (qB _)) (qj (qw q2F)) qy)
   (qg (q28 PassesOwn.never rfl (q29 rfl T.vH (qa (qx (lenK K) rfl T.wq q0k (qa (pv 0) qc)) qc)) (qM (i:=2) q0W.nd rfl (Or.inl rfl)) (qg (q45 (qD (qq K) (pv 1) (pv 2) (fun _ _=>rfl)) (q3B (n:=2) K rfl (q0l (qM (i:=3) q0W.nd rfl (Or.inl rfl)) (q0l (qM (i:=4) q0W.nd rfl (Or.inl rfl)) q30))))
   (qj (qQ (q1S (q1a (qR vB hr (by decide) rfl (qa (qD (qq K) (pv 0) (pv 2) (fun _ _=>rfl)) (qa (pv 3) (qa (pv 4) qc)))))) (qj (qw q2F)) qy))))
   (qj (qw q2F)))),?_⟩
  walk_at "r"
  by_cases he:ws.length=bs.length
  ·rw [show(!decide ((((ws.map V.str).length:Nat):Int)=(((ps.map V.ref).length:Nat):Int)))=false by simp;omega]
   refine iteF ?_
   walk_at "r"
   refine r_rg (by simp;omega) ?_
   rw[show((((ws.map V.str).length:Nat):Int)).toNat=ws.length by simp]
   refine q3L (fun i σ H'=>E3 fun v2 v3 v4=>A3 (σ=[some (.ref p),some (.ref q),v2,v3,v4]) (Same H H') (((ws.zip bs).take i).all (fun x=>numB x.1 x.2.1 x.2.2)=true)) ⟨_,_,_,rfl,Same.refl _,rfl⟩ ?_ ?_
   ·rintro i σ H' hi ⟨v2,v3,v4,rfl,s1,ht⟩
    have hi2:i<bs.length:=by omega
    have hi3:i<ps.length:=by omega
    have hq1:=s1 _ _ hq
    have hp1:=s1 _ _ hp
    have hb1:=s1 _ _ (rw'.2 i ps[i] bs[i] (zay hi3) (zay hi2))
    have a1:(ps.map V.ref)[i]? =some (.ref ps[i]):=by simp[hi3]
    have a2:(ws.map V.str)[i]? =some (.str ws[i]):=by simp[hi]
    rw[Int.zero_add]
    walk_at "r"
    try refine q0f (SqL.of hq1) (qE a1) ?_
    walk_at "r"
    try refine q0f (SqL.of hp1) (qE a2) ?_
    walk_at "r"
    refine⟨ws[i],bs[i].1,bs[i].2,rfl,hw _ (zN hi),hb _ (zN hi2),fun H2 s2=>?_⟩
    have hz:i<(ws.zip bs).length:=by simp;omega
    cases en:numB ws[i] bs[i].1 bs[i].2 with
    |true=>
     walk_at "r"
     refine⟨_,_,_,rfl,s1.trans s2,?_⟩
     rw[zal hz,zbX,ht,List.getElem_zip]
     simp[en]
    |false=>
     have:q1f ws bs=false:=by
      unfold q1f
      rw[Bool.and_eq_false_iff]
      refine .inr (List.all_eq_false.mpr ⟨(ws.zip bs)[i],zN hz,?_⟩)
      rw[List.getElem_zip]
      simp[en]
     rw[this] at k
     walk_at "r"
     exact k _ (s1.trans s2)
   ·rintro σ H1 ⟨v2,v3,v4,rfl,s1,ht⟩
    rw[zT (by simp;omega)] at ht
    have:q1f ws bs=true:=by unfold q1f;rw[ht];simp[he]
    rw[this] at k
    walk_at "r"
    exact k _ s1
  ·rw [show(!decide ((((ws.map V.str).length:Nat):Int)=(((ps.map V.ref).length:Nat):Int)))=true by simp;omega]
   have:q1f ws bs=false:=by simp[q1f,he]
   rw[this] at k
   walk_at "r"
   exact k _ (Same.refl _)
end
seal L2.PPs L2.PI L2.PS L2.PSs L2.PG L2.PT
theorem qaj {A:Around}{k:Nat}(hr:Room k A):A.units+1<cLine:=by have:=hr.un;omega
def spGg:Sp:=fun vs H Q _=>E3 fun(p:Addr) (g:Str) (ns:List Str)=>A5 (vs=[.ref p]) (H p=some (.lst (V.str g::ns.map V.str))) ((∀y∈ns,Wok y)) (ns.length<=11) (∀H',Same H H'->Q (.bl (q36 g ns)) H')
theorem qb1 {kvs:List (Key×V)}{k:Key}{v:V}(h:k∉kvs.map (·.1)):putK kvs k v=kvs++[(k,v)]:=by
 unfold putK
 rw[zI]
 intro q
 obtain⟨x,hx,e⟩:=List.any_eq_true.mp q
 exact h (zaw.mpr ⟨x,hx,by simpa using e⟩)
theorem q5n:∀(more kvs:List (Key×V)),((kvs++more).map (·.1)).Nodup->q2a kvs more=kvs++more
 |[],kvs,_=>by simp[q2a]
 |p::r,kvs,h=>by
  have hp:p.1∉kvs.map (·.1):=fun q=>by
   rw[zY,zao] at h
   exact(List.nodup_append.mp h).2.2 p.1 q p.1 (by simp) rfl
  have e:q2a kvs (p::r)=q2a (putK kvs p.1 p.2) r:=rfl
  rw[e,qb1 hp,q5n r (kvs++[(p.1,p.2)]) (by simpa using h)]
  simp
def gds (l0 l1 l2 l3 l4:Addr):List (Key×V):=[(.inr "plain",.ref l0),(.inr "door",.ref l1),(.inr "need",.ref l2),(.inr "bar",.ref l3),(.inr "float",.ref l4)]
theorem q8y (l0 l1 l2 l3 l4:Addr):q2a [] (gds l0 l1 l2 l3 l4)=gds l0 l1 l2 l3 l4:=q5n (gds l0 l1 l2 l3 l4) [] (show([.inr "plain",.inr "door",.inr "need",.inr "bar",.inr "float"]:List Key).Nodup by walk_at "k")
theorem r_pr {σ:St}{H:Hp}{Q:List (V×V)->Hp->Prop}{w:Str}{b:Int}{r:List (TE×TE)}(q:∀(l t:Addr) (H1:Hp),Same H H1->H1 l=some (.lst [.ref t])->H1 t=some (.tup [.int 0,.int b])->q4W r σ H1 fun ps H3=>Q ((.str w,.ref l)::ps) H3):q4W ((tC (.str w),tLst (q5J (tTup (q5J (tC (.int 0)) (q5J (tC (.int b)) tNil))) tNil))::r) σ H Q:=by
 have big:=qC
 refine⟨by show 2<=sizeLine;omega,fun t ht=>⟨by show 1<=sizeLine;omega,fun l hl=>?_⟩⟩
 exact q l t _ ((Same.upd ht).trans (Same.upd hl)) qh (q0w qh hl)
theorem q4e {H:Hp}{l t:Addr}{b:Int}(h1:H l=some (.lst [.ref t]))(h2:H t=some (.tup [.int 0,.int b])):BdAt H l [(0,b)]:=⟨[t],h1,rfl,fun i p x e1 e2=>by
 cases i with
 |zero=>cases e1;cases e2;exact h2
 |succ i=>simp at e1⟩
theorem q8z {H:Hp}{l0 l1 l2 l3 l4:Addr}{g:Str}(hg:¬g="wade")(h0:BdAt H l0 [])(h1:BdAt H l1 [(0,12)])(h2:BdAt H l2 [(0,12)])(h3:BdAt H l3 [(0,8)])(h4:BdAt H l4 [(0,10)])(ns:List Str):
  (valV (gds l0 l1 l2 l3 l4) (.inr g)=none/\q36 g ns=false)\/∃l bs,valV (gds l0 l1 l2 l3 l4) (.inr g)=some (.ref l)/\BdAt H l bs/\q36 g ns=q1f ns bs/\∀b∈bs,b.2<=1000:=by
 have vn:∀{y:Str} {v:V} {r:List (Key×V)},¬y=g->valV ((Sum.inr y,v)::r) (.inr g:Key)=valV r (.inr g):=fun {y v r} h=>q4g (p:=(Sum.inr y,v)) fun e=>h (Sum.inr.inj e)
 unfold gds
 by_cases e0:"plain"=g
 ·exact .inr ⟨l0,[],q1W (by rw[e0]),h0,by unfold q36 gbd;rw[<-e0,q1D];rfl,by simp⟩
 rw[vn e0]
 by_cases e1:"door"=g
 ·exact .inr ⟨l1,_,q1W (by rw[e1]),h1,by unfold q36 gbd;rw[<-e1,q1Z];rfl,by simp⟩
 rw[vn e1]
 by_cases e2:"need"=g
 ·exact .inr ⟨l2,_,q1W (by rw[e2]),h2,by unfold q36 gbd;rw[<-e2,q1Y];rfl,by simp⟩
 rw[vn e2]
 by_cases e3:"bar"=g
 ·exact .inr ⟨l3,_,q1W (by rw[e3]),h3,by unfold q36 gbd;rw[<-e3,q2e];rfl,by simp⟩
 rw[vn e3]
 by_cases e4:"float"=g
 ·exact .inr ⟨l4,_,q1W (by rw[e4]),h4,by unfold q36 gbd;rw[<-e4,q1E];rfl,by simp⟩
 rw[vn e4]
 exact .inl ⟨rfl,by unfold q36 gbd;rw[q2v (Ne.symm e0) (Ne.symm e1) (Ne.symm e2) (Ne.symm e3) hg (Ne.symm e4)];rfl⟩
section
variable {P:Program}{w:World}{K:W.Frag}{mg:Str->Option Value}{base:Heap}{xs:Xs}{cs:Cs}
theorem ok_gg (T:Txt mg cs)(L:Laid K mg "_law_gate_good" q02 ["_law_parts"])(wj:Cal P w K mg base 2 "_law_numbers" ["_law_parts","_law_bounds"] q99):Cal P w K mg base 3 "_law_gate_good" ["_law_parts"] spGg:=by
 refine L.cal (k:=2) q1R (fun vs H Q E h=>?_) (fun f cdv A outer s H vs Q E hr h=>?_)
 ·obtain ⟨p,g,ns,rfl,_⟩:=h
  rfl
 ·obtain ⟨p,g,ns,rfl,hp,hw,hl,k⟩:=h
  have big:=qC
  refine⟨_,(qg (qI (i:=1) q1R.nd rfl (Or.inl rfl) (qbb (q2D qk (qK qc) (q2D qk (qK (qa (qJ (qa qd (qa qd qc))) qc)) (q2D qk (qK (qa (qJ (qa qd (qa qd qc))) qc)) (q2D qk (qK (qa (qJ (qa qd (qa qd qc))) qc)) (q2D qk (qK (qa (qJ (qa qd (qa qd qc))) qc)) qb4))))) rfl rfl (by intro z;cases z) (by decide)))
   (qg (qQ (qr q0i (qD (qq K) (pv 0) qd (fun _ _=>rfl)) qk (qB _)) (qj (qw (qR wj hr (by decide) rfl (qa (qU (q04 K) (pv 0) (qY qd) q0s) (qa (qK (qa (qJ (qa qd (qa qd qc))) (qa (qJ (qa qd (qa qd qc))) qc))) qc))))) qy)
   (qj (qw (q6n (qab (pc_din (qaj hr) (qD (qq K) (pv 0) qd (fun _ _=>rfl)) (pv 1))) (q46 (qR wj hr (by decide) rfl (qa (qU (q04 K) (pv 0) (qY qd) q0s) (qa (qbc (qaj hr) (pv 1) (qD (qq K) (pv 0) qd (fun _ _=>rfl)) (fun _ _=>rfl)) qc))))))))),?_⟩
  walk_at "r"
  intro d gd
  have sd:Same H (upd H d (.dK [])):=Same.upd gd
  refine⟨by show 0<=sizeLine;omega,fun l0 gl0=>?_⟩
  generalize hG0:upd _ l0 _=H0
  have s0:=qp hG0 gl0
  have a0:=qo hG0
  refine r_pr fun l1 t1 H1 s1 b1 c1=>?_
  refine r_pr fun l2 t2 H2 s2 b2 c2=>?_
  refine r_pr fun l3 t3 H3 s3 b3 c3=>?_
  refine r_pr fun l4 t4 H4 s4 b4 c4=>?_
  have s24:=s3.trans s4
  have s14:=s2.trans s24
  have s04:=s1.trans s14
  have sd4:=s0.trans s04
  refine⟨sd4 _ _ qh,gds l0 l1 l2 l3 l4,rfl,by show 5<=15;omega,?_⟩
  rw[q8y]
  have s5:Same H (upd H4 d (.dK (gds l0 l1 l2 l3 l4))):=(sd.trans sd4).put gd
  have nd:∀{a:Addr} {o:HO},(∀kvs,o≠ .dK kvs)->H4 a=some o->upd H4 d (.dK (gds l0 l1 l2 l3 l4)) a=some o:=fun {a o} hn h=>by
   have:a≠d:=fun z=>by rw[z,sd4 _ _ qh] at h;exact hn _ (zE h).symm
   rw[qm this];exact h
  have B1:=q4e (nd (fun _ z=>nomatch z) (s14 _ _ b1)) (nd (fun _ z=>nomatch z) (s14 _ _ c1))
  have B2:=q4e (nd (fun _ z=>nomatch z) (s24 _ _ b2)) (nd (fun _ z=>nomatch z) (s24 _ _ c2))
  have B3:=q4e (nd (fun _ z=>nomatch z) (s4 _ _ b3)) (nd (fun _ z=>nomatch z) (s4 _ _ c3))
  have B4:=q4e (nd (fun _ z=>nomatch z) b4) (nd (fun _ z=>nomatch z) c4)
  have B0:BdAt (upd H4 d (.dK (gds l0 l1 l2 l3 l4))) l0 []:=⟨[],nd (fun _ z=>nomatch z) (s04 _ _ a0),Rows.nil⟩
  have hd5:upd H4 d (.dK (gds l0 l1 l2 l3 l4)) d=some (.dK (gds l0 l1 l2 l3 l4)):=qh
  generalize upd H4 d (.dK (gds l0 l1 l2 l3 l4))=H5 at s5 B0 B1 B2 B3 B4 hd5 ⊢
  have hp5:=s5 _ _ hp
  walk_at "r"
  refine ifd (fun h=>?_) (fun h=>?_)
  ·subst h
   walk_at "r"
   refine⟨p,_,rfl,SqL.of hp5,fun q gq=>?_⟩
   rw[q0G]
   generalize hGq:upd _ q _=H6
   have s6:=qp hGq gq
   have h6:=qo hGq
   walk_at "r"
   intro t7 gt7
   generalize hG7:upd _ t7 _=H7
   have s7:=qp hG7 gt7
   have h7:=qo hG7
   walk_at "r"
   intro t8 gt8
   generalize hG8:upd _ t8 _=H8
   have s8:=qp hG8 gt8
   have h8:=qo hG8
   walk_at "r"
   intro t9 gt9
   generalize hG9:upd _ t9 _=H9
   have s9:=qp hG9 gt9
   have h9:=qo hG9
   have s69:=s7.trans (s8.trans s9)
   refine⟨q,t9,ns,[(0,10),(0,12)],rfl,s69 _ _ h6,hw,by omega,⟨[t7,t8],h9,rfl,fun i p x e1 e2=>?_⟩,by simp,fun H' s'=>?_⟩
   ·rcases i with _|_|i
    ·cases e1;cases e2;exact s9 _ _ (s8 _ _ h7)
    ·cases e1;cases e2;exact s9 _ _ h8
    ·simp at e1
   ·have:q36 "wade" ns=q1f ns [(0,10),(0,12)]:=by unfold q36 gbd;rw[q1X];rfl
    rw[this] at k
    exact k _ (s5.trans (s6.trans (s69.trans s')))
  ·walk_at "r"
   unfold tDIn
   walk_at "r"
   refine⟨d,_,rfl,DGet.k (k:= .inr g) hd5,?_⟩
   rcases q8z h B0 B1 B2 B3 B4 ns with⟨e1,e2⟩|⟨l,bs,e1,e2,e3,e4⟩
   ·rw [e1]
    rw[e2] at k
    exact⟨false,rfl,k _ s5⟩
   ·rw [e1]
    refine⟨true,rfl,?_⟩
    walk_at "r"
    refine⟨p,_,rfl,SqL.of hp5,fun q gq=>?_⟩
    rw[q0G]
    generalize hGq:upd _ q _=H6
    have s6:=qp hGq gq
    have h6:=qo hGq
    have hp6:=s6 _ _ hp5
    walk_at "r"
    unfold tDGet
    walk_at "r"
    have eg:DGet H6 d (.str g) (some (.ref l)):=by
     have:=DGet.k (k:= .inr g) (s6 _ _ hd5)
     rw[e1] at this
     exact this
    refine⟨d,_,rfl,eg,?_⟩
    walk_at "r"
    refine⟨q,l,ns,bs,rfl,h6,hw,by omega,e2.mono s6,e4,fun H' s'=>?_⟩
    rw[e3] at k
    exact k _ (s5.trans (s6.trans s'))
end
theorem q9r {ws:List Str}{lo hi:Int}:q1f ws [(lo,hi)]=true↔∃a,ws=[a]/\isN a=true/\lo<=vN a/\vN a<hi:=by
 constructor
 ·intro h
  simp only[q1f,Bool.and_eq_true,decide_eq_true_eq] at h
  obtain⟨a,rfl⟩:=List.length_eq_one_iff.mp h.1
  have:=h.2
  simp[numB] at this
  exact⟨a,rfl,this.1,this.2.1,this.2.2⟩
 ·rintro ⟨a,rfl,h1,h2,h3⟩
  simp[q1f,numB,h1,h2,h3]
theorem q5m {ws:List Str}{l1 h1 l2 h2:Int}:q1f ws [(l1,h1),(l2,h2)]=true↔∃a b,ws=[a,b]/\isN a=true/\isN b=true/\(l1<=vN a/\vN a<h1)/\l2<=vN b/\vN b<h2:=by
 constructor
 ·intro h
  simp only[q1f,Bool.and_eq_true,decide_eq_true_eq] at h
  obtain⟨a,b,rfl⟩:∃a b,ws=[a,b]:=match ws,h.1 with|[a,b],_=>⟨a,b,rfl⟩
  have:=h.2
  simp[numB] at this
  exact⟨a,b,rfl,this.1.1,this.2.1,this.1.2,this.2.2⟩
 ·rintro ⟨a,b,rfl,x1,x2,⟨x3,x4⟩,x5,x6⟩
  simp[q1f,numB,x1,x2,x3,x4,x5,x6]
def spHg:Sp:=fun vs H Q _=>E4 fun(p:Addr) (z0:Str) (ws:List Str) (k:Nat)=>A6 (vs=[.ref p,.int k]) (k<=2) (H p=some (.lst (V.str z0::ws.map V.str))) ((∀y∈ws,Wok y)) (ws.length<=11) (∀b:Bool,(b=true↔q3s C0 k z0 ws)->∀H',Same H H'->Q (.bl b) H')
def q7a (r:Int)(z0:Str)(ws:List Str):Prop:=((z0="way"\/z0="drop")/\q4R r ws)\/(z0="thing"/\q18 r 0 11 ws)\/(z0="lever"/\q18 r 1 255 ws)\/(z0="wheel"/\q18 r 0 9 ws)
def spLg:Sp:=fun vs H Q _=>E4 fun(p:Addr) (z0:Str) (ws:List Str) (r:Int)=>A7 (vs=[.ref p,.int r]) (r<=14) ((∃m,q1J z0 m)) (H p=some (.lst (V.str z0::ws.map V.str))) ((∀y∈ws,Wok y)) (ws.length<=11) (∀b:Bool,(b=true↔q7a r z0 ws)->∀H',Same H H'->Q (.bl b) H')
section
variable {P:Program}{w:World}{K:W.Frag}{mg:Str->Option Value}{base:Heap}{xs:Xs}{cs:Cs}
theorem ok_hg (T:Txt mg cs)(L:Laid K mg "_law_head_good" q01 ["_law_parts","_law_k"])(wj:Cal P w K mg base 2 "_law_numbers" ["_law_parts","_law_bounds"] q99):Cal P w K mg base 3 "_law_head_good" ["_law_parts","_law_k"] spHg:=by
 refine L.cal (k:=2) q2Z (fun vs H Q E h=>?_) (fun f cdv A outer s H vs Q E hr h=>?_)
 ·obtain ⟨p,z0,ws,k,rfl,_⟩:=h
  rfl
 ·obtain ⟨p,z0,ws,i,rfl,hi,hp,hw,hl,k⟩:=h
  have big:=qC
  refine⟨_,(qg (qQ (qr q5l (pv 1) qd (qB _)) (qj (qw (q6n (q1w q0i (qD (qq K) (pv 0) qd (fun _ _=>rfl)) (qD (qq K) (qK (qa qk (qa qk qc))) (qv q3d (pv 1) qd) (fun _ _=>rfl)) (qB _)) (q46 (qR wj hr (by decide) rfl (qa (qU (q04 K) (pv 0) (qY qd) q0s) (qa (qK (qa (qJ (qa qd (qa (qD (qq K) (qK (qa qd (qa qd qc))) (qv q3d (pv 1) qd) (fun _ _=>rfl)) qc))) qc)) qc))))))) qy)
   (qg (qQ (PW.pt (q23 (qr q4y (qD (qq K) (pv 0) qd (fun _ _=>rfl)) qk (qB _)) (q1i (q1S (q1a (qR wj hr (by decide) rfl (qa (qU (q04 K) (pv 0) (qY qd) (qY qd)) (qa (qK (qa (qJ (qa qd (qa qd qc))) qc)) qc)))))))) (qj (qw q2F)) qy)
   (qj (qw (qR wj hr (by decide) rfl (qa (qU (q04 K) (pv 0) (qY qd) q0s) (qa (qK (qa (qJ (qa qd (qa (q09 intT rfl T.was q3P (qa (qD (qq K) (pv 0) qd (fun _ _=>rfl)) qc)) qc))) (qa (qJ (qa qd (qa (q09 intT rfl T.was q3P (qa (qD (qq K) (pv 0) qd (fun _ _=>rfl)) qc)) qc))) qc))) qc))))))),?_⟩
  walk_at "r"
  refine ifd (fun h=>?_) (fun h=>?_)
  ·have hi2:i=1\/i=2:=by omega
   rcases hi2 with rfl|rfl
   ·walk_at "r"
    intro l gl
    generalize hGl:upd _ l _=H1
    have s1:=qp hGl gl
    have h1:=qo hGl
    have hp1:=s1 _ _ hp
    walk_at "r"
    try refine q0f (SqL.of h1) (qE (j:=0) rfl) ?_
    walk_at "r"
    refine ifd (fun hz=>?_) (fun hz=>?_)
    ·walk_at "r"
     refine⟨p,_,rfl,SqL.of hp1,fun q gq=>?_⟩
     rw[q0G]
     generalize hGq:upd _ q _=H2
     have s2:=qp hGq gq
     have h2:=qo hGq
     walk_at "r"
     intro l3 gl3
     generalize hG3:upd _ l3 _=H3
     have s3:=qp hG3 gl3
     have h3:=qo hG3
     walk_at "r"
     try refine q0f (SqL.of h3) (qE (j:=0) rfl) ?_
     walk_at "r"
     intro t4 gt4
     generalize hG4:upd _ t4 _=H4
     have s4:=qp hG4 gt4
     have h4:=qo hG4
     walk_at "r"
     intro l5 gl5
     generalize hG5:upd _ l5 _=H5
     have s5:=qp hG5 gl5
     have h5:=qo hG5
     have s25:=s3.trans (s4.trans s5)
     refine⟨q,l5,ws,[(0,256)],rfl,s25 _ _ h2,hw,by omega,q4e h5 (s5 _ _ h4),by simp,fun H' s'=>k _ ?_ _ (s1.trans (s2.trans (s25.trans s')))⟩
     rw[q9r]
     constructor
     ·rintro ⟨a,e,x1,_,x2⟩
      exact⟨hz,a,e,x1,by omega⟩
     ·rintro ⟨_,a,e,x1,x2⟩
      exact⟨a,e,x1,q0U _,by omega⟩
    ·exact k false ⟨(fun z=>nomatch z),fun g=>absurd g.1 hz⟩ _ s1
   ·walk_at "r"
    intro l gl
    generalize hGl:upd _ l _=H1
    have s1:=qp hGl gl
    have h1:=qo hGl
    have hp1:=s1 _ _ hp
    walk_at "r"
    try refine q0f (SqL.of h1) (qE (j:=1) rfl) ?_
    walk_at "r"
    refine ifd (fun hz=>?_) (fun hz=>?_)
    ·walk_at "r"
     refine⟨p,_,rfl,SqL.of hp1,fun q gq=>?_⟩
     rw[q0G]
     generalize hGq:upd _ q _=H2
     have s2:=qp hGq gq
     have h2:=qo hGq
     walk_at "r"
     intro l3 gl3
     generalize hG3:upd _ l3 _=H3
     have s3:=qp hG3 gl3
     have h3:=qo hG3
     walk_at "r"
     try refine q0f (SqL.of h3) (qE (j:=1) rfl) ?_
     walk_at "r"
     intro t4 gt4
     generalize hG4:upd _ t4 _=H4
     have s4:=qp hG4 gt4
     have h4:=qo hG4
     walk_at "r"
     intro l5 gl5
     generalize hG5:upd _ l5 _=H5
     have s5:=qp hG5 gl5
     have h5:=qo hG5
     have s25:=s3.trans (s4.trans s5)
     refine⟨q,l5,ws,[(0,10)],rfl,s25 _ _ h2,hw,by omega,q4e h5 (s5 _ _ h4),by simp,fun H' s'=>k _ ?_ _ (s1.trans (s2.trans (s25.trans s')))⟩
     rw[q9r]
     constructor
     ·rintro ⟨a,e,x1,_,x2⟩
      exact⟨hz,a,e,x1,by omega⟩
     ·rintro ⟨_,a,e,x1,x2⟩
      exact⟨a,e,x1,q0U _,by omega⟩
    ·exact k false ⟨(fun z=>nomatch z),fun g=>absurd g.1 hz⟩ _ s1
  ·obtain rfl:i=0:=by omega
   walk_at "r"
   by_cases hz:z0="rooms"
   ·rw [show(!decide (z0="rooms"))=false by simp[hz]]
    refine iteF ?_
    walk_at "r"
    refine⟨p,_,rfl,SqL.of hp,fun q gq=>?_⟩
    rw[show(some (1:Int))=some (((1:Nat):Int)) from rfl,show(some (2:Int))=some (((2:Nat):Int)) from rfl]
    have ec:cutV (V.str z0::ws.map V.str) (some ((1:Nat):Int)) (some ((2:Nat):Int))=(ws.take 1).map V.str:=by
     cases ws with
     |nil=>rfl
     |cons a r=>rw[q8O _ 1 2 (by simp) (by simp)];rfl
    rw[ec]
    generalize hGq:upd _ q _=H1
    have s1:=qp hGq gq
    have h1:=qo hGq
    walk_at "r"
    intro t2 gt2
    generalize hG2:upd _ t2 _=H2
    have s2:=qp hG2 gt2
    have h2:=qo hG2
    walk_at "r"
    intro l3 gl3
    generalize hG3:upd _ l3 _=H3
    have s3:=qp hG3 gl3
    have h3:=qo hG3
    have s13:=s2.trans s3
    have s03:=s1.trans s13
    have b3:BdAt H3 l3 [(1,15)]:=⟨[t2],h3,rfl,fun i p x e1 e2=>by
     cases i with
     |zero=>cases e1;cases e2;exact s3 _ _ h2
     |succ i=>simp at e1⟩
    refine⟨q,l3,ws.take 1,_,rfl,s13 _ _ h1,fun y hy=>hw y (zaF hy),by rw[zW];omega,b3,by simp,fun H4 s4=>?_⟩
    have s04:=s03.trans s4
    cases en:q1f (ws.take 1) [(1,15)] with
    |false=>
     walk_at "r"
     refine k false ⟨(fun z=>nomatch z),fun g=>?_⟩ _ s04
     obtain⟨_,a,b,c,rfl,x1,_,_,x2,x3,_⟩:=g
     have:q1f ([a,b,c].take 1) [(1,15)]=true:=q9r.mpr ⟨a,rfl,x1,x2,by omega⟩
     rw[en] at this
     cases this
    |true=>
     obtain⟨a,e,x1,x2,x3⟩:=q9r.mp en
     obtain⟨r,rfl⟩:∃r,ws=a::r:=by
      cases ws with
      |nil=>cases e
      |cons b r=>cases e;exact⟨r,rfl⟩
     have hp4:=s04 _ _ hp
     have wa:=hw a (by simp)
     walk_at "r"
     refine⟨p,_,rfl,SqL.of hp4,fun q5 gq5=>?_⟩
     rw[show(some (2:Int))=some (((2:Nat):Int)) from rfl,q5v _ 2 (by simp)]
     generalize hG5:upd _ q5 _=H5
     have s5:=qp hG5 gq5
     have h5:H5 q5=some (.lst (r.map V.str)):=qo hG5
     have hp5:=s5 _ _ hp4
     walk_at "r"
     refine q0f (SqL.of hp5) (qE (j:=1) rfl) ?_
     walk_at "r"
     refine⟨a,vN a,rfl,q2k wa.asc (by have:=wa.len;omega) x1,by have:=wa.len;omega,?_⟩
     walk_at "r"
     intro t6 gt6
     generalize hG6:upd _ t6 _=H6
     have s6:=qp hG6 gt6
     have h6:=qo hG6
     have hp6:=s6 _ _ hp5
     walk_at "r"
     refine q0f (SqL.of hp6) (qE (j:=1) rfl) ?_
     walk_at "r"
     refine⟨a,vN a,rfl,q2k wa.asc (by have:=wa.len;omega) x1,by have:=wa.len;omega,?_⟩
     walk_at "r"
     intro t7 gt7
     generalize hG7:upd _ t7 _=H7
     have s7:=qp hG7 gt7
     have h7:=qo hG7
     walk_at "r"
     intro l8 gl8
     generalize hG8:upd _ l8 _=H8
     have s8:=qp hG8 gl8
     have h8:=qo hG8
     have s58:=s6.trans (s7.trans s8)
     refine⟨q5,l8,r,[(0,vN a),(0,vN a)],rfl,s58 _ _ h5,fun y hy=>hw y (by simp[hy]),by simp at hl;omega,⟨[t6,t7],h8,rfl,fun i p x e1 e2=>?_⟩,by simp;omega,fun H' s'=>k _ ?_ _ (s04.trans (s5.trans (s58.trans s')))⟩
     ·rcases i with _|_|i
      ·cases e1;cases e2;exact s8 _ _ (s7 _ _ h6)
      ·cases e1;cases e2;exact s8 _ _ h7
      ·simp at e1
     ·rw [q5m]
      constructor
      ·rintro ⟨b,c,rfl,y1,y2,⟨y3,y4⟩,y5,y6⟩
       exact⟨hz,a,b,c,rfl,x1,y1,y2,x2,by omega,y4,y6⟩
      ·rintro ⟨_,a',b,c,e,y0,y1,y2,y3,y4,y5,y6⟩
       cases e
       exact⟨b,c,rfl,y1,y2,⟨q0U _,y5⟩,q0U _,y6⟩
   ·rw [show(!decide (z0="rooms"))=true by simp[hz]]
    walk_at "r"
    exact k false ⟨(fun z=>nomatch z),fun g=>absurd g.1 hz⟩ _ (Same.refl _)
end
theorem lg_way {r:Int}{z0:Str}{ws:List Str}(hz:z0="way"\/z0="drop"):q7a r z0 ws↔q4R r ws:=by
 constructor
 ·intro g
  rcases g with⟨_,g⟩|⟨rfl,_⟩|⟨rfl,_⟩|⟨rfl,_⟩
  ·exact g
  all_goals (exfalso;revert hz;walk_at "k")
 ·exact fun g=> .inl ⟨hz,g⟩
theorem q9z {r:Int}{ws:List Str}:q7a r "thing" ws↔q1f ws [(0,r),(0,12)]=true:=by
 rw[q5m]
 constructor
 ·intro g
  rcases g with⟨h,_⟩|⟨h,g⟩|⟨h,_⟩|⟨h,_⟩
  ·exact absurd h (by walk_at "k")
  ·obtain ⟨a,b,e,x1,x2,x3,x4,x5⟩:=g
   exact⟨a,b,e,x1,x2,⟨q0U _,x3⟩,x4,by omega⟩
  ·exact absurd h (by walk_at "k")
  ·exact absurd h (by walk_at "k")
 ·rintro ⟨a,b,e,x1,x2,⟨_,x3⟩,x4,x5⟩
  exact .inr (.inl ⟨rfl,a,b,e,x1,x2,x3,x4,by omega⟩)
theorem q9A {r:Int}{ws:List Str}:q7a r "lever" ws↔q1f ws [(0,r),(1,256)]=true:=by
 rw[q5m]
 constructor
 ·intro g
  rcases g with⟨h,_⟩|⟨h,_⟩|⟨h,g⟩|⟨h,_⟩
  ·exact absurd h (by walk_at "k")
  ·exact absurd h (by walk_at "k")
  ·obtain ⟨a,b,e,x1,x2,x3,x4,x5⟩:=g
   exact⟨a,b,e,x1,x2,⟨q0U _,x3⟩,x4,by omega⟩
  ·exact absurd h (by walk_at "k")
 ·rintro ⟨a,b,e,x1,x2,⟨_,x3⟩,x4,x5⟩
  exact .inr (.inr (.inl ⟨rfl,a,b,e,x1,x2,x3,x4,by omega⟩))
theorem q9y {r:Int}{ws:List Str}:q7a r "wheel" ws↔q1f ws [(0,r),(0,10)]=true:=by
 rw[q5m]
 constructor
 ·intro g
  rcases g with⟨h,_⟩|⟨h,_⟩|⟨h,_⟩|⟨h,g⟩
  ·exact absurd h (by walk_at "k")
  ·exact absurd h (by walk_at "k")
  ·exact absurd h (by walk_at "k")
  ·obtain ⟨a,b,e,x1,x2,x3,x4,x5⟩:=g
   exact⟨a,b,e,x1,x2,⟨q0U _,x3⟩,x4,by omega⟩
 ·rintro ⟨a,b,e,x1,x2,⟨_,x3⟩,x4,x5⟩
  exact .inr (.inr (.inr ⟨rfl,a,b,e,x1,x2,x3,x4,by omega⟩))
section
variable {P:Program}{w:World}{K:W.Frag}{mg:Str->Option Value}{base:Heap}{xs:Xs}{cs:Cs}
theorem ok_lg (T:Txt mg cs)(L:Laid K mg "_law_line_good" q00 ["_law_parts","_law_rooms"])(wj:Cal P w K mg base 2 "_law_numbers" ["_law_parts","_law_bounds"] q99)(wU:Cal P w K mg base 3 "_law_gate_good" ["_law_parts"] spGg):Cal P w K mg base 4 "_law_line_good" ["_law_parts","_law_rooms"] spLg:=by
 refine L.cal (k:=3) q1Q (fun vs H Q E h=>?_) (fun f cdv A outer s H vs Q E hr h=>?_)
 ·obtain ⟨p,z0,ws,r,rfl,_⟩:=h
  rfl
 ·obtain ⟨p,z0,ws,r,rfl,r14,⟨m,hm⟩,hp,hw,hl,k⟩:=h
  have big:=qC
  refine⟨_,(qg (qQ (PW.pt (q23 (qr q0i (qD (qq K) (pv 0) qd (fun _ _=>rfl)) qk (qB _)) (q1i (qr q0i (qD (qq K) (pv 0) qd (fun _ _=>rfl)) qk (qB _))))) (qg (qQ (PW.pt (q23 (qr q2G (qx (lenK K) rfl T.wq q0k (qa (pv 0) qc)) qd (qB _)) (q1i (q1S (q1a (qR wj hr (by decide) rfl (qa (qU (q04 K) (pv 0) (qY qd) (qY qd)) (qa (qK (qa (qJ (qa qd (qa (pv 1) qc))) (qa (qJ (qa qd (qa (pv 1) qc))) qc))) qc)))))))) (qj (qw q2F)) qy)
   (qj (qw (q6n (q1w q4y (qD (qq K) (pv 0) qd (fun _ _=>rfl)) (qD (qq K) (pv 0) qd (fun _ _=>rfl)) (qB _)) (q46 (qR wU hr (by decide) rfl (qa (qU (q04 K) (pv 0) (qY qd) q0s) qc))))))) qy)
   (qg (qI (i:=2) q1Q.nd rfl (Or.inl rfl) (qD (qq K) (qK (qa (qJ (qa qd (qa qd qc))) (qa (qJ (qa qd (qa qd qc))) (qa (qJ (qa qd (qa qd qc))) qc)))) (q13 zU zbz PySem.F.type_list_index (q8a K) (qK (qa qk (qa qk (qa qk qc)))) (qa (qD (qq K) (pv 0) qd (fun _ _=>rfl)) qc)) (fun _ _=>rfl)))
   (qj (qw (qR wj hr (by decide) rfl (qa (qU (q04 K) (pv 0) (qY qd) q0s) (qa (qK (qa (qJ (qa qd (qa (pv 1) qc))) (qa (pv 2) qc))) qc))))))),?_⟩
  walk_at "r"
  rcases hm with⟨hz,rfl⟩|⟨rfl,rfl⟩|⟨rfl,rfl⟩|⟨rfl,rfl⟩
  ·have lg:=lg_way (r:=r) (ws:=ws) hz
   have sI_ne:∀{a b:Str},Wok a->Wok b->isN a=true->isN b=true->vN a<r->vN b<r->vN a=vN b->a=b:=fun {a b} wa wb na nb ra rb e=>by
    rw[q1j wa.asc na (by omega),q1j wb.asc nb (by omega),e]
   rcases hz with rfl|rfl
   ·refine ifd (fun _=>?_) (fun h=>absurd rfl h)
    walk_at "r"
    refine ifd (fun h4=>?_) (fun h4=>?_)
    ·walk_at "r"
     refine k false ⟨(fun z=>nomatch z),fun g=>?_⟩ _ (Same.refl _)
     obtain⟨a,b,g',ns,rfl,_⟩:=lg.mp g
     simp at h4
     omega
    obtain⟨a,b,g,ns,rfl⟩:∃a b g ns,ws=a::b::g::ns:=match ws,h4 with
     |a::b::g::ns,_=>⟨_,_,_,_,rfl⟩
     |[],h=>absurd (by simp) h
     |[_],h=>absurd (by simp) h
     |[_,_],h=>absurd (by simp) h
    have wa:=hw a (by simp)
    have wb:=hw b (by simp)
    walk_at "r"
    refine⟨p,_,rfl,SqL.of hp,fun q gq=>?_⟩
    rw[show(some (1:Int))=some (((1:Nat):Int)) from rfl,show(some (3:Int))=some (((3:Nat):Int)) from rfl,q8O _ 1 3 (by simp) (by simp)]
    generalize hGq:upd _ q _=H1
    have s1:=qp hGq gq
    have h1:H1 q=some (.lst ([a,b].map V.str)):=qo hGq
    walk_at "r"
    intro t2 g2
    generalize hG2:upd _ t2 _=H2
    have s2:=qp hG2 g2
    have h2:=qo hG2
    walk_at "r"
    intro t3 g3
    generalize hG3:upd _ t3 _=H3
    have s3:=qp hG3 g3
    have h3:=qo hG3
    walk_at "r"
    intro l4 g4
    generalize hG4:upd _ l4 _=H4
    have s4:=qp hG4 g4
    have h4':=qo hG4
    have s14:=s2.trans (s3.trans s4)
    have s04:=s1.trans s14
    refine⟨q,l4,[a,b],[(0,r),(0,r)],rfl,s14 _ _ h1,fun y hy=>by simp at hy;rcases hy with rfl|rfl<;>assumption,by simp,⟨[t2,t3],h4',rfl,fun i p x e1 e2=>?_⟩,by simp;omega,fun H5 s5=>?_⟩
    ·rcases i with _|_|i
     ·cases e1;cases e2;exact s4 _ _ (s3 _ _ h2)
     ·cases e1;cases e2;exact s4 _ _ h3
     ·simp at e1
    have s05:=s04.trans s5
    have hp5:=s05 _ _ hp
    cases en:q1f [a,b] [(0,r),(0,r)] with
    |false=>
     walk_at "r"
     refine k false ⟨(fun z=>nomatch z),fun g=>?_⟩ _ s05
     obtain⟨a',b',g',ns',e,x1,x2,_,x3,x4,_⟩:=lg.mp g
     cases e
     have:=q5m.mpr (⟨a,b,rfl,x1,x2,⟨q0U a,x3⟩,q0U b,x4⟩:∃x y,[a,b]=[x,y]/\isN x=true/\isN y=true/\((0:Int)<=vN x/\vN x<r)/\(0:Int)<=vN y/\vN y<r)
     rw[en] at this
     cases this
    |true=>
     obtain⟨a',b',e,x1,x2,⟨_,x3⟩,_,x4⟩:=q5m.mp en
     cases e
     walk_at "r"
     try refine q0f (SqL.of hp5) (qE (j:=1) rfl) ?_
     walk_at "r"
     try refine q0f (SqL.of hp5) (qE (j:=2) rfl) ?_
     walk_at "r"
     by_cases hab:a=b
     ·rw [show(!decide (a=b))=false by simp[hab]]
      refine k false ⟨(fun z=>nomatch z),fun g=>?_⟩ _ s05
      obtain⟨a',b',g',ns',e,_,_,_,_,_,x5,_⟩:=lg.mp g
      cases e
      exact absurd (by rw[hab]) x5
     ·rw [show(!decide (a=b))=true by simp[hab]]
      walk_at "r"
      refine⟨p,_,rfl,SqL.of hp5,fun q6 g6=>?_⟩
      rw[show(some (3:Int))=some (((3:Nat):Int)) from rfl,q5v _ 3 (by simp)]
      generalize hG6:upd _ q6 _=H6
      have s6:=qp hG6 g6
      have h6:H6 q6=some (.lst (V.str g::ns.map V.str)):=qo hG6
      walk_at "r"
      refine⟨q6,g,ns,rfl,h6,fun y hy=>hw y (by simp[hy]),by simp at hl;omega,fun H' s'=>k _ ?_ _ (s05.trans (s6.trans s'))⟩
      rw[q6z,zS,lg]
      constructor
      ·rintro ⟨y1,y2⟩
       exact⟨a,b,g,ns,rfl,x1,x2,y1,x3,x4,fun e=>hab (sI_ne wa wb x1 x2 x3 x4 e),y2⟩
      ·rintro ⟨a',b',g',ns',e,_,_,y1,_,_,_,y2⟩
       cases e
       exact⟨y1,y2⟩
   ·refine ifd (fun h=>absurd h (by walk_at "k")) (fun _=>?_)
    walk_at "r"
    refine ifd (fun _=>?_) (fun h=>absurd rfl h)
    walk_at "r"
    refine ifd (fun h4=>?_) (fun h4=>?_)
    ·walk_at "r"
     refine k false ⟨(fun z=>nomatch z),fun g=>?_⟩ _ (Same.refl _)
     obtain⟨a,b,g',ns,rfl,_⟩:=lg.mp g
     simp at h4
     omega
    obtain⟨a,b,g,ns,rfl⟩:∃a b g ns,ws=a::b::g::ns:=match ws,h4 with
     |a::b::g::ns,_=>⟨_,_,_,_,rfl⟩
     |[],h=>absurd (by simp) h
     |[_],h=>absurd (by simp) h
     |[_,_],h=>absurd (by simp) h
    have wa:=hw a (by simp)
    have wb:=hw b (by simp)
    walk_at "r"
    refine⟨p,_,rfl,SqL.of hp,fun q gq=>?_⟩
    rw[show(some (1:Int))=some (((1:Nat):Int)) from rfl,show(some (3:Int))=some (((3:Nat):Int)) from rfl,q8O _ 1 3 (by simp) (by simp)]
    generalize hGq:upd _ q _=H1
    have s1:=qp hGq gq
    have h1:H1 q=some (.lst ([a,b].map V.str)):=qo hGq
    walk_at "r"
    intro t2 g2
    generalize hG2:upd _ t2 _=H2
    have s2:=qp hG2 g2
    have h2:=qo hG2
    walk_at "r"
    intro t3 g3
    generalize hG3:upd _ t3 _=H3
    have s3:=qp hG3 g3
    have h3:=qo hG3
    walk_at "r"
    intro l4 g4
    generalize hG4:upd _ l4 _=H4
    have s4:=qp hG4 g4
    have h4':=qo hG4
    have s14:=s2.trans (s3.trans s4)
    have s04:=s1.trans s14
    refine⟨q,l4,[a,b],[(0,r),(0,r)],rfl,s14 _ _ h1,fun y hy=>by simp at hy;rcases hy with rfl|rfl<;>assumption,by simp,⟨[t2,t3],h4',rfl,fun i p x e1 e2=>?_⟩,by simp;omega,fun H5 s5=>?_⟩
    ·rcases i with _|_|i
     ·cases e1;cases e2;exact s4 _ _ (s3 _ _ h2)
     ·cases e1;cases e2;exact s4 _ _ h3
     ·simp at e1
    have s05:=s04.trans s5
    have hp5:=s05 _ _ hp
    cases en:q1f [a,b] [(0,r),(0,r)] with
    |false=>
     walk_at "r"
     refine k false ⟨(fun z=>nomatch z),fun g=>?_⟩ _ s05
     obtain⟨a',b',g',ns',e,x1,x2,_,x3,x4,_⟩:=lg.mp g
     cases e
     have:=q5m.mpr (⟨a,b,rfl,x1,x2,⟨q0U a,x3⟩,q0U b,x4⟩:∃x y,[a,b]=[x,y]/\isN x=true/\isN y=true/\((0:Int)<=vN x/\vN x<r)/\(0:Int)<=vN y/\vN y<r)
     rw[en] at this
     cases this
    |true=>
     obtain⟨a',b',e,x1,x2,⟨_,x3⟩,_,x4⟩:=q5m.mp en
     cases e
     walk_at "r"
     try refine q0f (SqL.of hp5) (qE (j:=1) rfl) ?_
     walk_at "r"
     try refine q0f (SqL.of hp5) (qE (j:=2) rfl) ?_
     walk_at "r"
     by_cases hab:a=b
     ·rw [show(!decide (a=b))=false by simp[hab]]
      refine k false ⟨(fun z=>nomatch z),fun g=>?_⟩ _ s05
      obtain⟨a',b',g',ns',e,_,_,_,_,_,x5,_⟩:=lg.mp g
      cases e
      exact absurd (by rw[hab]) x5
     ·rw [show(!decide (a=b))=true by simp[hab]]
      walk_at "r"
      refine⟨p,_,rfl,SqL.of hp5,fun q6 g6=>?_⟩
      rw[show(some (3:Int))=some (((3:Nat):Int)) from rfl,q5v _ 3 (by simp)]
      generalize hG6:upd _ q6 _=H6
      have s6:=qp hG6 g6
      have h6:H6 q6=some (.lst (V.str g::ns.map V.str)):=qo hG6
      walk_at "r"
      refine⟨q6,g,ns,rfl,h6,fun y hy=>hw y (by simp[hy]),by simp at hl;omega,fun H' s'=>k _ ?_ _ (s05.trans (s6.trans s'))⟩
      rw[q6z,zS,lg]
      constructor
      ·rintro ⟨y1,y2⟩
       exact⟨a,b,g,ns,rfl,x1,x2,y1,x3,x4,fun e=>hab (sI_ne wa wb x1 x2 x3 x4 e),y2⟩
      ·rintro ⟨a',b',g',ns',e,_,_,y1,_,_,_,y2⟩
       cases e
       exact⟨y1,y2⟩
  ·refine ifd (fun h=>absurd h (by walk_at "k")) (fun _=>?_)
   walk_at "r"
   refine ifd (fun h=>absurd h (by walk_at "k")) (fun _=>?_)
   walk_at "r"
   intro t1 g1
   generalize hG1:upd _ t1 _=H1
   have s1:=qp hG1 g1
   have h1:=qo hG1
   walk_at "r"
   intro t2 g2
   generalize hG2:upd _ t2 _=H2
   have s2:=qp hG2 g2
   have h2:=qo hG2
   walk_at "r"
   intro t3 g3
   generalize hG3:upd _ t3 _=H3
   have s3:=qp hG3 g3
   have h3:=qo hG3
   walk_at "r"
   intro l4 g4
   generalize hG4:upd _ l4 _=H4
   have s4:=qp hG4 g4
   have h4:=qo hG4
   walk_at "r"
   intro l5 g5
   generalize hG5:upd _ l5 _=H5
   have s5:=qp hG5 g5
   have h5:=qo hG5
   have s34:=s3.trans s4
   have s24:=s2.trans s34
   have s05:=(s1.trans s24).trans s5
   have hp5:=s05 _ _ hp
   have h45:=s5 _ _ h4
   walk_at "r"
   refine⟨l5,["thing","lever","wheel"],"thing",0,rfl,rfl,SqL.of h5,rfl,fun i hi=>?_,by decide,?_⟩
   ·match i,hi with
    |_,hi=>exact absurd hi (by omega)
   walk_at "r"
   try refine q0f (SqL.of h45) (qE (j:=0) rfl) ?_
   walk_at "r"
   refine⟨p,_,rfl,SqL.of hp5,fun q gq=>?_⟩
   rw[q0G]
   generalize hGq:upd _ q _=H6
   have s6:=qp hGq gq
   have h6:=qo hGq
   walk_at "r"
   intro t7 g7
   generalize hG7:upd _ t7 _=H7
   have s7:=qp hG7 g7
   have h7:=qo hG7
   walk_at "r"
   intro l8 g8
   generalize hG8:upd _ l8 _=H8
   have s8:=qp hG8 g8
   have h8:=qo hG8
   have s68:=s7.trans s8
   have s58:=s6.trans s68
   refine⟨q,l8,ws,[(0,r),(0,12)],rfl,s68 _ _ h6,hw,by omega,⟨[t7,t1],h8,rfl,fun i p x e1 e2=>?_⟩,by simp;omega,fun H' s'=>k _ q9z.symm _ (s05.trans (s58.trans s'))⟩
   rcases i with _|_|i
   ·cases e1;cases e2;exact s8 _ _ h7
   ·cases e1;cases e2;exact s58 _ _ (s5 _ _ (s24 _ _ h1))
   ·simp at e1
  ·refine ifd (fun h=>absurd h (by walk_at "k")) (fun _=>?_)
   walk_at "r"
   refine ifd (fun h=>absurd h (by walk_at "k")) (fun _=>?_)
   walk_at "r"
   intro t1 g1
   generalize hG1:upd _ t1 _=H1
   have s1:=qp hG1 g1
   have h1:=qo hG1
   walk_at "r"
   intro t2 g2
   generalize hG2:upd _ t2 _=H2
   have s2:=qp hG2 g2
   have h2:=qo hG2
   walk_at "r"
   intro t3 g3
   generalize hG3:upd _ t3 _=H3
   have s3:=qp hG3 g3
   have h3:=qo hG3
   walk_at "r"
   intro l4 g4
   generalize hG4:upd _ l4 _=H4
   have s4:=qp hG4 g4
   have h4:=qo hG4
   walk_at "r"
   intro l5 g5
   generalize hG5:upd _ l5 _=H5
   have s5:=qp hG5 g5
   have h5:=qo hG5
   have s34:=s3.trans s4
   have s24:=s2.trans s34
   have s05:=(s1.trans s24).trans s5
   have hp5:=s05 _ _ hp
   have h45:=s5 _ _ h4
   walk_at "r"
   refine⟨l5,["thing","lever","wheel"],"lever",1,rfl,rfl,SqL.of h5,rfl,fun i hi=>?_,by decide,?_⟩
   ·match i,hi with
    |0,_=>walk_at "k"
   walk_at "r"
   try refine q0f (SqL.of h45) (qE (j:=1) rfl) ?_
   walk_at "r"
   refine⟨p,_,rfl,SqL.of hp5,fun q gq=>?_⟩
   rw[q0G]
   generalize hGq:upd _ q _=H6
   have s6:=qp hGq gq
   have h6:=qo hGq
   walk_at "r"
   intro t7 g7
   generalize hG7:upd _ t7 _=H7
   have s7:=qp hG7 g7
   have h7:=qo hG7
   walk_at "r"
   intro l8 g8
   generalize hG8:upd _ l8 _=H8
   have s8:=qp hG8 g8
   have h8:=qo hG8
   have s68:=s7.trans s8
   have s58:=s6.trans s68
   refine⟨q,l8,ws,[(0,r),(1,256)],rfl,s68 _ _ h6,hw,by omega,⟨[t7,t2],h8,rfl,fun i p x e1 e2=>?_⟩,by simp;omega,fun H' s'=>k _ q9A.symm _ (s05.trans (s58.trans s'))⟩
   rcases i with _|_|i
   ·cases e1;cases e2;exact s8 _ _ h7
   ·cases e1;cases e2;exact s58 _ _ (s5 _ _ (s34 _ _ h2))
   ·simp at e1
  ·refine ifd (fun h=>absurd h (by walk_at "k")) (fun _=>?_)
   walk_at "r"
   refine ifd (fun h=>absurd h (by walk_at "k")) (fun _=>?_)
   walk_at "r"
   intro t1 g1
   generalize hG1:upd _ t1 _=H1
   have s1:=qp hG1 g1
   have h1:=qo hG1
   walk_at "r"
   intro t2 g2
   generalize hG2:upd _ t2 _=H2
   have s2:=qp hG2 g2
   have h2:=qo hG2
   walk_at "r"
   intro t3 g3
   generalize hG3:upd _ t3 _=H3
   have s3:=qp hG3 g3
   have h3:=qo hG3
   walk_at "r"
   intro l4 g4
   generalize hG4:upd _ l4 _=H4
   have s4:=qp hG4 g4
   have h4:=qo hG4
   walk_at "r"
   intro l5 g5
   generalize hG5:upd _ l5 _=H5
   have s5:=qp hG5 g5
   have h5:=qo hG5
   have s34:=s3.trans s4
   have s24:=s2.trans s34
   have s05:=(s1.trans s24).trans s5
   have hp5:=s05 _ _ hp
   have h45:=s5 _ _ h4
   walk_at "r"
   refine⟨l5,["thing","lever","wheel"],"wheel",2,rfl,rfl,SqL.of h5,rfl,fun i hi=>?_,by decide,?_⟩
   ·match i,hi with
    |0,_=>walk_at "k"
    |1,_=>walk_at "k"
   walk_at "r"
   try refine q0f (SqL.of h45) (qE (j:=2) rfl) ?_
   walk_at "r"
   refine⟨p,_,rfl,SqL.of hp5,fun q gq=>?_⟩
   rw[q0G]
   generalize hGq:upd _ q _=H6
   have s6:=qp hGq gq
   have h6:=qo hGq
   walk_at "r"
   intro t7 g7
   generalize hG7:upd _ t7 _=H7
   have s7:=qp hG7 g7
   have h7:=qo hG7
   walk_at "r"
   intro l8 g8
   generalize hG8:upd _ l8 _=H8
   have s8:=qp hG8 g8
   have h8:=qo hG8
   have s68:=s7.trans s8
   have s58:=s6.trans s68
   refine⟨q,l8,ws,[(0,r),(0,10)],rfl,s68 _ _ h6,hw,by omega,⟨[t7,t3],h8,rfl,fun i p x e1 e2=>?_⟩,by simp;omega,fun H' s'=>k _ q9y.symm _ (s05.trans (s58.trans s'))⟩
   rcases i with _|_|i
   ·cases e1;cases e2;exact s8 _ _ h7
   ·cases e1;cases e2;exact s58 _ _ (s5 _ _ (s4 _ _ h3))
   ·simp at e1
end
theorem q7s {C D:Cl}{i:Nat}{z:Str}{ws:List Str}(h:i<3):q3s C i z ws↔q3s D i z ws:=by
 match i,h with
 |0,_=>exact Iff.rfl
 |1,_=>exact Iff.rfl
 |2,_=>exact Iff.rfl
theorem q8h {Ls:List Str}{C:Cl}{i:Nat}{z:Str}{ws:List Str}(h:i<3)(r:Run Ls i C):q0u (q1B C i z ws)=q0u C:=by
 match i,h,r with
 |0,_,.nil=>rfl
 |1,_,_=>rfl
 |2,_,_=>rfl
def mostN (m:Nat):Nat:=[20,8,4,4].getD m 0
theorem qaN {C:Cl}{z0:Str}{ws:List Str}{m:Nat}(hm:q1J z0 m):q0F C z0 ws↔q7a C.rooms z0 ws/\(q0u C).getD m 0+1<=mostN m/\q1c C m=false:=by
 constructor
 ·intro g
  refine⟨?_,?_,q6u g hm⟩
  ·rcases g with⟨a,_,_,b⟩|⟨a,_,_,b⟩|⟨a,_,_,b⟩|⟨a,_,b⟩
   ·exact .inl ⟨a,b⟩
   ·exact .inr (.inl ⟨a,b⟩)
   ·exact .inr (.inr (.inl ⟨a,b⟩))
   ·exact .inr (.inr (.inr ⟨a,b⟩))
  ·rcases hm with⟨hz,rfl⟩|⟨rfl,rfl⟩|⟨rfl,rfl⟩|⟨rfl,rfl⟩
   ·exact (q6h hz g).1
   ·exact (q3n g).1
   ·exact (q3o g).1
   ·exact (q3m g).1
 ·rintro ⟨g,h1,h2⟩
  have un:∀{n:Nat},q1J z0 n->m=n:=fun h=>q6o hm h
  rcases g with⟨a,b⟩|⟨a,b⟩|⟨a,b⟩|⟨a,b⟩
  ·cases un (.inl ⟨a,rfl⟩)
   exact .inl ⟨a,q8k.mp h2,h1,b⟩
  ·cases un (.inr (.inl ⟨a,rfl⟩))
   exact .inr (.inl ⟨a,q8j.mp h2,h1,b⟩)
  ·cases un (.inr (.inr (.inl ⟨a,rfl⟩)))
   exact .inr (.inr (.inl ⟨a,q8i.mp h2,h1,b⟩))
  ·cases un (.inr (.inr (.inr ⟨a,rfl⟩)))
   exact .inr (.inr (.inr ⟨a,h1,b⟩))
theorem q9B {C:Cl}{z0:Str}{ws:List Str}{m:Nat}(hm:q1J z0 m)(g:q0F C z0 ws):q0u (rowC C z0 ws)=(q0u C).set m ((q0u C).getD m 0+1):=by
 rcases hm with⟨hz,rfl⟩|⟨rfl,rfl⟩|⟨rfl,rfl⟩|⟨rfl,rfl⟩
 ·obtain ⟨_,a,b,g',ns,rfl,_⟩:=q6h hz g
  rw[q3z C hz]
  simp[q0u]
 ·obtain ⟨_,a,b,rfl,_⟩:=q3n g
  rw[q26]
  simp[q0u]
 ·obtain ⟨_,a,b,rfl,_⟩:=q3o g
  rw[q27]
  simp[q0u]
 ·obtain ⟨_,a,b,rfl,_⟩:=q3m g
  rw[q25]
  simp[q0u]
def five:List Str:=["way","thing","lever","wheel","drop"]
theorem qbP {z0:Str}{m:Nat}(hm:q1J z0 m):∃j,five[j]? =some z0/\(∀i,i<j->five[i]? ≠some z0)/\j % 4=m:=by
 rcases hm with⟨rfl|rfl,rfl⟩|⟨rfl,rfl⟩|⟨rfl,rfl⟩|⟨rfl,rfl⟩
 ·exact ⟨0,rfl,fun i hi=>absurd hi (by omega),rfl⟩
 ·exact ⟨4,rfl,fun i hi=>by match i,hi with|0,_=>walk_at "k"|1,_=>walk_at "k"|2,_=>walk_at "k"|3,_=>walk_at "k",rfl⟩
 ·exact ⟨1,rfl,fun i hi=>by match i,hi with|0,_=>walk_at "k",rfl⟩
 ·exact ⟨2,rfl,fun i hi=>by match i,hi with|0,_=>walk_at "k"|1,_=>walk_at "k",rfl⟩
 ·exact ⟨3,rfl,fun i hi=>by match i,hi with|0,_=>walk_at "k"|1,_=>walk_at "k"|2,_=>walk_at "k",rfl⟩
theorem qbO {z0:Str}:z0∈five↔∃m,q1J z0 m:=by
 unfold five
 simp only[List.mem_cons,List.not_mem_nil,or_false]
 constructor
 ·rintro (h|h|h|h|h)
  ·exact ⟨0,.inl ⟨.inl h,rfl⟩⟩
  ·exact ⟨1,.inr (.inl ⟨h,rfl⟩)⟩
  ·exact ⟨2,.inr (.inr (.inl ⟨h,rfl⟩))⟩
  ·exact ⟨3,.inr (.inr (.inr ⟨h,rfl⟩))⟩
  ·exact ⟨0,.inl ⟨.inr h,rfl⟩⟩
 ·rintro ⟨m,⟨h|h,_⟩|⟨h,_⟩|⟨h,_⟩|⟨h,_⟩⟩<;>simp[h]
theorem q4C {n j:Nat}(h:j<n):ixN n (j:Int)=some j:=by
 unfold ixN
 rw[zM (by omega),zM (by omega)]
 simp
theorem q6A (z0:Str):inV (.str z0) (five.map V.str)=true↔∃m,q1J z0 m:=by
 rw[<-qbO]
 simp[inV,five,eqV]
 constructor
 ·rintro (h|h|h|h|h)<;>simp[<-h]
 ·rintro (h|h|h|h|h)<;>simp[h]
theorem q7p (C:Cl){m:Nat}(h:m<=3):decide ((0:Int)<(((q0u C).drop (m+1)).map fun n:Nat=>(n:Int)).sum)=q1c C m:=by
 rw[zaT,zcb]
 match m,h with
 |0,_=>simp[q1c,q0u];omega
 |1,_=>simp[q1c,q0u];omega
 |2,_=>simp[q1c,q0u]
 |3,_=>simp[q1c,q0u]
theorem q5e {Ls:List Str}:∀{i:Nat} {C:Cl},Run Ls i C->0<i->∃z a r,Ls[0]? =some z/\tlw z=a::r/\isN a=true/\C.rooms=vN a
 |0,_,_,h=>absurd h (by omega)
 |1,_,h,_=>by
  obtain⟨C,z,a,b,c,rfl⟩:=h.inv
  obtain⟨_,x,y,u,e,n,_⟩:=c
  exact⟨z,x,[y,u],b,e,n,by rw[e];rfl⟩
 |i+2,_,h,_=>by
  obtain⟨C,z,a,b,c,rfl⟩:=h.inv
  obtain⟨y,x,r,e1,e2,e3,e4⟩:=q5e a (by omega)
  refine⟨y,x,r,e1,e2,e3,?_⟩
  rw[<-e4]
  match i,c with
  |0,_=>rfl
  |1,_=>rfl
  |i+2,c=>
   show(rowC C _ _).rooms=_
   unfold rowC
   split
   ·rfl
   ·split
    ·rfl
    ·split<;>rfl
def spFb:Sp:=fun vs H Q _=>E2 fun(p:Addr) (Ls:List Str)=>A6 (vs=[.ref p]) (H p=some (.lst (Ls.map V.str))) ((∀z∈Ls,Lok z)) (Ls.length<=100) ((∀C,Run Ls Ls.length C->3<=Ls.length->∀H',Same H H'->Q .non H')) ((∀i,q41 Ls i->∀H',Same H H'->Q (.int (i:Nat)) H'))
section
variable {P:Program}{w:World}{K:W.Frag}{mg:Str->Option Value}{base:Heap}{xs:Xs}{cs:Cs}
theorem ok_fb (T:Txt mg cs)(L:Laid K mg "_law_first_bad" q03 ["_law_lines_here"])(wV:Cal P w K mg base 3 "_law_head_good" ["_law_parts","_law_k"] spHg)(wW:Cal P w K mg base 4 "_law_line_good" ["_law_parts","_law_rooms"] spLg):Cal P w K mg base 5 "_law_first_bad" ["_law_lines_here"] spFb:=by
 refine L.cal (k:=4) q08 (fun vs H Q E h=>?_) (fun f cdv A outer s H vs Q E hr h=>?_)
 ·obtain ⟨p,Ls,rfl,_⟩:=h
  rfl
 ·obtain ⟨p,Ls,rfl,hp,hL,hl,k,ke⟩:=h
  have big:=qC
  have lc4:∀C,(q0u C).length=4:=fun C=>rfl
  refine⟨_,(qg (qI (i:=1) q08.nd rfl (Or.inl rfl) (qK (qa qd (qa qd (qa qd (qa qd qc))))))
   (qg (q28 PassesOwn.never rfl (q29 rfl T.vH (qa (qx (lenK K) rfl T.wq q0k (qa (pv 0) qc)) qc)) (qM (i:=2) q08.nd rfl (Or.inl rfl)) (qg (qI (i:=3) q08.nd rfl (Or.inl rfl) (q13 zV zaQ zaR q2h (qD (qq K) (pv 0) (pv 2) (fun _ _=>rfl)) (qa qk qc)))
   (qj (qQ (qr q2G (pv 2) qd (qB _)) (qj (qQ (q1S (q1a (qR wV hr (by decide) rfl (qa (pv 3) (qa (pv 2) qc))))) (qj (qw (pv 2))) qy)) (qg (qI (i:=4) q08.nd rfl (Or.inl rfl) (qK (qa qk (qa qk (qa qk (qa qk (qa qk qc)))))))
   (qg (qQ (PW.pt (q23 (qr (q4x K) (qD (qq K) (pv 3) qd (fun _ _=>rfl)) (pv 4) (by with_unfolding_all rfl)) (q1i (q1S (q1a (qR wW hr (by decide) rfl (qa (pv 3) (qa (q09 intT rfl T.was q3P (qa (qD (qq K) (q13 zV zaQ zaR q2h (qD (qq K) (pv 0) qd (fun _ _=>rfl)) (qa qk qc)) qd (fun _ _=>rfl)) qc)) qc)))))))) (qj (qw (pv 2))) qy)
   (qg (qI (i:=4) q08.nd rfl (Or.inl rfl) (qv qX (q13 zU zbz PySem.F.type_list_index (q8a K) (pv 4) (qa (qD (qq K) (pv 3) qd (fun _ _=>rfl)) qc)) qd))
   (qg (q45 (qv q0S (qD (qq K) (pv 1) (pv 4) (fun _ _=>rfl)) qd) (q6k (pv 1) (pv 4) q3l))
   (qj (qQ (PW.pt (q23 (qr q5l (qD (qq K) (pv 1) (pv 4) (fun _ _=>rfl)) (qD (qq K) (qK (qa qd (qa qd (qa qd (qa qd qc))))) (pv 4) (fun _ _=>rfl)) (qB _)) (q1i (qr q5l (qx (sumLK K rfl) rfl T.wck bt_sum (qa (qU (q04 K) (pv 1) (qY (qv q0S (pv 4) qd)) q0s) qc)) qd (qB _))))) (qj (qw (pv 2))) qy))))))))))
   (qg (qQ (qr q2G (qx (lenK K) rfl T.wq q0k (qa (pv 0) qc)) qd (qB _)) (qj (qw (qx (lenK K) rfl T.wq q0k (qa (pv 0) qc)))) qy)
   (qj (qw q3C))))),?_⟩
  walk_at "r"
  intro d gd
  have sd:Same H (upd H d (.lst [.int 0,.int 0,.int 0,.int 0])):=Same.upd gd
  have hp0:=sd _ _ hp
  walk_at "r"
  refine r_rg (by simp;omega) ?_
  rw[show((((Ls.map V.str).length:Nat):Int)).toNat=Ls.length by simp]
  refine q3L (fun i σ H'=>E3 fun v2 v3 v4=>A3 (σ=[some (.ref p),some (.ref d),v2,v3,v4]) (Same H H') (∃C,Run Ls i C/\H' d=some (.lst ((q0u C).map fun n:Nat=>V.int (n:Int))))) ⟨_,_,_,rfl,sd,_,.nil,qh⟩ ?_ ?_
  ·rintro i σ H' hi ⟨v2,v3,v4,rfl,s1,C,hR,hd⟩
   have ez:=zay hi
   have a2:(Ls.map V.str)[i]? =some (.str Ls[i]):=by simp[hi]
   have hz:=hL _ (zN hi)
   generalize Ls[i]=z at ez a2 hz
   have hz1:=hz.len
   have hz2:=hz.ws
   have wk:=hz.wok
   rw[q0v] at wk hz2
   have hp1:=s1 _ _ hp
   rw[Int.zero_add]
   walk_at "r"
   try refine q0f (SqL.of hp1) (qE a2) ?_
   walk_at "r"
   refine⟨rfl,?_⟩
   walk_at "r"
   refine⟨z,_,rfl,rfl,rfl,by omega,by rw[q0v];omega,fun q gq=>?_⟩
   rw[q0v]
   generalize hGq:upd _ q _=H1
   have s2:=qp hGq gq
   have h1:=qo hGq
   have hd1:=s2 _ _ hd
   have s12:=s1.trans s2
   walk_at "r"
   refine ifd (fun h3=>?_) (fun h3=>?_)
   ·walk_at "r"
    refine⟨q,hdw z,tlw z,i,rfl,by omega,h1,fun y hy=>wk y (by simp[hy]),by simp at hz2;omega,fun b hb H2 s3=>?_⟩
    have hb:=hb.trans (q7s (C:=C0) (D:=C) (by omega))
    cases b with
    |true=>
     have g:=hb.mp rfl
     walk_at "r"
     refine⟨_,_,_,rfl,s12.trans s3,_,.step hR ez g,?_⟩
     rw[q8h (by omega) hR]
     exact s3 _ _ hd1
    |false=>
     walk_at "r"
     exact ke i (.inl ⟨C,z,hR,ez,fun g=>nomatch hb.mpr g⟩) _ (s12.trans s3)
   ·walk_at "r"
    intro l2 g2
    generalize hG2:upd _ l2 _=H2
    have s3:=qp hG2 g2
    have h2:H2 l2=some (.lst (five.map V.str)):=qo hG2
    have h12:=s3 _ _ h1
    have hd2:=s3 _ _ hd1
    have s13:=s12.trans s3
    walk_at "r"
    refine⟨l2,_,rfl,.inl (SqL.of h2),rfl,by rw[List.all_map];exact zH.mpr fun _ _=>rfl,?_⟩
    by_cases hm:∃m,q1J (hdw z) m
    ·rw [(q6A _).mpr hm]
     refine⟨false,rfl,?_⟩
     obtain⟨m,hm⟩:=hm
     have hm3:m<=3:=by rcases hm with⟨_,rfl⟩|⟨_,rfl⟩|⟨_,rfl⟩|⟨_,rfl⟩<;>omega
     obtain⟨y,a,r,e1,e2,e3,e4⟩:=q5e hR (by omega)
     have oC:=hR.ok (by omega)
     have b2:(Ls.map V.str)[0]? =some (.str y):=by rw[zaq,e1];rfl
     have hy:=hL y (zaD e1)
     have hy1:=hy.len
     have hy2:=hy.ws
     have wa:=hy.wok a (by rw[q0v,e2];simp)
     rw[q0v] at hy2
     have hp2:=s13 _ _ hp
     walk_at "r"
     try refine q0f (SqL.of hp2) (qE b2) ?_
     walk_at "r"
     refine⟨rfl,?_⟩
     walk_at "r"
     refine⟨y,_,rfl,rfl,rfl,by omega,by rw[q0v];omega,fun q4 g4=>?_⟩
     rw[q0v,e2]
     generalize hG4:upd _ q4 _=H4
     have s4:=qp hG4 g4
     have h4:=qo hG4
     walk_at "r"
     try refine q0f (SqL.of h4) (qE (j:=1) rfl) ?_
     walk_at "r"
     refine⟨a,vN a,rfl,q2k wa.asc (by have:=wa.len;omega) e3,by have:=wa.len;omega,?_⟩
     walk_at "r"
     refine⟨q,hdw z,tlw z,vN a,rfl,by have:=oC.r2;omega,⟨m,hm⟩,s4 _ _ h12,fun y hy=>wk y (by simp[hy]),by simp at hz2;omega,fun b hb H5 s5=>?_⟩
     rw[<-e4] at hb
     have s15:=s13.trans (s4.trans s5)
     have s35:=s4.trans s5
     have hd5:=s35 _ _ hd2
     have h25:=s35 _ _ h2
     have h15:=s35 _ _ h12
     have rg:=qaN (C:=C) (ws:=tlw z) hm
     obtain⟨i3,rfl⟩:∃i3,i=i3+3:=⟨i - 3,by omega⟩
     have bad:¬q0F C (hdw z) (tlw z)->∀H',Same H H'->Q (.int ((i3+3:Nat):Int)) H':=fun ng H' s'=>ke (i3+3) (.inl ⟨C,z,hR,ez,ng⟩) H' s'
     cases b with
     |false=>
      walk_at "r"
      exact bad (fun g=>nomatch hb.mpr (rg.mp g).1) _ s15
     |true=>
      have lg:=hb.mp rfl
      obtain⟨j,x1,x2,x3⟩:=qbP hm
      walk_at "r"
      refine⟨l2,five,hdw z,j,rfl,rfl,SqL.of h25,x1,x2,by decide,?_⟩
      walk_at "r"
      rw[show((j:Nat):Int) % 4=((m:Nat):Int) by omega]
      generalize hn:(q0u C).getD m 0=n at rg
      have am:((q0u C).map fun n:Nat=>V.int (n:Int))[m]? =some (.int (n:Int)):=by
       rw[<-hn]
       match m,hm3 with
       |0,_=>rfl
       |1,_=>rfl
       |2,_=>rfl
       |3,_=>rfl
      refine q0f (SqL.of hd5) (qE am) ?_
      walk_at "r"
      refine⟨d,_,_,m,rfl,rfl,hd5,q4C (by simp[q0u];omega),?_⟩
      have ed:((q0u C).map fun n:Nat=>V.int (n:Int)).set m (.int ((n:Int)+1))=((q0u C).set m (n+1)).map fun n:Nat=>V.int (n:Int):=by rw[List.map_set];rfl
      rw[ed]
      have s56:Same H (upd H5 d (.lst (((q0u C).set m (n+1)).map fun n:Nat=>V.int (n:Int)))):=s15.put gd
      generalize hG6:upd H5 d _=H6 at s56
      have hd6:=qo hG6
      have am6:(((q0u C).set m (n+1)).map fun n:Nat=>V.int (n:Int))[m]? =some (.int ((n+1:Nat):Int)):=by
       rw[zaq,zbi (by simp[q0u];omega)]
       rfl
      walk_at "r"
      try refine q0f (SqL.of hd6) (qE am6) ?_
      walk_at "r"
      intro l7 g7
      generalize hG7:upd _ l7 _=H7
      have s7:=qp hG7 g7
      have h7:=qo hG7
      have hd7:=s7 _ _ hd6
      have s57:=s56.trans s7
      have a7:([.int 20,.int 8,.int 4,.int 4]:List V)[m]? =some (.int ((mostN m:Nat):Int)):=by
       match m,hm3 with
       |0,_=>rfl
       |1,_=>rfl
       |2,_=>rfl
       |3,_=>rfl
      walk_at "r"
      try refine q0f (SqL.of h7) (qE a7) ?_
      walk_at "r"
      refine ifd (fun hx=>?_) (fun hx=>?_)
      ·walk_at "r"
       exact bad (fun g=>by have:=(rg.mp g).2.1;omega) _ s57
      walk_at "r"
      refine⟨d,_,rfl,SqL.of hd7,fun l8 g8=>?_⟩
      rw[show((m:Nat):Int)+1=((m+1:Nat):Int) from rfl,q5v _ (m+1) (by simp[q0u];omega),<-List.map_drop,List.drop_set_of_lt (by omega)]
      generalize hG8:upd _ l8 _=H8
      have s8:=qp hG8 g8
      have h8:=qo hG8
      have s58:=s57.trans s8
      have h8':H8 l8=some (.lst ((((q0u C).drop (m+1)).map fun n:Nat=>(n:Int)).map V.int)):=by rw[h8,zbV];rfl
      walk_at "r"
      refine⟨l8,_,rfl,SqL.of h8',?_⟩
      walk_at "r"
      rw[q7p C hm3]
      cases el:q1c C m with
      |true=>
       walk_at "r"
       exact bad (fun g=>by have:=(rg.mp g).2.2;rw[el] at this;cases this) _ s58
      |false=>
       have g:q0F C (hdw z) (tlw z):=rg.mpr ⟨lg,by omega,el⟩
       walk_at "r"
       refine⟨_,_,_,rfl,s58,_,.step hR ez g,?_⟩
       show H8 d=some (.lst ((q0u (rowC C (hdw z) (tlw z))).map _))
       rw[q9B hm g,hn]
       exact s8 _ _ hd7
    ·have:inV (.str (hdw z)) (five.map V.str)=false:=by
      rw[<-zco]
      exact fun h=>hm ((q6A _).mp h)
     rw[this]
     refine⟨true,rfl,?_⟩
     walk_at "r"
     refine ke i (.inl ⟨C,z,hR,ez,fun g=>?_⟩) _ s13
     obtain⟨j,rfl⟩:∃j,i=j+3:=⟨i - 3,by omega⟩
     obtain⟨m,h,_⟩:=q4t g
     exact hm ⟨m,h⟩
  ·rintro σ H1 ⟨v2,v3,v4,rfl,s1,C,hR,hd⟩
   have hp1:=s1 _ _ hp
   walk_at "r"
   refine ifd (fun h=>?_) (fun h=>?_)
   ·rw [yC] at h
    walk_at "r"
    rw[yC]
    exact ke Ls.length (.inr ⟨rfl,by omega,C,hR⟩) _ s1
   ·rw [yC] at h
    walk_at "r"
    exact k C hR (by omega) _ s1
end
theorem q4B (z:Str):Txt.join " " (hdw z::tlw z)=z:=by
 rw[<-q0v,q5p]
 exact PySem.StrLaws.join_split z " "
theorem wrd_eq {z0:Str}(h:z0="way"\/z0="drop"):wrd (decide (z0="way"))=z0:=by
 rcases h with rfl|rfl
 ·rfl
 ·rw [show decide (("drop":Str)="way")=false by walk_at "k"];rfl
theorem sI_map {ns:List Str}(hw:∀y∈ns,Wok y)(hn:ns.all isN=true)(hb:∀n∈ns.map vN,n<=255):(ns.map vN).map sI=ns:=by
 rw[zbV]
 refine(List.map_congr_left fun z hz=>?_).trans (List.map_id ns)
 exact(q1j (hw z hz).asc (zH.mp hn z hz) (hb _ (zaw.mpr ⟨z,hz,rfl⟩))).symm
theorem qaM {C:Cl}{z0:Str}{ws:List Str}(o:ClOk C)(hw:∀y∈ws,Wok y)(g:q0F C z0 ws):lns (rowC C z0 ws)=lns C++[z0::ws]:=by
 have r14:=o.r2
 rcases g with⟨hz,⟨e1,e2,e3⟩,_,a,b,g,ns,rfl,h1,h2,h3,h4,h5,h6,h7⟩|⟨rfl,⟨e2,e3⟩,_,a,b,rfl,h1,h2,h3,h4,h5⟩|⟨rfl,e3,_,a,b,rfl,h1,h2,h3,h4,h5⟩|⟨rfl,_,a,b,rfl,h1,h2,h3,h4,h5⟩
 ·have ea:=q1j (hw a (by simp)).asc h1 (by omega)
  have eb:=q1j (hw b (by simp)).asc h2 (by omega)
  obtain⟨gw,gn,gk⟩:=q5Z h7
  have en:=sI_map (fun y hy=>hw y (by simp[hy])) h3 fun n hn=>(q75 gk n (by rw[gn];exact hn)).2
  rw[q3z C hz]
  have:lnW ⟨vN a,vN b,gtOf g (ns.map vN),decide (z0="way")⟩=z0::a::b::g::ns:=by
   unfold lnW lnN
   show(wrd (decide (z0="way"))::[sI (vN a),sI (vN b)])++((gtOf g (ns.map vN)).word::(gtOf g (ns.map vN)).ns.map sI)=_
   rw[wrd_eq hz,gw,gn,en,<-ea,<-eb]
   rfl
  simp[lns,e1,e2,e3,this]
 ·have ea:=q1j (hw a (by simp)).asc h1 (by omega)
  have eb:=q1j (hw b (by simp)).asc h2 (by omega)
  rw[q26]
  have:lnP "thing" (vN a,vN b)=[("thing":Str),a,b]:=by
   show [("thing":Str),sI (vN a),sI (vN b)]=_
   rw[<-ea,<-eb]
  simp[lns,e2,e3,this]
 ·have ea:=q1j (hw a (by simp)).asc h1 (by omega)
  have eb:=q1j (hw b (by simp)).asc h2 (by omega)
  rw[q27]
  have:lnP "lever" (vN a,vN b)=[("lever":Str),a,b]:=by
   show [("lever":Str),sI (vN a),sI (vN b)]=_
   rw[<-ea,<-eb]
  simp[lns,e3,this]
 ·have ea:=q1j (hw a (by simp)).asc h1 (by omega)
  have eb:=q1j (hw b (by simp)).asc h2 (by omega)
  rw[q25]
  have:lnP "wheel" (vN a,vN b)=[("wheel":Str),a,b]:=by
   show [("wheel":Str),sI (vN a),sI (vN b)]=_
   rw[<-ea,<-eb]
  simp[lns,this]
theorem q7D {Ls:List Str}(hL:∀z∈Ls,Lok z):∀{i:Nat} {C:Cl},Run Ls (i+3) C->lin C=Ls.take (i+3)
 |0,C,h=>by
  obtain⟨C2,z2,r2,b2,c2,rfl⟩:=h.inv
  obtain⟨C1,z1,r1,b1,c1,rfl⟩:=r2.inv
  obtain⟨C00,z0,r0,b0,c0,rfl⟩:=r1.inv
  cases r0
  obtain⟨x0,a,b,c,y0,n1,n2,n3,q1,q2,q3,q4⟩:=c0
  obtain⟨x1,d,y1,n4,q5⟩:=c1
  obtain⟨x2,e,y2,n5,q6⟩:=c2
  have wk:∀{z:Str} {i:Nat},Ls[i]? =some z->∀y∈tlw z,Wok y:=fun {z i} e y hy=>(hL z (zaD e)).wok y (by rw[q0v];simp[hy])
  have w0:=wk b0
  have w1:=wk b1
  have w2:=wk b2
  rw[y0] at w0
  rw[y1] at w1
  rw[y2] at w2
  have ea:=q1j (w0 a (by simp)).asc n1 (by omega)
  have eb:=q1j (w0 b (by simp)).asc n2 (by omega)
  have ec:=q1j (w0 c (by simp)).asc n3 (by omega)
  have ed:=q1j (w1 d (by simp)).asc n4 (by omega)
  have ee:=q1j (w2 e (by simp)).asc n5 (by omega)
  have l0:lnN "rooms" [vN a,vN b,vN c]=hdw z0::tlw z0:=by
   show [("rooms":Str),sI (vN a),sI (vN b),sI (vN c)]=_
   rw[<-ea,<-eb,<-ec,y0,x0]
  have l1:lnN "bars" [vN d]=hdw z1::tlw z1:=by
   show [("bars":Str),sI (vN d)]=_
   rw[<-ed,y1,x1]
  have l2:lnN "water" [vN e]=hdw z2::tlw z2:=by
   show [("water":Str),sI (vN e)]=_
   rw[<-ee,y2,x2]
  have:lin (q1B (q1B (q1B C0 0 (hdw z0) (tlw z0)) 1 (hdw z1) (tlw z1)) 2 (hdw z2) (tlw z2))=[z0,z1,z2]:=by
   rw[y0,y1,y2]
   show [Txt.join " " (lnN "rooms" [vN a,vN b,vN c]),Txt.join " " (lnN "bars" [vN d]),Txt.join " " (lnN "water" [vN e])]=_
   rw[l0,l1,l2,q4B,q4B,q4B]
  rw[this,zas,zas,zas,b0,b1,b2]
  rfl
 |i+1,C,h=>by
  obtain⟨D,z,r,b,c,rfl⟩:=h.inv
  have ih:=q7D hL r
  have wk:∀y∈tlw z,Wok y:=fun y hy=>(hL z (zaD b)).wok y (by rw[q0v];simp[hy])
  have e:lns (q1B D (i+3) (hdw z) (tlw z))=lns D++[hdw z::tlw z]:=qaM (r.ok (by omega)) wk c
  unfold lin at ih ⊢
  rw[e,zY,ih,show i+1+3=i+3+1 by omega,zas (i:=i+3),b]
  simp[q4B]
theorem q8w (g:Gt):gtOf g.word g.ns=g:=by
 have f0:∀(z:Str) (ns:List Int),z="door"->gtOf z ns= .door (ns.getD 0 0):=fun z ns h=>by unfold gtOf;rw[if_pos h]
 have f1:∀(z:Str) (ns:List Int),z="need"->gtOf z ns= .need (ns.getD 0 0):=fun z ns h=>by unfold gtOf;rw[if_neg (by rw[h];walk_at "k"),if_pos h]
 have f2:∀(z:Str) (ns:List Int),z="bar"->gtOf z ns= .bar (ns.getD 0 0):=fun z ns h=>by unfold gtOf;rw[if_neg (by rw[h];walk_at "k"),if_neg (by rw[h];walk_at "k"),if_pos h]
 have f3:∀(z:Str) (ns:List Int),z="wade"->gtOf z ns= .wade (ns.getD 0 0) (ns.getD 1 0):=fun z ns h=>by unfold gtOf;rw[if_neg (by rw[h];walk_at "k"),if_neg (by rw[h];walk_at "k"),if_neg (by rw[h];walk_at "k"),if_pos h]
 have f4:∀(z:Str) (ns:List Int),z="float"->gtOf z ns= .float (ns.getD 0 0):=fun z ns h=>by unfold gtOf;rw[if_neg (by rw[h];walk_at "k"),if_neg (by rw[h];walk_at "k"),if_neg (by rw[h];walk_at "k"),if_neg (by rw[h];walk_at "k"),if_pos h]
 have f5:∀(z:Str) (ns:List Int),z="plain"->gtOf z ns= .plain:=fun z ns h=>by unfold gtOf;rw[if_neg (by rw[h];walk_at "k"),if_neg (by rw[h];walk_at "k"),if_neg (by rw[h];walk_at "k"),if_neg (by rw[h];walk_at "k"),if_neg (by rw[h];walk_at "k")]
 cases g
 ·exact f5 _ _ rfl
 ·exact f0 _ _ rfl
 ·exact f1 _ _ rfl
 ·exact f2 _ _ rfl
 ·exact f3 _ _ rfl
 ·exact f4 _ _ rfl
theorem q95 (b:Bool):(wrd b="way"\/wrd b="drop")/\decide (wrd b="way")=b:=by cases b<;>exact⟨by walk_at "k",by walk_at "k"⟩
theorem vN_map {ns:List Int}(h:q7b ns):(ns.map sI).all isN=true/\(ns.map sI).map vN=ns:=by
 refine⟨zH.mpr fun z hz=>?_,?_⟩
 ·obtain ⟨n,hn,rfl⟩:=zaw.mp hz
  exact(q1z (h n hn).1 (h n hn).2).1
 ·rw [zbV]
  exact(List.map_congr_left fun n hn=>(q1z (h n hn).1 (h n hn).2).2).trans (List.map_id ns)
theorem qbn {C C':Cl}{ws:List Str}(h:Nxt C C' ws)(o:ClOk C'):∃z0 r,ws=z0::r/\q0F C z0 r/\rowC C z0 r=C':=by
 cases h with
 |way x e1 e2 e3=>
  have r14:C.rooms<=14:=o.r2
  have ox:(0<=x.a/\x.a<C.rooms)/\(0<=x.b/\x.b<C.rooms)/\x.a≠x.b/\x.g.ok:=o.w x (zad.mpr (.inr (zL.mpr rfl)))
  have ol:=o.wl
  simp at ol
  obtain⟨na,va⟩:=q1z (n:=x.a) (by omega) (by omega)
  obtain⟨nb,vb⟩:=q1z (n:=x.b) (by omega) (by omega)
  obtain⟨nn,vv⟩:=vN_map (q75 ox.2.2.2)
  obtain⟨hz,hk⟩:=q95 x.back
  refine⟨wrd x.back,sI x.a::sI x.b::x.g.word::x.g.ns.map sI,rfl,.inl ⟨hz,⟨e1,e2,e3⟩,by omega,_,_,_,_,rfl,na,nb,nn,by rw[va];exact ox.1.2,by rw[vb];exact ox.2.1.2,by rw[va,vb];exact ox.2.2.1,by rw[vv];exact q5t ox.2.2.2⟩,?_⟩
  rw[q3z C hz,va,vb,vv,q8w,hk]
 |thing x e2 e3=>
  have r14:C.rooms<=14:=o.r2
  have ox:(0<=x.1/\x.1<C.rooms)/\0<=x.2/\x.2<12:=o.t x (zad.mpr (.inr (zL.mpr rfl)))
  have ol:=o.tl
  simp at ol
  obtain⟨na,va⟩:=q1z (n:=x.1) (by omega) (by omega)
  obtain⟨nb,vb⟩:=q1z (n:=x.2) (by omega) (by omega)
  refine⟨"thing",[sI x.1,sI x.2],rfl,.inr (.inl ⟨rfl,⟨e2,e3⟩,by omega,_,_,rfl,na,nb,by omega,by omega,by omega⟩),?_⟩
  rw[q26,va,vb]
 |lever x e3=>
  have r14:C.rooms<=14:=o.r2
  have ox:(0<=x.1/\x.1<C.rooms)/\1<=x.2/\x.2<=255:=o.lv x (zad.mpr (.inr (zL.mpr rfl)))
  have ol:=o.ll
  simp at ol
  obtain⟨na,va⟩:=q1z (n:=x.1) (by omega) (by omega)
  obtain⟨nb,vb⟩:=q1z (n:=x.2) (by omega) (by omega)
  refine⟨"lever",[sI x.1,sI x.2],rfl,.inr (.inr (.inl ⟨rfl,e3,by omega,_,_,rfl,na,nb,by omega,by omega,by omega⟩)),?_⟩
  rw[q27,va,vb]
 |wheel x=>
  have r14:C.rooms<=14:=o.r2
  have ox:(0<=x.1/\x.1<C.rooms)/\0<=x.2/\x.2<=9:=o.wh x (zad.mpr (.inr (zL.mpr rfl)))
  have ol:=o.vl
  simp at ol
  obtain⟨na,va⟩:=q1z (n:=x.1) (by omega) (by omega)
  obtain⟨nb,vb⟩:=q1z (n:=x.2) (by omega) (by omega)
  refine⟨"wheel",[sI x.1,sI x.2],rfl,.inr (.inr (.inr ⟨rfl,by omega,_,_,rfl,na,nb,by omega,by omega,by omega⟩)),?_⟩
  rw[q25,va,vb]
theorem q4F {C:Cl}(o:ClOk C){i:Nat}{ws:List Str}(h:(lns C)[i]? =some ws):(lin C)[i]? =some (Txt.join " " ws)/\hdw (Txt.join " " ws)::tlw (Txt.join " " ws)=ws:=by
 refine⟨by unfold lin;rw[List.getElem?_map,h];rfl,?_⟩
 rw[<-q0v]
 exact q6b (q4f o ws (zaD h))
theorem run1 {C:Cl}(o:ClOk C):Run (lin C) 1 (pre C 1):=by
 obtain⟨e1,e2⟩:=q4F o (i:=0) (ws:=lnN "rooms" [C.rooms,C.fst,C.lst]) rfl
 have r1:=o.r1
 have r2:=o.r2
 have f:=o.f
 have l:=o.l
 obtain⟨na,va⟩:=q1z (n:=C.rooms) (by omega) (by omega)
 obtain⟨nb,vb⟩:=q1z (n:=C.fst) (by omega) (by omega)
 obtain⟨nc,vc⟩:=q1z (n:=C.lst) (by omega) (by omega)
 obtain⟨x,y⟩:=zbp e2
 have:=Run.step (.nil (Ls:=lin C)) e1 (by rw[x,y];exact⟨rfl,sI C.rooms,sI C.fst,sI C.lst,rfl,na,nb,nc,by omega,by omega,by omega,by omega⟩)
 rw[x,y] at this
 have e:q1B C0 0 "rooms" [sI C.rooms,sI C.fst,sI C.lst]=pre C 1:=by
  rw[pre_1]
  show(⟨vN (sI C.rooms),vN (sI C.fst),vN (sI C.lst),[],[],[],[],0,0⟩:Cl)=_
  rw[va,vb,vc]
 rw[<-e]
 exact this
theorem run2 {C:Cl}(o:ClOk C):Run (lin C) 2 (pre C 2):=by
 have ih:=run1 o
 obtain⟨e1,e2⟩:=q4F o (i:=1) (ws:=lnN "bars" [C.bars]) rfl
 obtain⟨na,va⟩:=q1z o.b.1 o.b.2
 obtain⟨x,y⟩:=zbp e2
 have:=Run.step ih e1 (by rw[x,y];exact⟨rfl,sI C.bars,rfl,na,by rw[va];exact o.b.2⟩)
 rw[x,y,pre_1] at this
 have e:q1B ⟨C.rooms,C.fst,C.lst,[],[],[],[],0,0⟩ 1 "bars" [sI C.bars]=pre C 2:=by
  rw[pre_2]
  show(⟨C.rooms,C.fst,C.lst,[],[],[],[],vN (sI C.bars),0⟩:Cl)=_
  rw[va]
 rw[<-e]
 exact this
theorem run3 {C:Cl}(o:ClOk C):Run (lin C) 3 (pre C 3):=by
 have ih:=run2 o
 have wa:=o.wa
 obtain⟨e1,e2⟩:=q4F o (i:=2) (ws:=lnN "water" [C.water]) rfl
 obtain⟨na,va⟩:=q1z (n:=C.water) (by omega) (by omega)
 obtain⟨x,y⟩:=zbp e2
 have:=Run.step ih e1 (by rw[x,y];exact⟨rfl,sI C.water,rfl,na,by omega⟩)
 rw[x,y,pre_2] at this
 have e:q1B ⟨C.rooms,C.fst,C.lst,[],[],[],[],C.bars,0⟩ 2 "water" [sI C.water]=pre C 3:=by
  rw[pre_3]
  show(⟨C.rooms,C.fst,C.lst,[],[],[],[],C.bars,vN (sI C.water)⟩:Cl)=_
  rw[va]
 rw[<-e]
 exact this
theorem qaK {C:Cl}(o:ClOk C)(j:Nat):j+3<=(lns C).length->Run (lin C) (j+3) (pre C (j+3)):=by
 induction j with
 |zero=>exact fun _=>run3 o
 |succ j ih=>
  intro hj
  have ih:=ih (by omega)
  have hw:=zay (l:=lns C) (i:=j+3) (by omega)
  generalize (lns C)[j+3]=ws at hw
  obtain⟨z0,r,e0,g,e⟩:=qbn (qbo hw) (pre_ok o _)
  obtain⟨e1,e2⟩:=q4F o hw
  rw[e0] at e1 e2
  obtain⟨x,y⟩:=zbp e2
  have st:q3s (pre C (j+3)) (j+3) (hdw (Txt.join " " (z0::r))) (tlw (Txt.join " " (z0::r))):=by
   rw[x,y]
   exact g
  have:=Run.step ih e1 st
  rw[x,y] at this
  rw[show j+1+3=j+3+1 by omega,<-e]
  exact this
def spSd:Sp:=fun vs H Q _=>E2 fun(p:Addr) (Ls:List Str)=>A7 (vs=[.ref p]) (H p=some (.lst (Ls.map V.str))) (Ls≠[]) ((∀z∈Ls,Lok z)) (Ls.length<=100) ((∀C,Run Ls Ls.length C->3<=Ls.length->∀H',Same H H'->Q (.bl true) H')) ((∀i,q41 Ls i->∀H',Same H H'->Q (.int (i:Nat)) H'))
theorem qbw {Ls:List Str}(h:∀z∈Ls,Lok z)(hl:Ls.length<=100):(Ls.map (·.length)).sum+Ls.length<=1048576:=by
 have:=q4X (n:=290) fun x hx=>(h x hx).len
 have:Ls.length*290<=100*290:=zaV _ hl
 omega
section
variable {P:Program}{w:World}{K:W.Frag}{mg:Str->Option Value}{base:Heap}{xs:Xs}{cs:Cs}
theorem ok_sd (T:Txt mg cs)(TX:Tx K mg xs)(L:Laid K mg "_law_said" q0J ["_law_lines_here"])(wbC:CalX P w K mg base 8 "read" ["text"] (spRd xs.NoText))(wba:Cal P w K mg base 6 "shown" ["cellar"] spSh):Cal P w K mg base 9 "_law_said" ["_law_lines_here"] spSd:=by
 refine L.cal (k:=8) q0c (fun vs H Q E h=>?_) (fun f cdv A outer s H vs Q E hr h=>?_)
 ·obtain ⟨p,Ls,rfl,_⟩:=h
  rfl
 ·obtain ⟨p,Ls,rfl,hp,h0,hL,hl,k,ke⟩:=h
  have big:=qC
  have hsum:=qbw hL hl
  have hj:=q6s hL hl
  refine⟨_,(qg (qI (i:=1) q0c.nd rfl (Or.inl rfl) q3C)
   (qg (qI (i:=2) q0c.nd rfl (Or.inl rfl) q3C)
   (qg (q7P rfl rfl rfl (q6j (q7O (i:=1) q0c.nd rfl (Or.inl rfl) (q6l wbC rfl hr (by decide) rfl (qa (q13 zV zaA zaB (q1H K) qk (qa (pv 0) qc)) qc))))
   (ph_as (i:=3) K rfl rfl TX.vE q0c.nd rfl rfl rfl (fun _=>(qj (qI (i:=2) q0c.nd rfl (Or.inl rfl) (pv 3))))))
   (qg (qQ (q2p (q5j (pv 2))) (qj (qw (q1w q0i (qR wba hr (by decide) rfl (qa (pv 1) qc)) (q13 zV zaA zaB (q1H K) qk (qa (pv 0) qc)) (qB _)))) qy)
   (qg (qI (i:=4) q0c.nd rfl (Or.inl rfl) (qK (qa (qx (q3X K) rfl T.wm qO (qa (pv 2) (qa (qz (v:= .ref xs.NoCellar) rfl TX.wx rfl) qc))) (qa (qx (q3X K) rfl T.wm qO (qa (pv 2) (qa (qz (v:= .ref xs.NoDeed) rfl TX.wbT rfl) qc))) (qa (qx (q3X K) rfl T.wm qO (qa (pv 2) (qa (qz (v:= .ref xs.NoPlan) rfl TX.wbS rfl) qc))) qc)))))
   (qg (qI (i:=4) q0c.nd rfl (Or.inl rfl) (qv q1x (pv 4) (qK (qa (qx (q3X K) rfl T.wm qO (qa (pv 2) (qa (qz (v:= .ref xs.NoRow) rfl TX.wcb rfl) qc))) (qa (qx (q3X K) rfl T.wm qO (qa (pv 2) (qa (qz (v:= .ref xs.NoDeal) rfl TX.wb4 rfl) qc))) (qa (qx (q3X K) rfl T.wm qO (qa (pv 2) (qa (qz (v:= .ref xs.Shut) rfl TX.wcg rfl) qc))) qc))))))
   (qg (qI (i:=4) q0c.nd rfl (Or.inl rfl) (qv q1x (pv 4) (qK (qa (qx (q3X K) rfl T.wm qO (qa (pv 2) (qa (qz (v:= .ref xs.TooMany) rfl TX.wbK rfl) qc))) (qa (qx (q3X K) rfl T.wm qO (qa (pv 2) (qa (qz (v:= .ref xs.Wide) rfl TX.wcf rfl) qc))) qc)))))
   (qg (qQ (PW.pt (q23 (qr (q47 K) q2F (pv 4) (by with_unfolding_all rfl)) (q23 (q1S (q1a (qx (q3X K) rfl T.wm qO (qa (pv 2) (qa (qz (v:= .ref xs.NoText) rfl TX.wbm rfl) qc))))) (q1i (q1S (q1a (qx (q3X K) rfl T.wm qO (qa (pv 2) (qa (q3D (v:= .ty "ValueError") rfl T.wbB q4M rfl) qc))))))))) (qj (qw q3C)) qy)
   (qg (qQ (q1a (qx q2O rfl T.wm qO (qa (q7Y K (pv 2)) (qa (q3D (v:= .ty "bool") rfl T.wb6 q90 rfl) qc)))) (qj (qw q3C)) qy)
   (qj (qw (q7Y K (pv 2))))))))))))),?_⟩
  walk_at "r"
  refine qa4 ?_
  walk_at "r"
  refine⟨rfl,?_⟩
  walk_at "r"
  refine⟨_,p,Ls,rfl,rfl,SqL.of hp,by walk_at "k",hsum,?_⟩
  walk_at "r"
  refine⟨Ls,rfl,h0,hL,hl,fun C hR h3 r H1 s1 hC=>?_,fun i hB d H1 s1 hd=>?_⟩
  ·have oC:=hR.ok (by omega)
   have hp1:=s1 _ _ hp
   obtain⟨n,hn⟩:∃n,Ls.length=n+3:=⟨Ls.length - 3,by omega⟩
   have el:lin C=Ls:=by
    have:=q7D hL (hn▸hR)
    rw[<-hn,zac] at this
    exact this
   walk_at "r"
   refine ifd (fun _=>?_) (fun h=>absurd rfl h)
   walk_at "r"
   refine⟨r,C,rfl,hC,oC,fun H2 s2=>?_⟩
   have hp2:=s2 _ _ hp1
   walk_at "r"
   refine⟨rfl,?_⟩
   walk_at "r"
   refine⟨_,p,Ls,rfl,rfl,SqL.of hp2,by walk_at "k",hsum,?_⟩
   walk_at "r"
   rw[show decide (txt C=Txt.join "\n" Ls)=true by unfold txt;rw[el];simp]
   exact k C hR h3 _ (s1.trans s2)
  ·refine ⟨TX.wbD,fun a oe ho hdt hda ha=>?_⟩
   generalize hGa:upd _ a _=H2
   have s2:=qp hGa ha
   have h1:=qo hGa
   have hd2:=s2 _ _ hd
   unfold Ends.lose
   walk_at "r"
   refine ifd (fun h=>nomatch h) (fun _=>?_)
   walk_at "r"
   refine q4v h1 ho TX.wu TX.waH ?_
   walk_at "r"
   refine q4v h1 ho TX.wu TX.waY ?_
   walk_at "r"
   refine q4v h1 ho TX.wu TX.wa0 ?_
   walk_at "r"
   intro q2 g2
   generalize hG2:upd _ q2 _=H3
   have s3:=qp hG2 g2
   have h2:=qo hG2
   have f2:=s3 _ _ h1
   walk_at "r"
   refine q4v f2 ho TX.wu TX.wa7 ?_
   walk_at "r"
   refine q4v f2 ho TX.wu TX.wa4 ?_
   walk_at "r"
   refine q4v f2 ho TX.wu TX.wbd ?_
   walk_at "r"
   intro q3 g3
   generalize hG3:upd _ q3 _=H4
   have s4:=qp hG3 g3
   have h3:=qo hG3
   refine⟨q2,q3,_,_,rfl,rfl,s4 _ _ h2,h3,by simp;omega,fun q4 g4=>?_⟩
   generalize hG4:upd _ q4 _=H5
   have s5:=qp hG4 g4
   have h4:=qo hG4
   have f4:=s5 _ _ (s4 _ _ f2)
   walk_at "r"
   refine q4v f4 ho TX.wu TX.waT ?_
   walk_at "r"
   refine q4v f4 ho TX.wu TX.wbf ?_
   walk_at "r"
   intro q5 g5
   generalize hG5:upd _ q5 _=H6
   have s6:=qp hG5 g5
   have h5:=qo hG5
   refine⟨q4,q5,_,_,rfl,rfl,s6 _ _ h4,h5,by simp;omega,fun q6 g6=>?_⟩
   generalize hG6:upd _ q6 _=H7
   have s7:=qp hG6 g6
   have h6:=qo hG6
   have s27:=s3.trans (s4.trans (s5.trans (s6.trans s7)))
   have f6:=s27 _ _ h1
   have hd7:=s27 _ _ hd2
   have s07:=s1.trans (s2.trans s27)
   walk_at "r"
   refine⟨q6,_,rfl,.inl (SqL.of h6),rfl,rfl,?_⟩
   refine⟨false,rfl,?_⟩
   walk_at "r"
   refine q4v f6 ho TX.wu TX.wa5 ?_
   walk_at "r"
   refine r_isYT f6 ho TX.wu TX.waB ?_
   walk_at "r"
   refine q7K ?_
   walk_at "r"
   refine⟨a,oe,_,xs.NoText,d,_,.int i,rfl,f6,ho,hdt,hda,TX.vW,TX.wu,TX.wT,hd7,rfl,?_⟩
   walk_at "r"
   refine q7K ?_
   walk_at "r"
   refine⟨a,oe,_,xs.NoText,d,_,.int i,rfl,f6,ho,hdt,hda,TX.vW,TX.wu,TX.wT,hd7,rfl,?_⟩
   exact ke i hB _ s07
end
def okW (w:Str):Bool:=decide (w.length<=40)&&w.cps.toList.all fun c=>decide (33<=c)&&decide (c<128)
theorem q7g {w:Str}(h:Wd w):okW w=true:=by
 unfold okW
 rw[zS,zcb,zH]
 refine⟨by have:=h.1;omega,fun c hc=>?_⟩
 have:=h.2 c hc
 simp
 omega
theorem q5P {a b:Str}(ha:okW a=true)(hb:okW b=true)(hl:a.length+b.length<=40):okW (a++b)=true:=by
 unfold okW at*
 rw[zS] at*
 refine⟨zbx ?_,?_⟩
 ·show (a.cps++b.cps).size<=40
  rw[Array.size_append]
  exact hl
 ·show ((a.cps++b.cps).toList.all _)=true
  rw[zb0,zbX,ha.2,hb.2]
  rfl
def q65 (ps:List Str):Prop:=ps≠[]/\ps.length<=7/\ps.all okW=true
theorem q0Z {ps:List Str}(h:q65 ps):Lok (Txt.join " " ps)/\(ps.map (·.length)).sum+ps.length<=1048576:=by
 obtain⟨h0,h1,h2⟩:=h
 have ok:∀w∈ps,w.length<=40/\∀c∈w.cps.toList,33<=c/\c<128:=fun w hw=>by
  have:=zH.mp h2 w hw
  unfold okW at this
  rw[zS,zcb,zH] at this
  exact⟨this.1,fun c hc=>by simpa using this.2 c hc⟩
 have es:Txt.split (Txt.join " " ps) " "=ps:=q4k (c:=32) (by decide) h0 fun w hw hc=>by have:=(ok w hw).2 32 hc;omega
 have hl:=q8s (c:=32) (ws:=ps) (n:=40) fun w hw=>(ok w hw).1
 have hm:ps.length*(40+1)<=7*41:=zaV _ h1
 have mem:∀c∈(Txt.join " " ps).cps.toList,c=32\/(33<=c/\c<128):=fun c hc=>by
  rcases mem_jn (c:=32) hc with h|⟨w,hw,h⟩
  ·exact .inl h
  ·exact .inr ((ok w hw).2 c h)
 refine⟨⟨?_,?_,fun h=>?_,by rw[es];omega,fun y hy=>?_⟩,?_⟩
 ·rw [zca]
  intro c hc
  have:=mem c (by simpa using hc)
  simp
  omega
 ·have:(Txt.join ⟨#[32]⟩ ps)=Txt.join " " ps:=rfl
  rw[this] at hl
  omega
 ·have:=mem 10 h
  omega
 ·rw [es] at hy
  have:=(ok y hy).1
  omega
 ·have:=q4X (n:=40) fun w hw=>(ok w hw).1
  omega
theorem q5O {ps:List Str}{i:Nat}{y:Str}(h:q65 ps)(hy:okW y=true):q65 (ps.set i y):=by
 refine⟨fun e=>h.1 (by have:=zbj List.length e;simpa using this),by rw[List.length_set];exact h.2.1,zH.mpr fun w hw=>?_⟩
 rcases List.mem_or_eq_of_mem_set hw with hw|rfl
 ·exact zH.mp h.2.2 w hw
 ·exact hy
theorem q5u:∀(l:List Str) (i:Nat),(l.map V.str).eraseIdx i=(l.eraseIdx i).map V.str
 |[],_=>rfl
 |_::_,0=>rfl
 |a::l,i+1=>by simp[q5u l i]
theorem qaJ {n j:Nat}(h:j<n):seqIndex? (j:Int) n=some j:=(q5V (q4C h)).1
def Lsm (z:Str):Prop:=∃ws,z=Txt.join " " ws/\2<=ws.length/\ws.length<=6/\∀w∈ws,Wd w
theorem Lsm.lok {z:Str}(h:Lsm z):Lok z:=by
 obtain⟨ws,rfl,h2,h6,hw⟩:=h
 exact(q0Z ⟨fun e=>by rw[e] at h2;simp at h2,by omega,zH.mpr fun w h=>q7g (hw w h)⟩).1
def spBt:Sp:=fun vs H Q _=>E2 fun(z:Str) (c:Int)=>A4 (vs=[.str z,.int c]) (0<=c) (Lsm z) (∀(y:Str) (H':Hp),Same H H'->Lok y->Q (.str y) H')
section
variable {P:Program}{w:World}{K:W.Frag}{mg:Str->Option Value}{base:Heap}{xs:Xs}{cs:Cs}
theorem ok_bt (T:Txt mg cs)(L:Laid K mg "_law_bent" q0M ["_law_line","_law_cell_here"]):Cal P w K mg base 1 "_law_bent" ["_law_line","_law_cell_here"] spBt:=by
 refine L.cal (k:=0) q0n (fun vs H Q E h=>?_) (fun f cdv A outer s H vs Q E hr h=>?_)
 ·obtain ⟨z,c,rfl,_⟩:=h
  rfl
 ·obtain ⟨z,c,rfl,hc,⟨ws,rfl,w2,w6,hw⟩,k⟩:=h
  have big:=qC
  have g0:q65 ws:=⟨fun e=>by rw[e] at w2;simp at w2,by omega,zH.mpr fun w h=>q7g (hw w h)⟩
  have es:Txt.split (Txt.join " " ws) " "=ws:=q6b ⟨g0.1,w6,hw⟩
  have hzl:=(q0Z g0).1.len
  generalize Txt.join " " ws=z at es hzl
  refine⟨_,(qg (qI (i:=2) q0n.nd rfl (Or.inl rfl) (q13 zV zaQ zaR q2h (pv 0) (qa qk qc)))
   (qg (qI (i:=3) q0n.nd rfl (Or.inl rfl) (qv qX (qv qW (pv 1) qd) (qx (lenK K) rfl T.wq q0k (qa (pv 2) qc))))
   (qg (qI (i:=4) q0n.nd rfl (Or.inl rfl) (qK (pa_c (qv q5N qk (qD (qq K) (pv 2) (pv 3) (fun _ _=>rfl))) (pa_c qk (pa_c (qv q5N qk (qD (qq K) (pv 2) (pv 3) (fun _ _=>rfl))) (pa_c qk (pa_c qk (pa_c qk qc))))))))
   (qg (qI (i:=4) q0n.nd rfl (Or.inl rfl) (qv q1x (pv 4) (qK (pa_c (qv qbg qk qd) (pa_c (qv q5N (qD (qq K) (pv 2) (pv 3) (fun _ _=>rfl)) qk) (pa_c qk (pa_c qk (pa_c qk (pa_c qk (pa_c qk qc))))))))))
   (qg (qI (i:=5) q0n.nd rfl (Or.inl rfl) (qv qX (pv 1) qd))
   (qg (qQ (qr q2G (pv 5) qd (qB _)) (qj (q45 (qD (qq K) (pv 4) (pv 5) (fun _ _=>rfl)) (q6k (pv 2) (pv 3) q3l))) (qj (qQ (qr q0i (pv 5) qd (qB _)) (qj (qT (q13 zU PySem.F.slot_list_insert PySem.F.type_list_insert q89 (pv 2) (qa (pv 3) (qa (qD (qq K) (qK (qa qk (qa qk (qa qk qc)))) (qv qX (qv qW (pv 1) qd) qd) (fun _ _=>rfl)) qc))))) (qj (qQ (qr q0i (pv 5) qd (qB _)) (qj (qT (q13 zU PySem.F.slot_list_pop PySem.F.type_list_pop q9t (pv 2) (qa (pv 3) qc)))) (qj (qQ (qr q0i (pv 5) qd (qB _)) (qj (q45 (qD (qq K) (qK (pa_c qk (pa_c qk (pa_c qk (pa_c qk (pa_c qk (pa_c qk (pa_c qk qc)))))))) (qv qX (qv qW (pv 1) qd) qd) (fun _ _=>rfl)) (q6k (pv 2) qd q3l))) (qj (qQ (qr q0i (pv 5) qd (qB _)) (qj (q45 (qD (qq K) (pv 2) (pv 3) (fun _ _=>rfl)) (q6k (pv 2) (pe_un un_neg qd) q3l))) (qg (qI (i:=6) q0n.nd rfl (Or.inl rfl) (qK (qa qk (qa qk (qa qk (qa qk (qa qk qc)))))))
   (qj (qI (i:=2) q0n.nd rfl (Or.inl rfl) (q13 zV zaQ zaR q2h (qD (qq K) (pv 6) (qv qX (qv qW (pv 1) qd) qd) (fun _ _=>rfl)) (qa qk qc))))))))))))))
   (qj (qw (q13 zV zaA zaB (q1H K) qk (qa (pv 2) qc)))))))))),?_⟩
  walk_at "r"
  refine⟨rfl,?_⟩
  walk_at "r"
  refine⟨z,_,rfl,rfl,rfl,by omega,by rw[es];omega,fun p gp=>?_⟩
  rw[es]
  generalize hGp:upd _ p _=H1
  have s1:=qp hGp gp
  have h1:=qo hGp
  walk_at "r"
  refine⟨_,_,rfl,rfl,by simp;omega,?_⟩
  rw[yC]
  obtain⟨at',hat,hat2⟩:∃n:Nat,c / 18 % (ws.length:Int)=(n:Int)/\n<ws.length:=⟨(c / 18 % (ws.length:Int)).toNat,by have:=za4 (c / 18) (b:=(ws.length:Int)) (by omega);omega,by have:=zbw (c / 18) (b:=(ws.length:Int)) (by omega);have:=za4 (c / 18) (b:=(ws.length:Int)) (by omega);omega⟩
  have hat0:(fun i j=>V.int (i % j)) (c / 18) (ws.length:Int)=V.int (at':Int):=by show V.int (c / 18 % (ws.length:Int))=_;rw[hat]
  rw[hat0]
  have a1:(ws.map V.str)[at']? =some (.str ws[at']):=by simp[hat2]
  have hx:=hw _ (zN hat2)
  generalize ws[at']=x at a1 hx
  have hx5:=hx.1
  have okx:=q7g hx
  walk_at "r"
  try refine q0f (SqL.of h1) (qE a1) ?_
  walk_at "r"
  refine⟨"0",x,rfl,rfl,by show 1+x.length<=sizeLine;omega,?_⟩
  walk_at "r"
  try refine q0f (SqL.of h1) (qE a1) ?_
  walk_at "r"
  refine⟨"-",x,rfl,rfl,by show 1+x.length<=sizeLine;omega,?_⟩
  walk_at "r"
  intro l2 g2
  generalize hG2:upd _ l2 _=H2
  have s2:=qp hG2 g2
  have h2:=qo hG2
  have h12:=s2 _ _ h1
  walk_at "r"
  refine⟨"7",40,rfl,rfl,by omega,by omega,by decide,by decide,?_⟩
  walk_at "r"
  try refine q0f (SqL.of h12) (qE a1) ?_
  walk_at "r"
  refine⟨x,"_",rfl,rfl,by show x.length+1<=sizeLine;omega,?_⟩
  walk_at "r"
  intro l3 g3
  generalize hG3:upd _ l3 _=H3
  have s3:=qp hG3 g3
  have h3:=qo hG3
  refine⟨l2,l3,_,_,rfl,rfl,s3 _ _ h2,h3,by simp;omega,fun l4 g4=>?_⟩
  generalize hG4:upd _ l4 _=H4
  have s4:=qp hG4 g4
  have h4:=qo hG4
  have s14:=s2.trans (s3.trans s4)
  have s04:=s1.trans s14
  have h14:=s14 _ _ h1
  obtain⟨L13,h13,o13,l13⟩:∃L13:List Str,H4 l4=some (.lst (L13.map V.str))/\L13.all okW=true/\L13.length=13:=⟨["0"++x,"","-"++x,"+1","15","256",⟨(List.replicate 40 ("7":Str).cps).foldl (· ++ ·) #[]⟩,x++"_","x","0","12","10","1_0"],h4,by
   simp only[List.all_cons,List.all_nil,Bool.and_true,Bool.and_eq_true]
   refine⟨q5P (by walk_at "k") okx (by show 1+x.length<=40;omega),by walk_at "k",q5P (by walk_at "k") okx (by show 1+x.length<=40;omega),by walk_at "k",by walk_at "k",by walk_at "k",by walk_at "k",q5P okx (by walk_at "k") (by show x.length+1<=40;omega),by walk_at "k",by walk_at "k",by walk_at "k",by walk_at "k",by walk_at "k"⟩,rfl⟩
  have pick:∀{L:List Str} {j:Nat},L.all okW=true->j<L.length->∃y,(L.map V.str)[j]? =some (.str y)/\okW y=true:=fun {L j} h hj=>⟨L[j],by simp[hj],zH.mp h _ (zN hj)⟩
  have setp:∀(j:Nat) (y:Str),(ws.map V.str).set j (.str y)=(ws.set j y).map V.str:=fun j y=>by rw[List.map_set]
  walk_at "r"
  obtain⟨wy,hwy,hwy2⟩:∃n:Nat,c % 18=(n:Int)/\n<18:=⟨(c % 18).toNat,by omega,by omega⟩
  rw[hwy]
  refine ifd (fun c1=>?_) (fun c1=>?_)
  ·obtain ⟨y,e1,e2⟩:=pick (j:=wy) o13 (by omega)
   walk_at "r"
   try refine q0f (SqL.of h13) (qE e1) ?_
   walk_at "r"
   refine⟨p,_,_,at',rfl,rfl,h14,q4C (by simpa using hat2),?_⟩
   rw[setp]
   have s5:Same H (upd H4 p (.lst ((ws.set at' y).map V.str))):=s04.put gp
   generalize hG5:upd H4 p _=H5 at s5
   have h5:=qo hG5
   have g5:=q5O (i:=at') g0 e2
   walk_at "r"
   try refine⟨rfl,?_⟩
   walk_at "r"
   refine⟨_,p,_,rfl,rfl,SqL.of (by assumption),by walk_at "k",(q0Z g5).2,?_⟩
   exact k _ _ s5 (q0Z g5).1
  walk_at "r"
  refine ifd (fun c2=>?_) (fun c2=>?_)
  ·walk_at "r"
   intro l5 g5
   generalize hG5:upd _ l5 _=H5
   have s5:=qp hG5 g5
   have h5:H5 l5=some (.lst ((["0","1",""]:List Str).map V.str)):=qo hG5
   have h15:=s5 _ _ h14
   obtain⟨j,hj,hj2⟩:∃n:Nat,c / 256 % 3=(n:Int)/\n<3:=⟨(c / 256 % 3).toNat,by omega,by omega⟩
   obtain⟨y,e1,e2⟩:=pick (L:=["0","1",""]) (j:=j) (by walk_at "k") hj2
   walk_at "r"
   rw[hj]
   refine q0f (SqL.of h5) (qE e1) ?_
   walk_at "r"
   refine⟨p,_,_,_,rfl,rfl,h15,by omega,by simp;omega,by simp;omega,?_⟩
   have ei:(ws.map V.str).take ((at':Nat):Int).toNat++V.str y::(ws.map V.str).drop ((at':Nat):Int).toNat=(ws.take at'++y::ws.drop at').map V.str:=by simp
   rw[ei]
   have s6:Same H (upd H5 p (.lst ((ws.take at'++y::ws.drop at').map V.str))):=(s04.trans s5).put gp
   generalize hG6:upd H5 p _=H6 at s6
   have h6:=qo hG6
   have g6:q65 (ws.take at'++y::ws.drop at'):=⟨by simp,by simp;omega,by
    rw[zbX,List.all_cons,e2]
    have:=g0.2.2
    rw[zH] at this
    rw[zS,Bool.true_and,zH,zH]
    exact⟨fun w hw=>this w (zaF hw),fun w hw=>this w (List.mem_of_mem_drop hw)⟩⟩
   walk_at "r"
   try refine⟨rfl,?_⟩
   walk_at "r"
   refine⟨_,p,_,rfl,rfl,SqL.of (by assumption),by walk_at "k",(q0Z g6).2,?_⟩
   exact k _ _ s6 (q0Z g6).1
  walk_at "r"
  refine ifd (fun c3=>?_) (fun c3=>?_)
  ·walk_at "r"
   refine⟨p,_,_,at',_,rfl,rfl,h14,by omega,by omega,?_,a1,?_⟩
   ·rw [yC]
    exact qaJ hat2
   have ei:(ws.map V.str).eraseIdx at'=(ws.eraseIdx at').map V.str:=q5u ws at'
   rw[ei]
   have s6:Same H (upd H4 p (.lst ((ws.eraseIdx at').map V.str))):=s04.put gp
   generalize hG6:upd H4 p _=H6 at s6
   have h6:=qo hG6
   have el:(ws.eraseIdx at').length=ws.length - 1:=by rw[List.length_eraseIdx,zM hat2]
   have g6:q65 (ws.eraseIdx at'):=⟨fun e=>by rw[e] at el;simp at el;omega,by omega,zH.mpr fun w hw=>zH.mp g0.2.2 w (List.mem_of_mem_eraseIdx hw)⟩
   walk_at "r"
   try refine⟨rfl,?_⟩
   walk_at "r"
   refine⟨_,p,_,rfl,rfl,SqL.of (by assumption),by walk_at "k",(q0Z g6).2,?_⟩
   exact k _ _ s6 (q0Z g6).1
  walk_at "r"
  refine ifd (fun c4=>?_) (fun c4=>?_)
  ·walk_at "r"
   intro l5 g5
   generalize hG5:upd _ l5 _=H5
   have s5:=qp hG5 g5
   have h5:H5 l5=some (.lst ((["way","drop","thing","lever","wheel","rooms","bars"]:List Str).map V.str)):=qo hG5
   have h15:=s5 _ _ h14
   obtain⟨j,hj,hj2⟩:∃n:Nat,c / 256 % 7=(n:Int)/\n<7:=⟨(c / 256 % 7).toNat,by omega,by omega⟩
   obtain⟨y,e1,e2⟩:=pick (L:=["way","drop","thing","lever","wheel","rooms","bars"]) (j:=j) (by walk_at "k") hj2
   walk_at "r"
   rw[hj]
   refine q0f (SqL.of h5) (qE e1) ?_
   walk_at "r"
   refine⟨p,_,_,0,rfl,rfl,h15,q4C (j:=0) (by simp;omega),?_⟩
   rw[setp]
   have s6:Same H (upd H5 p (.lst ((ws.set 0 y).map V.str))):=(s04.trans s5).put gp
   generalize hG6:upd H5 p _=H6 at s6
   have h6:=qo hG6
   have g6:=q5O (i:=0) g0 e2
   walk_at "r"
   try refine⟨rfl,?_⟩
   walk_at "r"
   refine⟨_,p,_,rfl,rfl,SqL.of (by assumption),by walk_at "k",(q0Z g6).2,?_⟩
   exact k _ _ s6 (q0Z g6).1
  walk_at "r"
  refine ifd (fun c5=>?_) (fun c5=>?_)
  ·walk_at "r"
   try refine q0f (SqL.of h14) (qE a1) ?_
   walk_at "r"
   refine⟨p,_,_,ws.length - 1,rfl,rfl,h14,?_,?_⟩
   ·rw [yC]
    unfold ixN
    rw[zI (by omega),zM (by omega)]
    congr 1
    omega
   rw[setp]
   have s6:Same H (upd H4 p (.lst ((ws.set (ws.length - 1) x).map V.str))):=s04.put gp
   generalize hG6:upd H4 p _=H6 at s6
   have h6:=qo hG6
   have g6:=q5O (i:=ws.length - 1) g0 okx
   walk_at "r"
   try refine⟨rfl,?_⟩
   walk_at "r"
   refine⟨_,p,_,rfl,rfl,SqL.of (by assumption),by walk_at "k",(q0Z g6).2,?_⟩
   exact k _ _ s6 (q0Z g6).1
  ·walk_at "r"
   intro l5 g5
   generalize hG5:upd _ l5 _=H5
   have s5:=qp hG5 g5
   have h5:H5 l5=some (.lst ((["","way","way 0 1 plain "," way 0 1 plain","way 0 1 Plain"]:List Str).map V.str)):=qo hG5
   obtain⟨j,hj,hj2⟩:∃n:Nat,c / 256 % 5=(n:Int)/\n<5:=⟨(c / 256 % 5).toNat,by omega,by omega⟩
   obtain⟨y,e1,y1,y2,y3,y4,y5⟩:∃y:Str,((["","way","way 0 1 plain "," way 0 1 plain","way 0 1 Plain"]:List Str).map V.str)[j]? =some (.str y)/\y.length<=20/\Txt.split y " "≠[]/\(Txt.split y " ").length<=7/\(Txt.split y " ").all okW=true/\True:=by
    match j,hj2 with
    |0,_=>exact⟨"",rfl,by walk_at "k",by walk_at "k",by walk_at "k",by walk_at "k",trivial⟩
    |1,_=>exact⟨"way",rfl,by walk_at "k",by walk_at "k",by walk_at "k",by walk_at "k",trivial⟩
    |2,_=>exact⟨"way 0 1 plain ",rfl,by walk_at "k",by walk_at "k",by walk_at "k",by walk_at "k",trivial⟩
    |3,_=>exact⟨" way 0 1 plain",rfl,by walk_at "k",by walk_at "k",by walk_at "k",by walk_at "k",trivial⟩
    |4,_=>exact⟨"way 0 1 Plain",rfl,by walk_at "k",by walk_at "k",by walk_at "k",by walk_at "k",trivial⟩
   walk_at "r"
   rw[hj]
   refine q0f (SqL.of h5) (qE e1) ?_
   walk_at "r"
   try refine⟨rfl,?_⟩
   walk_at "r"
   refine⟨y,_,rfl,rfl,rfl,by omega,by omega,fun q6 g6=>?_⟩
   generalize hG6:upd _ q6 _=H6
   have s6:=qp hG6 g6
   have h6:=qo hG6
   have g7:q65 (Txt.split y " "):=⟨y2,y3,y4⟩
   have s7:=s04.trans (s5.trans s6)
   walk_at "r"
   try refine⟨rfl,?_⟩
   walk_at "r"
   refine⟨_,q6,_,rfl,rfl,SqL.of (by assumption),by walk_at "k",(q0Z g7).2,?_⟩
   exact k _ _ s7 (q0Z g7).1
end
def spSp:Sp:=fun vs H Q _=>E3 fun(p:Addr) (c:Int) (Ls:List Str)=>A7 (vs=[.ref p,.int c]) (0<=c) (H p=some (.lst (Ls.map V.str))) ((∀z∈Ls,Lsm z)) (3<=Ls.length) (Ls.length<=39) (∀(q:Addr) (Ns:List Str) (H':Hp),Same H H'->H' q=some (.lst (Ns.map V.str))->(∀z∈Ns,Lok z)->Ns.length<=100->Q (.ref q) H')
theorem q8g:Lok "":=⟨by walk_at "k",by walk_at "k",by walk_at "k",by walk_at "k",by walk_at "k"⟩
section
variable {P:Program}{w:World}{K:W.Frag}{mg:Str->Option Value}{base:Heap}{xs:Xs}{cs:Cs}
theorem ok_sp (T:Txt mg cs)(L:Laid K mg "_law_spoiled" q07 ["_law_lines_here","_law_cell_here"])(waa:Cal P w K mg base 1 "_law_bent" ["_law_line","_law_cell_here"] spBt):Cal P w K mg base 2 "_law_spoiled" ["_law_lines_here","_law_cell_here"] spSp:=by
 refine L.cal (k:=1) q0m (fun vs H Q E h=>?_) (fun f cdv A outer s H vs Q E hr h=>?_)
 ·obtain ⟨p,c,Ls,rfl,_⟩:=h
  rfl
 ·obtain ⟨p,c,Ls,rfl,hc,hp,hL,l3,l39,k⟩:=h
  have big:=qC
  have hLk:∀z∈Ls,Lok z:=fun z hz=>(hL z hz).lok
  refine⟨_,(qg (qI (i:=2) q0m.nd rfl (Or.inr rfl) (qv qX (qv qW (pv 1) qd) (qx (lenK K) rfl T.wq q0k (qa (pv 0) qc))))
   (qg (qI (i:=3) q0m.nd rfl (Or.inl rfl) (qv qX (pv 1) qd))
   (qg (qQ (qr q2G (pv 3) qd (qB _)) (qj (qw (qv q1x (qv q1x (qU (q04 K) (pv 0) q0s (qY (pv 2))) (qK (qa (qR waa hr (by decide) rfl (qa (qD (qq K) (pv 0) (pv 2) (fun _ _=>rfl)) (qa (qv qW (pv 1) qd) qc))) qc))) (qU (q04 K) (pv 0) (qY (qv q0S (pv 2) qd)) q0s)))) qy)
   (qg (qI (i:=4) q0m.nd rfl (Or.inl rfl) (qU (q04 K) (pv 0) q0s (qY (pv 2))))
   (qg (qQ (qr q0i (pv 3) qd (qB _)) (qj (qw (qv q1x (pv 4) (qU (q04 K) (pv 0) (qY (qv q0S (pv 2) qd)) q0s)))) qy)
   (qg (qQ (qr q0i (pv 3) qd (qB _)) (qg (qI (i:=5) q0m.nd rfl (Or.inl rfl) (qD (qq K) (pv 0) (qv qX (qv qW (pv 1) qd) (qx (lenK K) rfl T.wq q0k (qa (pv 0) qc))) (fun _ _=>rfl)))
   (qj (qw (qv q1x (qv q1x (pv 4) (qK (qa (pv 5) qc))) (qU (q04 K) (pv 0) (qY (pv 2)) q0s))))) qy)
   (qg (qQ (qr q0i (pv 3) qd (qB _)) (qg (qb2 (i:=6) q0m.nd rfl rfl (q1k (N:=["_law_k","_law_lines_here","_law_at"]) (own:=1) (caps:=[0,2]) ["_law_lines_here","_law_cell_here","_law_at","_law_way","_law_ahead","_law_other","_law_same"] (qe q07) (by walk_at "k")) rfl (q29 rfl T.vH (qa qd qc)) (fun _ _ _ _=>(qM (i:=0) (show List.Nodup (["_law_k","_law_lines_here","_law_at"]:List Str) by walk_at "k") rfl (Or.inl rfl))) (fun _ _ _ _=>q1u) (fun _ _ _ _=>(qD (qq K) (pv 1) (pv 2) (fun _ _=>rfl))))
   (qj (qw (qv q1x (qv q1x (pv 4) (pv 6)) (qU (q04 K) (pv 0) (qY (qv q0S (pv 2) qd)) q0s))))) qy)
   (qg (qQ (qr q0i (qv qX (qv qW (pv 1) qd) qd) qd (qB _)) (qj (qw (qU (q04 K) (pv 0) q0s (qY (qv q0S qd (qv qX (qv qW (pv 1) qd) qd)))))) qy)
   (qj (qw (qv q1x (pv 0) (qK (qa qk qc))))))))))))),?_⟩
  walk_at "r"
  refine⟨_,_,rfl,rfl,by simp;omega,?_⟩
  rw[yC]
  obtain⟨at',hat,hat2⟩:∃n:Nat,c / 8 % (Ls.length:Int)=(n:Int)/\n<Ls.length:=⟨(c / 8 % (Ls.length:Int)).toNat,by have:=za4 (c / 8) (b:=(Ls.length:Int)) (by omega);omega,by have:=zbw (c / 8) (b:=(Ls.length:Int)) (by omega);have:=za4 (c / 8) (b:=(Ls.length:Int)) (by omega);omega⟩
  have hat0:(fun i j=>V.int (i % j)) (c / 8) (Ls.length:Int)=V.int (at':Int):=by show V.int (c / 8 % (Ls.length:Int))=_;rw[hat]
  rw[hat0]
  have a1:(Ls.map V.str)[at']? =some (.str Ls[at']):=by simp[hat2]
  have hx:=hL _ (zN hat2)
  have hxk:=hLk _ (zN hat2)
  generalize Ls[at']=x at a1 hx hxk
  have c1:cutV (Ls.map V.str) none (some (at':Int))=(Ls.take at').map V.str:=by rw[qbT _ _ (by simp;omega),List.map_take]
  have c2:cutV (Ls.map V.str) (some ((at':Int)+1)) none=(Ls.drop (at'+1)).map V.str:=by rw[show((at':Nat):Int)+1=((at'+1:Nat):Int) from rfl,q5v _ _ (by simp;omega),List.map_drop]
  have c3:cutV (Ls.map V.str) (some (at':Int)) none=(Ls.drop at').map V.str:=by rw[q5v _ _ (by simp;omega),List.map_drop]
  have tk:∀z∈Ls.take at',Lok z:=fun z hz=>hLk z (zaF hz)
  have dr:∀n,∀z∈Ls.drop n,Lok z:=fun n z hz=>hLk z (List.mem_of_mem_drop hz)
  have three:∀{A B:List Str} {y:Str},(∀z∈A,Lok z)->Lok y->(∀z∈B,Lok z)->∀z∈A++[y]++B,Lok z:=fun {A B y} ha hy hb z hz=>by
   rcases zad.mp hz with hz|hz
   ·rcases zad.mp hz with hz|hz
    ·exact ha z hz
    ·rw [zL.mp hz];exact hy
   ·exact hb z hz
  obtain⟨wy,hwy,hwy2⟩:∃n:Nat,c % 8=(n:Int)/\n<8:=⟨(c % 8).toNat,by omega,by omega⟩
  walk_at "r"
  rw[hwy]
  refine ifd (fun d1=>?_) (fun d1=>?_)
  ·walk_at "r"
   refine⟨p,_,rfl,SqL.of hp,fun q1 g1=>?_⟩
   rw[c1]
   generalize hG1:upd _ q1 _=H1
   have s1:=qp hG1 g1
   have h1:=qo hG1
   have hp1:=s1 _ _ hp
   walk_at "r"
   try refine q0f (SqL.of hp1) (qE a1) ?_
   walk_at "r"
   refine⟨x,_,rfl,by omega,hx,fun y H2 s2 hy=>?_⟩
   walk_at "r"
   intro q3 g3
   generalize hG3:upd _ q3 _=H3
   have s3:=qp hG3 g3
   have h3:=qo hG3
   have s23:=s2.trans s3
   refine⟨q1,q3,_,_,rfl,rfl,s23 _ _ h1,h3,by simp;omega,fun q4 g4=>?_⟩
   generalize hG4:upd _ q4 _=H4
   have s4:=qp hG4 g4
   have h4:=qo hG4
   have s14:=s23.trans s4
   have hp4:=s14 _ _ hp1
   walk_at "r"
   refine⟨p,_,rfl,SqL.of hp4,fun q5 g5=>?_⟩
   rw[c2]
   generalize hG5:upd _ q5 _=H5
   have s5:=qp hG5 g5
   have h5:=qo hG5
   refine⟨q4,q5,_,_,rfl,rfl,s5 _ _ h4,h5,by simp;omega,fun q6 g6=>?_⟩
   generalize hG6:upd _ q6 _=H6
   have s6:=qp hG6 g6
   have h6:=qo hG6
   walk_at "r"
   exact k q6 (Ls.take at'++[y]++Ls.drop (at'+1)) H6 (s1.trans (s14.trans (s5.trans s6))) (by rw[h6];simp) (three tk hy (dr _)) (by simp;omega)
  walk_at "r"
  refine⟨p,_,rfl,SqL.of hp,fun q1 g1=>?_⟩
  rw[c1]
  generalize hG1:upd _ q1 _=H1
  have s1:=qp hG1 g1
  have h1:=qo hG1
  have hp1:=s1 _ _ hp
  walk_at "r"
  refine ifd (fun d2=>?_) (fun d2=>?_)
  ·walk_at "r"
   refine⟨p,_,rfl,SqL.of hp1,fun q5 g5=>?_⟩
   rw[c2]
   generalize hG5:upd _ q5 _=H5
   have s5:=qp hG5 g5
   have h5:=qo hG5
   refine⟨q1,q5,_,_,rfl,rfl,s5 _ _ h1,h5,by simp;omega,fun q6 g6=>?_⟩
   generalize hG6:upd _ q6 _=H6
   have s6:=qp hG6 g6
   have h6:=qo hG6
   walk_at "r"
   exact k q6 (Ls.take at'++Ls.drop (at'+1)) H6 (s1.trans (s5.trans s6)) (by rw[h6];simp) (fun z hz=>by rcases zad.mp hz with hz|hz;exact tk z hz;exact dr _ z hz) (by simp;omega)
  walk_at "r"
  refine ifd (fun d3=>?_) (fun d3=>?_)
  ·walk_at "r"
   refine⟨_,_,rfl,rfl,by simp;omega,?_⟩
   rw[yC]
   obtain⟨j,hj,hj2⟩:∃n:Nat,c / 512 % (Ls.length:Int)=(n:Int)/\n<Ls.length:=⟨(c / 512 % (Ls.length:Int)).toNat,by have:=za4 (c / 512) (b:=(Ls.length:Int)) (by omega);omega,by have:=zbw (c / 512) (b:=(Ls.length:Int)) (by omega);have:=za4 (c / 512) (b:=(Ls.length:Int)) (by omega);omega⟩
   have hj0:(fun i j=>V.int (i % j)) (c / 512) (Ls.length:Int)=V.int (j:Int):=by show V.int (c / 512 % (Ls.length:Int))=_;rw[hj]
   rw[hj0]
   have b1:(Ls.map V.str)[j]? =some (.str Ls[j]):=by simp[hj2]
   have hy:=hLk _ (zN hj2)
   generalize Ls[j]=y at b1 hy
   refine q0f (SqL.of hp1) (qE b1) ?_
   walk_at "r"
   intro q3 g3
   generalize hG3:upd _ q3 _=H3
   have s3:=qp hG3 g3
   have h3:=qo hG3
   refine⟨q1,q3,_,_,rfl,rfl,s3 _ _ h1,h3,by simp;omega,fun q4 g4=>?_⟩
   generalize hG4:upd _ q4 _=H4
   have s4:=qp hG4 g4
   have h4:=qo hG4
   have s14:=s3.trans s4
   have hp4:=s14 _ _ hp1
   walk_at "r"
   refine⟨p,_,rfl,SqL.of hp4,fun q5 g5=>?_⟩
   rw[c3]
   generalize hG5:upd _ q5 _=H5
   have s5:=qp hG5 g5
   have h5:=qo hG5
   refine⟨q4,q5,_,_,rfl,rfl,s5 _ _ h4,h5,by simp;omega,fun q6 g6=>?_⟩
   generalize hG6:upd _ q6 _=H6
   have s6:=qp hG6 g6
   have h6:=qo hG6
   walk_at "r"
   exact k q6 (Ls.take at'++[y]++Ls.drop at') H6 (s1.trans (s14.trans (s5.trans s6))) (by rw[h6];simp) (three tk hy (dr _)) (by simp;omega)
  walk_at "r"
  refine ifd (fun d4=>?_) (fun d4=>?_)
  ·walk_at "r"
   intro D hD
   refine q9N (fun i σ H'=>E1 fun v0=>A3 (σ=[v0,some (.ref p),some (.int (at':Int))]) (Same H1 H') (H' D=some (.lst ((List.replicate i x).map V.str)))) ⟨none,rfl,Same.upd hD,by rw[qh];rfl⟩ ?_ ?_
   ·rintro i σ H' hi ⟨v0,rfl,s2,hd⟩
    have hp2:=s2 _ _ hp1
    walk_at "r"
    try refine q0f (SqL.of hp2) (qE a1) ?_
    walk_at "r"
    refine⟨_,hd,?_,_,rfl,s2.put hD,?_⟩
    ·have:i<21:=hi
     simp
     omega
    ·rw [qh,List.replicate_succ',zY]
     rfl
   ·rintro σ H2 ⟨v0,rfl,s2,hd⟩
    replace hd:H2 D=some (.lst ((List.replicate 21 x).map V.str)):=hd
    have hp2:=s2 _ _ hp1
    have h12:=s2 _ _ h1
    walk_at "r"
    refine⟨q1,D,_,_,rfl,rfl,h12,hd,by simp;omega,fun q4 g4=>?_⟩
    generalize hG4:upd _ q4 _=H4
    have s4:=qp hG4 g4
    have h4:=qo hG4
    have hp4:=s4 _ _ hp2
    walk_at "r"
    refine⟨p,_,rfl,SqL.of hp4,fun q5 g5=>?_⟩
    rw[c2]
    generalize hG5:upd _ q5 _=H5
    have s5:=qp hG5 g5
    have h5:=qo hG5
    refine⟨q4,q5,_,_,rfl,rfl,s5 _ _ h4,h5,by simp;omega,fun q6 g6=>?_⟩
    generalize hG6:upd _ q6 _=H6
    have s6:=qp hG6 g6
    have h6:=qo hG6
    walk_at "r"
    refine k q6 (Ls.take at'++List.replicate 21 x++Ls.drop (at'+1)) H6 (s1.trans (s2.trans (s4.trans (s5.trans s6)))) (by rw[h6];simp) (fun z hz=>?_) (by simp;omega)
    rcases zad.mp hz with hz|hz
    ·rcases zad.mp hz with hz|hz
     ·exact tk z hz
     ·rw [List.eq_of_mem_replicate hz];exact hxk
    ·exact dr _ z hz
  walk_at "r"
  refine ifd (fun d5=>?_) (fun d5=>?_)
  ·walk_at "r"
   obtain⟨j,hj,hj2⟩:∃n:Nat,1+c / 512 % 3=(n:Int)/\n<=3:=⟨(1+c / 512 % 3).toNat,by omega,by omega⟩
   refine⟨p,_,rfl,SqL.of hp1,fun q5 g5=>?_⟩
   rw[hj,qbT _ _ (by simp;omega),<-List.map_take]
   generalize hG5:upd _ q5 _=H5
   have s5:=qp hG5 g5
   have h5:=qo hG5
   walk_at "r"
   exact k q5 (Ls.take j) H5 (s1.trans s5) h5 (fun z hz=>hLk z (zaF hz)) (by simp;omega)
  ·walk_at "r"
   intro q5 g5
   generalize hG5:upd _ q5 _=H5
   have s5:=qp hG5 g5
   have h5:=qo hG5
   refine⟨p,q5,_,_,rfl,rfl,s5 _ _ hp1,h5,by simp;omega,fun q6 g6=>?_⟩
   generalize hG6:upd _ q6 _=H6
   have s6:=qp hG6 g6
   have h6:=qo hG6
   walk_at "r"
   refine k q6 (Ls++[("":Str)]) H6 (s1.trans (s5.trans s6)) (by rw[h6];simp) (fun z hz=>?_) (by simp;omega)
   rcases zad.mp hz with hz|hz
   ·exact hLk z hz
   ·rw [zL.mp hz];exact q8g
end
theorem qbx (C:Cl):∀ws∈lns C,2<=ws.length:=by
 intro ws h
 unfold lns at h
 simp only[List.mem_append,List.mem_cons,List.mem_map,List.not_mem_nil,or_false] at h
 rcases h with(rfl|rfl|rfl)|⟨x,_,rfl⟩|⟨x,_,rfl⟩|⟨x,_,rfl⟩|⟨x,_,rfl⟩<;>simp[lnN,lnP,lnW]
theorem qby {C:Cl}(o:ClOk C):∀z∈lin C,Lsm z:=fun z hz=>by
 obtain⟨ws,h,rfl⟩:=zaw.mp hz
 obtain⟨a,b,c⟩:=q4f o ws h
 exact⟨ws,rfl,qbx C ws h,b,c⟩
def q9a (K:W.Frag):Sp:=fun vs H Q _=>E2 fun(a:Addr) (ns:List Int)=>A4 (vs=[.ref a]) (SqL K H a (ns.map V.int)) (ns.length<=63) (∀H',Q (.bl true) H')
section
variable {P:Program}{w:World}{K:W.Frag}{mg:Str->Option Value}{base:Heap}{xs:Xs}{cs:Cs}
theorem ok_law {f:Addr}{fd:FuncData}(F:Fun K "law" "law" q5d f fd)(T:Txt mg cs)(TK:Tk K mg)(TX:Tx K mg xs)(TC:Tcl K cs)(wbG:Laid K mg "_wall" q3x ["k"])(waX:Laid K mg "within" q20 ["number","least","most"])(waK:Laid K mg "changed" q1t ["parts","place","part"])(waI:Laid K mg "gate_of" q1s ["gate"])(waO:Laid K mg "is_gate" q19 ["thing"])(waN:Laid K mg "tops_of" q1o ["word"])(vV:∃d1 d2,LaidD K mg "cellar" q17 [.none,.none,.none,.int 0 d1,.int 0 d2])(waG:Laid K mg "made_of" q1r ["parts"])(vf:Laid K mg "check_number" q0g ["name","number","least","most"])(wak:Laid K mg "made_ways" q0I ["rooms","ways"])(vT:Laid K mg "made_pairs" q0y ["name","rooms","pairs","most_pairs","least","most"])(v9:Laid K mg "made_rows" q0x ["name","rows","most"])(wbb:Laid K mg "shown" q1p ["cellar"])(wby:Laid K mg "read" q3w ["text"])(vi:Laid K mg "numbers_line" q06 ["word","numbers"])(wau:Laid K mg "way_line" q16 ["way"])(wai:Laid K mg "with_line" q0H ["made","number","words"])(wav:Laid K mg "with_row" q0Q ["made","words"])(waM:Laid K mg "part_of" q1q ["word"])(wa3:Laid K mg "way_of" q21 ["words"])(wX:Laid K mg "numbers_behind" qZ ["word","words","many"])(vQ:Laid K mg "numbers_of" q0o ["words"])(wac:Laid K mg "is_number" q0z ["word"])(wab:Laid K mg "_law_cell" q0L ["_law_script","_law_k"])(waj:Laid K mg "_law_gate" q0K ["_law_cell_here"])(vD:Laid K mg "_law_cellar" q0e ["_law_script"])(vK:Laid K mg "_law_lines" q0p ["_law_one"])(vA:Laid K mg "_law_number" q0d ["_law_text","_law_low","_law_beyond"])(vh:Laid K mg "_law_numbers" q0h ["_law_parts","_law_bounds"])(wZ:Laid K mg "_law_gate_good" q02 ["_law_parts"])(wY:Laid K mg "_law_head_good" q01 ["_law_parts","_law_k"])(w9:Laid K mg "_law_line_good" q00 ["_law_parts","_law_rooms"])(w8:Laid K mg "_law_first_bad" q03 ["_law_lines_here"])(wam:Laid K mg "_law_bent" q0M ["_law_line","_law_cell_here"])(vg:Laid K mg "_law_spoiled" q07 ["_law_lines_here","_law_cell_here"])(waf:Laid K mg "_law_said" q0J ["_law_lines_here"])(vp:LaidM K cs.Plain "text" "Gate.text" qL ["self"])(vz:LaidM K cs.Plain "told" "Gate.told" qN ["self"])(wa1:LaidI K mg "Plain" cs.Plain "Plain.__init__" q0q ["self"])(vS:LaidM K cs.Door "text" "Gate.text" qL ["self"])(vP:LaidM K cs.Door "told" "Gate.told" qN ["self"])(wa9:LaidI K mg "Door" cs.Door "Door.__init__" q0D ["self","kind"])(vU:LaidM K cs.Need "text" "Gate.text" qL ["self"])(vO:LaidM K cs.Need "told" "Gate.told" qN ["self"])(wbi:LaidI K mg "Need" cs.Need "Need.__init__" q0B ["self","kind"])(wal:LaidM K cs.Bar "text" "Gate.text" qL ["self"])(wae:LaidM K cs.Bar "told" "Gate.told" qN ["self"])(wbz:LaidI K mg "Bar" cs.Bar "Bar.__init__" q0R ["self","bar"])(vJ:LaidM K cs.Wade "text" "Gate.text" qL ["self"])(vR:LaidM K cs.Wade "told" "Gate.told" qN ["self"])(wbc:LaidI K mg "Wade" cs.Wade "Wade.__init__" q0A ["self","height","kind"])(vo:LaidM K cs.Float "text" "Gate.text" qL ["self"])(vw:LaidM K cs.Float "told" "Gate.told" qN ["self"])(wa2:LaidI K mg "Float" cs.Float "Float.__init__" q0r ["self","height"])(vY:LaidX K mg "NoText" xs.NoText "NoText.__init__" q05 ["self","line"])(vM:LaidC K mg "Gate" "__init__" "Gate.__init__" q0C ["self","word","numbers"]):FnOk P w K mg base CX0 10 f fd ["_law_script"] (q9a K):=by
 obtain⟨d1,d2,vV⟩:=vV
 have ve:=q85 (P:=P) (w:=w) (base:=base) T waX
 have waL:=q6Y (P:=P) (w:=w) (base:=base) T waN
 have waF:=q6Z (P:=P) (w:=w) (base:=base) T waO waL ve
 have wf:=q9q (P:=P) (w:=w) (base:=base) T TX vf ve
 have wP:=qbi (P:=P) (w:=w) (base:=base) T TX v9
 have wag:=ok_mw (P:=P) (w:=w) (base:=base) T TX wak wf wP waF
 have wS:=ok_mp (P:=P) (w:=w) (base:=base) T TX vT wf wP
 have waV:=ok_mkc (P:=P) (w:=w) (base:=base) T TX vV wf wag wS
 have wg:CCal P w K mg base 1 "Gate" "__init__" ["self","word","numbers"] (q24 K):=q9p T vM
 have wA:Makes P w K mg base 2 "Plain" cs.Plain ["self"] (spMk cs "plain"):=q9u T TC wa1 wg
 have wF:Makes P w K mg base 2 "Door" cs.Door ["self","kind"] (spMk cs "door"):=qbv T TC wa9 wg
 have wD:Makes P w K mg base 2 "Need" cs.Need ["self","kind"] (spMk cs "need"):=qbu T TC wbi wg
 have wJ:Makes P w K mg base 2 "Bar" cs.Bar ["self","bar"] (spMk cs "bar"):=mk_bar T TC wbz wg
 have wC:Makes P w K mg base 2 "Wade" cs.Wade ["self","height","kind"] (spMk cs "wade"):=qbt T TC wbc wg
 have ww:Makes P w K mg base 2 "Float" cs.Float ["self","height"] (spMk cs "float"):=q9v T TC wa2 wg
 have waR:Cal P w K mg base 4 "gate_of" ["gate"] (qaG cs):=q70 T waI wA wF wD wJ wC ww
 have vt:∀g:Gt,VMeth P w K mg base 1 (q4K cs g) "told" ["self"] (q7t cs (q4K cs g)):=fun g=>by
  cases g
  ·exact q2S vz TC.cl_Plain TC.no_Plain_word TC.no_Plain_numbers
  ·exact q2S vP TC.cl_Door TC.no_Door_word TC.no_Door_numbers
  ·exact q2S vO TC.cl_Need TC.no_Need_word TC.no_Need_numbers
  ·exact q2S wae TC.cl_Bar TC.no_Bar_word TC.no_Bar_numbers
  ·exact q2S vR TC.cl_Wade TC.no_Wade_word TC.no_Wade_numbers
  ·exact q2S vw TC.cl_Float TC.no_Float_word TC.no_Float_numbers
 have vx:∀g:Gt,VMeth P w K mg base 2 (q4K cs g) "text" ["self"] (q7u cs (q4K cs g)):=fun g=>by
  have v:=vt g
  cases g
  ·exact q2T T vp TC.cl_Plain v
  ·exact q2T T vS TC.cl_Door v
  ·exact q2T T vU TC.cl_Need v
  ·exact q2T T wal TC.cl_Bar v
  ·exact q2T T vJ TC.cl_Wade v
  ·exact q2T T vo TC.cl_Float v
 have wn:=ok_nl (P:=P) (w:=w) (base:=base) T vi
 have wat:=ok_wl (P:=P) (w:=w) (base:=base) T wau wn waR vx
 have wba:=ok_sh (P:=P) (w:=w) (base:=base) T wbb wn wat
 have wan:=ok_num (P:=P) (w:=w) (base:=base) T wac
 have wI:=ok_no (P:=P) (w:=w) (base:=base) T TX vQ wan
 have wr:=ok_nb (P:=P) (w:=w) (base:=base) T TX wX wI
 have waQ:=ok_pt (P:=P) (w:=w) (base:=base) T TX waM
 have wR:=ok_ch (P:=P) (w:=w) (base:=base) T waK
 have waW:=ok_wo (P:=P) (w:=w) (base:=base) T TX wa3 wI
 have wL:=ok_mo (P:=P) (w:=w) (base:=base) T TX waG waV
 have waA:=ok_wr (P:=P) (w:=w) (base:=base) T TX wav waQ waW wr wR wL
 have wah:=ok_ln (P:=P) (w:=w) (base:=base) T TX TK wai wr wR wL waA
 have wc:=q8c (P:=P) (w:=w) (base:=base) T TX vY
 have M_NoText:=q8b (P:=P) (w:=w) (base:=base) T TX vY
 have wbC:=ok_rd (P:=P) (w:=w) (base:=base) T TX wby wc M_NoText wah
 have wQ:=qbk (P:=P) (w:=w) (base:=base) T wab
 have vZ:=qbj (P:=P) (w:=w) (base:=base) T waj
 have wbn:=q86 (P:=P) (w:=w) (base:=base) T vD wQ vZ
 have wbA:=ok_ll (P:=P) (w:=w) (base:=base) T vK
 have vB:=ok_nu (P:=P) (w:=w) (base:=base) T vA
 have wj:=ok_nus (P:=P) (w:=w) (base:=base) T vh vB
 have wU:=ok_gg (P:=P) (w:=w) (base:=base) T wZ wj
 have wV:=ok_hg (P:=P) (w:=w) (base:=base) T wY wj
 have wW:=ok_lg (P:=P) (w:=w) (base:=base) T w9 wj wU
 have waZ:=ok_fb (P:=P) (w:=w) (base:=base) T w8 wV wW
 have waa:=ok_bt (P:=P) (w:=w) (base:=base) T wam
 have wbh:=ok_sp (P:=P) (w:=w) (base:=base) T vg waa
 have waU:=ok_sd (P:=P) (w:=w) (base:=base) T TX waf wbC wba
 refine F.ok (k:=9) q3a (fun vs H Q E h=>?_) (fun cdv A outer s H vs Q E hr h=>?_)
 ·obtain ⟨a,ns,rfl,_⟩:=h
  rfl
 ·obtain ⟨a,ns,rfl,hS,hl,k⟩:=h
  have big:=qC
  refine⟨_,(qg (qI (i:=1) q3a.nd rfl (Or.inl rfl) (qR wbn hr (by decide) rfl (qa (pv 0) qc)))
   (qg (qI (i:=2) q3a.nd rfl (Or.inl rfl) (qR wbA hr (by decide) rfl (qa (pv 1) qc)))
   (qg (q28 PassesOwn.never rfl (q29 rfl T.vH (qa (qx (min2 rfl) rfl T.wcd qap (qa (qv q0S qd (qv qW (qx (lenK K) rfl T.wq q0k (qa (pv 0) qc)) qd)) (qa qd qc))) qc)) (qM (i:=3) q3a.nd rfl (Or.inl rfl)) (qg (qI (i:=4) q3a.nd rfl (Or.inl rfl) (qR wbh hr (by decide) rfl (qa (pv 2) (qa (qv qW (qR wQ hr (by decide) rfl (qa (pv 0) (qa (qv q0S qd (qv q3E qd (pv 3))) qc))) qd) qc))))
   (qg (qQ (qr (op_eqD K 1 (qai hr)) (pv 4) (qK qc) (qB _)) (qj (qI (i:=4) q3a.nd rfl (Or.inl rfl) (qK (qa qk qc)))) qy)
   (qg (qI (i:=5) q3a.nd rfl (Or.inl rfl) (qR waZ hr (by decide) rfl (qa (pv 4) qc)))
   (qg (qI (i:=6) q3a.nd rfl (Or.inl rfl) (qR waU hr (by decide) rfl (qa (pv 4) qc)))
   (qg (qQ (PW.pt (q3c (q2p (q5j (pv 5))) (q2x (q2p (qbd (pv 6)))))) (qj (qw q2F)) qy)
   (qg (qQ (PW.pt (q3c (q2p (q80 (pv 5))) (q2x (PW.pt (q23 (q2p (q5j (pv 6))) (q1i (q2p (qbe (pv 6))))))))) (qj (qw q2F)) qy)
   (qj (qQ (PW.pt (q3c (q2p (q80 (pv 5))) (q2x (PW.pt (q23 (q2p (qbf (pv 6))) (q1i (qr q4y (pv 6) (pv 5) (qB _)))))))) (qj (qw q2F)) qy)))))))))
   (qj (qw (qab (pc_isT (qR waU hr (by decide) rfl (qa (pv 2) qc))))))))),?_⟩
  walk_at "r"
  refine⟨a,ns,rfl,hS,hl,fun p C H1 s1 hC oC=>?_⟩
  walk_at "r"
  refine⟨p,C,rfl,hC,oC,fun q H2 s2 h2=>?_⟩
  have s12:=s1.trans s2
  have hln:=q5S oC
  have hsz:=q6t C
  have hll:(lin C).length=(lns C).length:=yC _
  have hsm:=qby oC
  walk_at "r"
  generalize hn:(if 9<2+(((ns.map V.int).length:Nat):Int) / 4 then(9:Int) else 2+(((ns.map V.int).length:Nat):Int) / 4).toNat=n
  have hn9:n<=9:=by
   rw[<-hn]
   split<;>omega
  refine q3L (fun i σ H'=>E4 fun v3 v4 v5 v6=>A2 (σ=[some (.ref a),some (.ref p),some (.ref q),v3,v4,v5,v6]) (Same H2 H')) ⟨_,_,_,_,rfl,Same.refl _⟩ ?_ ?_
  ·rintro i σ H' hi ⟨v3,v4,v5,v6,rfl,s3⟩
   have s23:=s12.trans s3
   walk_at "r"
   refine⟨a,ns,_,rfl,s23.seq hS,hl,by omega,by omega,fun m m0 m1=>?_⟩
   walk_at "r"
   refine⟨q,m / 3,lin C,rfl,by omega,s3 _ _ h2,hsm,by omega,by omega,fun q4 Ns H4 s4 h4 hNk hNl=>?_⟩
   have s34:=s3.trans s4
   walk_at "r"
   intro l5 g5
   generalize hG5:upd _ l5 _=H5
   have s5:=qp hG5 g5
   have h5:=qo hG5
   have h45:=s5 _ _ h4
   have s35:=s34.trans s5
   by_cases hN:Ns=[]
   ·subst hN
    refine r_eqDT (SqL.of h45) (SqL.of h5) rfl (fun j hj=>absurd hj (by simp)) ?_
    walk_at "r"
    intro l6 g6
    generalize hG6:upd _ l6 _=H6
    have s6:=qp hG6 g6
    have h6:H6 l6=some (.lst (([""]:List Str).map V.str)):=qo hG6
    have s36:=s35.trans s6
    have hk1:∀z∈([""]:List Str),Lok z:=fun z hz=>by rw[zL.mp hz];exact q8g
    walk_at "r"
    refine⟨l6,[""],rfl,h6,hk1,(by simp),fun D hR h3 H7 s7=>?_,fun j hB H7 s7=>?_⟩
    ·have hq7:=s7 _ _ h6
     walk_at "r"
     refine⟨l6,[""],rfl,hq7,(by simp),hk1,(by simp),fun D' hR' h3' H8 s8=>?_,fun j hB=>absurd (hB.not hR).1 (by omega)⟩
     walk_at "r"
     try refine ifd (fun _=>?_) (fun h=>absurd rfl h)
     walk_at "r"
     rw[show(!decide (V.non=V.non))=false by simp]
     refine iteF ?_
     walk_at "r"
     rw[show(!decide (V.non=V.non))=false by simp]
     refine iteF ?_
     walk_at "r"
     exact⟨_,_,_,_,rfl,s36.trans (s7.trans s8)⟩
    ·have hq7:=s7 _ _ h6
     walk_at "r"
     refine⟨l6,[""],rfl,hq7,(by simp),hk1,(by simp),fun D hR h3=>absurd (hB.not hR).1 (by omega),fun j' hB' H8 s8=>?_⟩
     obtain rfl:=hB.one hB'
     walk_at "r"
     refine ifd (fun h=>nomatch h) (fun _=>?_)
     walk_at "r"
     rw[show(!decide (V.int ((j:Nat):Int)=V.non))=true by simp]
     walk_at "r"
     refine ifd (fun h=>nomatch h) (fun _=>?_)
     walk_at "r"
     try refine q7I ?_
     walk_at "r"
     refine .inr (.inl ⟨_,rfl,?_⟩)
     try refine⟨_,rfl,?_⟩
     walk_at "r"
     rw[show(!decide (V.int ((j:Nat):Int)=V.non))=true by simp]
     walk_at "r"
     try refine q7J ?_
     walk_at "r"
     refine .inr (.inl ⟨_,rfl,?_⟩)
     try refine⟨_,rfl,?_⟩
     walk_at "r"
     try rw[show(!decide (((j:Nat):Int)=((j:Nat):Int)))=false by simp]
     try refine iteF ?_
     walk_at "r"
     exact⟨_,_,_,_,rfl,s36.trans (s7.trans s8)⟩
   ·refine r_eqDF (SqL.of h45) (SqL.of h5) (by simpa using hN) ?_
    walk_at "r"
    refine⟨q4,Ns,rfl,h45,hNk,hNl,fun D hR h3 H7 s7=>?_,fun j hB H7 s7=>?_⟩
    ·have hq7:=s7 _ _ h45
     walk_at "r"
     refine⟨q4,Ns,rfl,hq7,hN,hNk,hNl,fun D' hR' h3' H8 s8=>?_,fun j hB=>absurd (hB.not hR).1 (by omega)⟩
     walk_at "r"
     try refine ifd (fun _=>?_) (fun h=>absurd rfl h)
     walk_at "r"
     rw[show(!decide (V.non=V.non))=false by simp]
     refine iteF ?_
     walk_at "r"
     rw[show(!decide (V.non=V.non))=false by simp]
     refine iteF ?_
     walk_at "r"
     exact⟨_,_,_,_,rfl,s35.trans (s7.trans s8)⟩
    ·have hq7:=s7 _ _ h45
     walk_at "r"
     refine⟨q4,Ns,rfl,hq7,hN,hNk,hNl,fun D hR h3=>absurd (hB.not hR).1 (by omega),fun j' hB' H8 s8=>?_⟩
     obtain rfl:=hB.one hB'
     walk_at "r"
     refine ifd (fun h=>nomatch h) (fun _=>?_)
     walk_at "r"
     rw[show(!decide (V.int ((j:Nat):Int)=V.non))=true by simp]
     walk_at "r"
     refine ifd (fun h=>nomatch h) (fun _=>?_)
     walk_at "r"
     try refine q7I ?_
     walk_at "r"
     refine .inr (.inl ⟨_,rfl,?_⟩)
     try refine⟨_,rfl,?_⟩
     walk_at "r"
     rw[show(!decide (V.int ((j:Nat):Int)=V.non))=true by simp]
     walk_at "r"
     try refine q7J ?_
     walk_at "r"
     refine .inr (.inl ⟨_,rfl,?_⟩)
     try refine⟨_,rfl,?_⟩
     walk_at "r"
     try rw[show(!decide (((j:Nat):Int)=((j:Nat):Int)))=false by simp]
     try refine iteF ?_
     walk_at "r"
     exact⟨_,_,_,_,rfl,s35.trans (s7.trans s8)⟩
  ·rintro σ H3 ⟨v3,v4,v5,v6,rfl,s3⟩
   have hr:Run (lin C) (lin C).length C:=by
    have:=qaK oC ((lns C).length - 3) (by omega)
    rw[show(lns C).length - 3+3=(lns C).length by omega,qb3] at this
    rw[hll]
    exact this
   walk_at "r"
   try unfold tIsT
   walk_at "r"
   refine⟨q,lin C,rfl,s3 _ _ h2,fun e=>by rw[e] at hll;simp at hll;omega,fun z hz=>(hsm z hz).lok,by omega,fun D hR h3 H4 s4=>?_,fun j hB=>absurd (hB.not hr).1 (by omega)⟩
   try refine⟨_,rfl,?_⟩
   exact k _
end
theorem all_mk {l:W.OpenLaw}{w:World}{K:W.Frag}{h:Heap}{mg:Str->Option Value}{fa:Addr}(X:K.In h)(G:h.Ns mainGlobals mg)(hfa:mg "law"=some (.ref fa))
  {wbw:Option Addr}{wbs:Str}{wbt:List Value}{wbr:Addr}{wbo:Str}{wbx:Bool}{wbv:List Str}{wbq:List Value}{wbu:Bool}{wbe:Option Bool}{wbl:Bool}{wbp:Array (Option Value)}
  {wbV:Option Addr}{wb7:Str}{wbR:List Value}{wb5:Addr}{wbZ:Str}{wbM:List Str}{wbW:List Value}{wbN:Bool}{wbI:Option Bool}{wbO:Option Value}{wbP:Option Value}{wbY:Option Value}{wb2:Option Value}{wb0:Option Value}
  {wa8:Addr}
  {vX:Addr}
  {wa6:Addr}
  {wc:Addr}
  {waS:Addr}
  {war:Addr}
  {waz:Addr}
  {waC:Addr}
  {we:Addr}
  {wo:Addr}
  {f0:Addr}{od0 an0:Option Addr}{sl0:Array (Option Value)}{oc0 kV0 dc0 pm0 cd0 ct0:Value}
  {f1:Addr}{od1 an1:Option Addr}{sl1:Array (Option Value)}{oc1 kV1 dc1 pm1 cd1 ct1:Value}
  {f2:Addr}{od2 an2:Option Addr}{sl2:Array (Option Value)}{oc2 kV2 dc2 pm2 cd2 ct2:Value}
  {f3:Addr}{od3 an3:Option Addr}{sl3:Array (Option Value)}{oc3 kV3 dc3 pm3 cd3 ct3:Value}
  {f4:Addr}{od4 an4:Option Addr}{sl4:Array (Option Value)}{oc4 kV4 dc4 pm4 cd4 ct4:Value}
  {f5:Addr}{od5 an5:Option Addr}{sl5:Array (Option Value)}{oc5 kV5 dc5 pm5 cd5 ct5:Value}
  {f6:Addr}{od6 an6:Option Addr}{sl6:Array (Option Value)}{oc6 kV6 dc6 pm6 cd6 ct6:Value}
  {f7:Addr}{od7 an7:Option Addr}{sl7:Array (Option Value)}{oc7 kV7 dc7 pm7 cd7 ct7:Value}
  {f8:Addr}{od8 an8:Option Addr}{sl8:Array (Option Value)}{oc8 kV8 dc8 pm8 cd8 ct8:Value}
  {f9:Addr}{od9 an9:Option Addr}{sl9:Array (Option Value)}{oc9 kV9 dc9 pm9 cd9 ct9:Value}
  {f10:Addr}{od10 an10:Option Addr}{sl10:Array (Option Value)}{oc10 kV10 dc10 pm10 cd10 ct10:Value}
  {f11:Addr}{od11 an11:Option Addr}{sl11:Array (Option Value)}{oc11 kV11 dc11 pm11 cd11 ct11:Value}
  {f12:Addr}{od12 an12:Option Addr}{sl12:Array (Option Value)}{oc12 kV12 dc12 pm12 cd12 ct12:Value}
  {f13:Addr}{od13 an13:Option Addr}{sl13:Array (Option Value)}{oc13 kV13 dc13 pm13 cd13 ct13:Value}
  {f14:Addr}{od14 an14:Option Addr}{sl14:Array (Option Value)}{oc14 kV14 dc14 pm14 cd14 ct14:Value}
  {f15:Addr}{od15 an15:Option Addr}{sl15:Array (Option Value)}{oc15 kV15 dc15 pm15 cd15 ct15:Value}
  {f16:Addr}{od16 an16:Option Addr}{sl16:Array (Option Value)}{oc16 kV16 dc16 pm16 cd16 ct16:Value}
  {f17:Addr}{od17 an17:Option Addr}{sl17:Array (Option Value)}{oc17 kV17 dc17 pm17 cd17 ct17:Value}
  {f18:Addr}{od18 an18:Option Addr}{sl18:Array (Option Value)}{oc18 kV18 dc18 pm18 cd18 ct18:Value}
  {f19:Addr}{od19 an19:Option Addr}{sl19:Array (Option Value)}{oc19 kV19 dc19 pm19 cd19 ct19:Value}
  {f20:Addr}{od20 an20:Option Addr}{sl20:Array (Option Value)}{oc20 kV20 dc20 pm20 cd20 ct20:Value}
  {f21:Addr}{od21 an21:Option Addr}{sl21:Array (Option Value)}{oc21 kV21 dc21 pm21 cd21 ct21:Value}
  {f22:Addr}{od22 an22:Option Addr}{sl22:Array (Option Value)}{oc22 kV22 dc22 pm22 cd22 ct22:Value}
  {f23:Addr}{od23 an23:Option Addr}{sl23:Array (Option Value)}{oc23 kV23 dc23 pm23 cd23 ct23:Value}
  {f24:Addr}{od24 an24:Option Addr}{sl24:Array (Option Value)}{oc24 kV24 dc24 pm24 cd24 ct24:Value}
  {f25:Addr}{od25 an25:Option Addr}{sl25:Array (Option Value)}{oc25 kV25 dc25 pm25 cd25 ct25:Value}
  {f26:Addr}{od26 an26:Option Addr}{sl26:Array (Option Value)}{oc26 kV26 dc26 pm26 cd26 ct26:Value}
  {f27:Addr}{od27 an27:Option Addr}{sl27:Array (Option Value)}{oc27 kV27 dc27 pm27 cd27 ct27:Value}
  {f28:Addr}{od28 an28:Option Addr}{sl28:Array (Option Value)}{oc28 kV28 dc28 pm28 cd28 ct28:Value}
  {f29:Addr}{od29 an29:Option Addr}{sl29:Array (Option Value)}{oc29 kV29 dc29 pm29 cd29 ct29:Value}
  {f30:Addr}{od30 an30:Option Addr}{sl30:Array (Option Value)}{oc30 kV30 dc30 pm30 cd30 ct30:Value}
  {f31:Addr}{od31 an31:Option Addr}{sl31:Array (Option Value)}{oc31 kV31 dc31 pm31 cd31 ct31:Value}
  {f32:Addr}{od32 an32:Option Addr}{sl32:Array (Option Value)}{oc32 kV32 dc32 pm32 cd32 ct32:Value}
  {f33:Addr}{od33 an33:Option Addr}{sl33:Array (Option Value)}{oc33 kV33 dc33 pm33 cd33 ct33:Value}
  {f34:Addr}{od34 an34:Option Addr}{sl34:Array (Option Value)}{oc34 kV34 dc34 pm34 cd34 ct34:Value}
  {f35:Addr}{od35 an35:Option Addr}{sl35:Array (Option Value)}{oc35 kV35 dc35 pm35 cd35 ct35:Value}
  {f36:Addr}{od36 an36:Option Addr}{sl36:Array (Option Value)}{oc36 kV36 dc36 pm36 cd36 ct36:Value}
  {f37:Addr}{od37 an37:Option Addr}{sl37:Array (Option Value)}{oc37 kV37 dc37 pm37 cd37 ct37:Value}
  {f38:Addr}{od38 an38:Option Addr}{sl38:Array (Option Value)}{oc38 kV38 dc38 pm38 cd38 ct38:Value}
  {f39:Addr}{od39 an39:Option Addr}{sl39:Array (Option Value)}{oc39 kV39 dc39 pm39 cd39 ct39:Value}
  {f40:Addr}{od40 an40:Option Addr}{sl40:Array (Option Value)}{oc40 kV40 dc40 pm40 cd40 ct40:Value}
  {f41:Addr}{od41 an41:Option Addr}{sl41:Array (Option Value)}{oc41 kV41 dc41 pm41 cd41 ct41:Value}
  {f42:Addr}{od42 an42:Option Addr}{sl42:Array (Option Value)}{oc42 kV42 dc42 pm42 cd42 ct42:Value}
  {f43:Addr}{od43 an43:Option Addr}{sl43:Array (Option Value)}{oc43 kV43 dc43 pm43 cd43 ct43:Value}
  {f44:Addr}{od44 an44:Option Addr}{sl44:Array (Option Value)}{oc44 kV44 dc44 pm44 cd44 ct44:Value}
  {f45:Addr}{od45 an45:Option Addr}{sl45:Array (Option Value)}{oc45 kV45 dc45 pm45 cd45 ct45:Value}
  {f46:Addr}{od46 an46:Option Addr}{sl46:Array (Option Value)}{oc46 kV46 dc46 pm46 cd46 ct46:Value}
  {T_cellar:Addr}{oT_cellar:Value}{odT_cellar:Option Addr}{nT_cellar:Nat}{slT_cellar:Array (Option Value)}{d1 d2:Tok}
  {t_ALL_BARS:Tok}
  {t_FIGURES:Tok}
  {t_FIRST:Tok}
  {t_FIRST_BARS:Tok}
  {t_FIRST_LINES:Tok}
  {t_FIRST_WATER:Tok}
  {t_LAST:Tok}
  {t_LAST_BAR:Tok}
  {t_LAST_KIND:Tok}
  {t_LEVERS:Tok}
  {t_MOST_LEVERS:Tok}
  {t_MOST_ROOMS:Tok}
  {t_MOST_THINGS:Tok}
  {t_MOST_WAYS:Tok}
  {t_MOST_WHEELS:Tok}
  {t_ROOMS:Tok}
  {t_THINGS:Tok}
  {t_TOP_HEIGHT:Tok}
  {t_WAYS:Tok}
  {t_WAY_A:Tok}
  {t_WAY_B:Tok}
  {t_WAY_BACK:Tok}
  {t_WAY_GATE:Tok}
  {t_WHEELS:Tok}
  {U_NOTHING_MORE:Addr}{nU_NOTHING_MORE:Nat}{sU_NOTHING_MORE:Array (Option Value)}{u4_NOTHING_MORE u5_NOTHING_MORE:Tok}
  {E0_NOTHING_MORE:Addr}{nE0_NOTHING_MORE:Nat}{sE0_NOTHING_MORE:Array (Option Value)}
  {E1_NOTHING_MORE:Addr}{nE1_NOTHING_MORE:Nat}{sE1_NOTHING_MORE:Array (Option Value)}
  {E2_NOTHING_MORE:Addr}{nE2_NOTHING_MORE:Nat}{sE2_NOTHING_MORE:Array (Option Value)}
  {E3_NOTHING_MORE:Addr}{nE3_NOTHING_MORE:Nat}{sE3_NOTHING_MORE:Array (Option Value)}
  {vd:Addr}
  {wA:Addr}
  {wF:Addr}
  {wD:Addr}
  {wJ:Addr}
  {wC:Addr}
  {ww:Addr}
  (z0:W.nsIn K mainGlobals "DelveError"=some (some (.ref wo)))
  (z1:W.nsIn K mainGlobals "NoCellar"=some (some (.ref we)))
  (z2:W.nsIn K mainGlobals "NoDeal"=some (some (.ref waC)))
  (z3:W.nsIn K mainGlobals "NoDeed"=some (some (.ref waz)))
  (z4:W.nsIn K mainGlobals "NoPlan"=some (some (.ref war)))
  (z5:W.nsIn K mainGlobals "NoRow"=some (some (.ref waS)))
  (z6:W.nsIn K mainGlobals "NoText"=some (some (.ref wc)))
  (z7:W.nsIn K mainGlobals "Shut"=some (some (.ref wa6)))
  (z8:W.nsIn K mainGlobals "TooMany"=some (some (.ref vX)))
  (z9:W.nsIn K mainGlobals "Wide"=some (some (.ref wa8)))
  (za:W.nsIn K mainGlobals "Gate"=some (some (.ref vd)))
  (zb:W.nsIn K mainGlobals "Plain"=some (some (.ref wA)))
  (zc:W.nsIn K mainGlobals "Door"=some (some (.ref wF)))
  (zd:W.nsIn K mainGlobals "Need"=some (some (.ref wD)))
  (ze:W.nsIn K mainGlobals "Bar"=some (some (.ref wJ)))
  (zf:W.nsIn K mainGlobals "Wade"=some (some (.ref wC)))
  (zg:W.nsIn K mainGlobals "Float"=some (some (.ref ww)))
  (a0:W.nsIn K mainGlobals "_wall"=some (some (.ref f0)))
  (l0:K.lookup f0=some ⟨oc0,od0,.func (W.fnOf "_wall" "_wall" (qA q3x) (qu q3x) (qe q3x) .none kV0 dc0 pm0 an0 cd0 ct0),sl0⟩)
  (c0:W.codeIn K cd0 "_wall"=true)
  (k0:W.keepIn K (.ref f0)=true)
  (a1:W.nsIn K mainGlobals "within"=some (some (.ref f1)))
  (l1:K.lookup f1=some ⟨oc1,od1,.func (W.fnOf "within" "within" (qA q20) (qu q20) (qe q20) .none kV1 dc1 pm1 an1 cd1 ct1),sl1⟩)
  (c1:W.codeIn K cd1 "within"=true)
  (k1:W.keepIn K (.ref f1)=true)
  (a2:W.nsIn K mainGlobals "changed"=some (some (.ref f2)))
  (l2:K.lookup f2=some ⟨oc2,od2,.func (W.fnOf "changed" "changed" (qA q1t) (qu q1t) (qe q1t) .none kV2 dc2 pm2 an2 cd2 ct2),sl2⟩)
  (c2:W.codeIn K cd2 "changed"=true)
  (k2:W.keepIn K (.ref f2)=true)
  (a3:W.nsIn K mainGlobals "gate_of"=some (some (.ref f3)))
  (l3:K.lookup f3=some ⟨oc3,od3,.func (W.fnOf "gate_of" "gate_of" (qA q1s) (qu q1s) (qe q1s) .none kV3 dc3 pm3 an3 cd3 ct3),sl3⟩)
  (c3:W.codeIn K cd3 "gate_of"=true)
  (k3:W.keepIn K (.ref f3)=true)
  (a4:W.nsIn K mainGlobals "is_gate"=some (some (.ref f4)))
  (l4:K.lookup f4=some ⟨oc4,od4,.func (W.fnOf "is_gate" "is_gate" (qA q19) (qu q19) (qe q19) .none kV4 dc4 pm4 an4 cd4 ct4),sl4⟩)
  (c4:W.codeIn K cd4 "is_gate"=true)
  (k4:W.keepIn K (.ref f4)=true)
  (a5:W.nsIn K mainGlobals "tops_of"=some (some (.ref f5)))
  (l5:K.lookup f5=some ⟨oc5,od5,.func (W.fnOf "tops_of" "tops_of" (qA q1o) (qu q1o) (qe q1o) .none kV5 dc5 pm5 an5 cd5 ct5),sl5⟩)
  (c5:W.codeIn K cd5 "tops_of"=true)
  (k5:W.keepIn K (.ref f5)=true)
  (a6:W.nsIn K mainGlobals "cellar"=some (some (.ref f6)))
  (l6:K.lookup f6=some ⟨oc6,od6,.func (W.fnOf "cellar" "cellar" (qA q17) (qu q17) (qe q17) (.ref T_cellar) kV6 dc6 pm6 an6 cd6 ct6),sl6⟩)
  (d6_:K.lookup T_cellar=some ⟨oT_cellar,odT_cellar,.seq (List.toArray [.none,.none,.none,.int 0 d1,.int 0 d2]) nT_cellar,slT_cellar⟩)
  (c6:W.codeIn K cd6 "cellar"=true)
  (k6:W.keepIn K (.ref f6)=true)
  (a7:W.nsIn K mainGlobals "made_of"=some (some (.ref f7)))
  (l7:K.lookup f7=some ⟨oc7,od7,.func (W.fnOf "made_of" "made_of" (qA q1r) (qu q1r) (qe q1r) .none kV7 dc7 pm7 an7 cd7 ct7),sl7⟩)
  (c7:W.codeIn K cd7 "made_of"=true)
  (k7:W.keepIn K (.ref f7)=true)
  (a8:W.nsIn K mainGlobals "check_number"=some (some (.ref f8)))
  (l8:K.lookup f8=some ⟨oc8,od8,.func (W.fnOf "check_number" "check_number" (qA q0g) (qu q0g) (qe q0g) .none kV8 dc8 pm8 an8 cd8 ct8),sl8⟩)
  (c8:W.codeIn K cd8 "check_number"=true)
  (k8:W.keepIn K (.ref f8)=true)
  (a9:W.nsIn K mainGlobals "made_ways"=some (some (.ref f9)))
  (l9:K.lookup f9=some ⟨oc9,od9,.func (W.fnOf "made_ways" "made_ways" (qA q0I) (qu q0I) (qe q0I) .none kV9 dc9 pm9 an9 cd9 ct9),sl9⟩)
  (c9:W.codeIn K cd9 "made_ways"=true)
  (k9:W.keepIn K (.ref f9)=true)
  (a10:W.nsIn K mainGlobals "made_pairs"=some (some (.ref f10)))
  (l10:K.lookup f10=some ⟨oc10,od10,.func (W.fnOf "made_pairs" "made_pairs" (qA q0y) (qu q0y) (qe q0y) .none kV10 dc10 pm10 an10 cd10 ct10),sl10⟩)
  (c10:W.codeIn K cd10 "made_pairs"=true)
  (k10:W.keepIn K (.ref f10)=true)
  (a11:W.nsIn K mainGlobals "made_rows"=some (some (.ref f11)))
  (l11:K.lookup f11=some ⟨oc11,od11,.func (W.fnOf "made_rows" "made_rows" (qA q0x) (qu q0x) (qe q0x) .none kV11 dc11 pm11 an11 cd11 ct11),sl11⟩)
  (c11:W.codeIn K cd11 "made_rows"=true)
  (k11:W.keepIn K (.ref f11)=true)
  (a12:W.nsIn K mainGlobals "shown"=some (some (.ref f12)))
  (l12:K.lookup f12=some ⟨oc12,od12,.func (W.fnOf "shown" "shown" (qA q1p) (qu q1p) (qe q1p) .none kV12 dc12 pm12 an12 cd12 ct12),sl12⟩)
  (c12:W.codeIn K cd12 "shown"=true)
  (k12:W.keepIn K (.ref f12)=true)
  (a13:W.nsIn K mainGlobals "read"=some (some (.ref f13)))
  (l13:K.lookup f13=some ⟨oc13,od13,.func (W.fnOf "read" "read" (qA q3w) (qu q3w) (qe q3w) .none kV13 dc13 pm13 an13 cd13 ct13),sl13⟩)
  (c13:W.codeIn K cd13 "read"=true)
  (k13:W.keepIn K (.ref f13)=true)
  (a14:W.nsIn K mainGlobals "numbers_line"=some (some (.ref f14)))
  (l14:K.lookup f14=some ⟨oc14,od14,.func (W.fnOf "numbers_line" "numbers_line" (qA q06) (qu q06) (qe q06) .none kV14 dc14 pm14 an14 cd14 ct14),sl14⟩)
  (c14:W.codeIn K cd14 "numbers_line"=true)
  (k14:W.keepIn K (.ref f14)=true)
  (a15:W.nsIn K mainGlobals "way_line"=some (some (.ref f15)))
  (l15:K.lookup f15=some ⟨oc15,od15,.func (W.fnOf "way_line" "way_line" (qA q16) (qu q16) (qe q16) .none kV15 dc15 pm15 an15 cd15 ct15),sl15⟩)
  (c15:W.codeIn K cd15 "way_line"=true)
  (k15:W.keepIn K (.ref f15)=true)
  (a16:W.nsIn K mainGlobals "with_line"=some (some (.ref f16)))
  (l16:K.lookup f16=some ⟨oc16,od16,.func (W.fnOf "with_line" "with_line" (qA q0H) (qu q0H) (qe q0H) .none kV16 dc16 pm16 an16 cd16 ct16),sl16⟩)
  (c16:W.codeIn K cd16 "with_line"=true)
  (k16:W.keepIn K (.ref f16)=true)
  (a17:W.nsIn K mainGlobals "with_row"=some (some (.ref f17)))
  (l17:K.lookup f17=some ⟨oc17,od17,.func (W.fnOf "with_row" "with_row" (qA q0Q) (qu q0Q) (qe q0Q) .none kV17 dc17 pm17 an17 cd17 ct17),sl17⟩)
  (c17:W.codeIn K cd17 "with_row"=true)
  (k17:W.keepIn K (.ref f17)=true)
  (a18:W.nsIn K mainGlobals "part_of"=some (some (.ref f18)))
  (l18:K.lookup f18=some ⟨oc18,od18,.func (W.fnOf "part_of" "part_of" (qA q1q) (qu q1q) (qe q1q) .none kV18 dc18 pm18 an18 cd18 ct18),sl18⟩)
  (c18:W.codeIn K cd18 "part_of"=true)
  (k18:W.keepIn K (.ref f18)=true)
  (a19:W.nsIn K mainGlobals "way_of"=some (some (.ref f19)))
  (l19:K.lookup f19=some ⟨oc19,od19,.func (W.fnOf "way_of" "way_of" (qA q21) (qu q21) (qe q21) .none kV19 dc19 pm19 an19 cd19 ct19),sl19⟩)
  (c19:W.codeIn K cd19 "way_of"=true)
  (k19:W.keepIn K (.ref f19)=true)
  (a20:W.nsIn K mainGlobals "numbers_behind"=some (some (.ref f20)))
  (l20:K.lookup f20=some ⟨oc20,od20,.func (W.fnOf "numbers_behind" "numbers_behind" (qA qZ) (qu qZ) (qe qZ) .none kV20 dc20 pm20 an20 cd20 ct20),sl20⟩)
  (c20:W.codeIn K cd20 "numbers_behind"=true)
  (k20:W.keepIn K (.ref f20)=true)
  (a21:W.nsIn K mainGlobals "numbers_of"=some (some (.ref f21)))
  (l21:K.lookup f21=some ⟨oc21,od21,.func (W.fnOf "numbers_of" "numbers_of" (qA q0o) (qu q0o) (qe q0o) .none kV21 dc21 pm21 an21 cd21 ct21),sl21⟩)
  (c21:W.codeIn K cd21 "numbers_of"=true)
  (k21:W.keepIn K (.ref f21)=true)
  (a22:W.nsIn K mainGlobals "is_number"=some (some (.ref f22)))
  (l22:K.lookup f22=some ⟨oc22,od22,.func (W.fnOf "is_number" "is_number" (qA q0z) (qu q0z) (qe q0z) .none kV22 dc22 pm22 an22 cd22 ct22),sl22⟩)
  (c22:W.codeIn K cd22 "is_number"=true)
  (k22:W.keepIn K (.ref f22)=true)
  (a23:W.nsIn K mainGlobals "_law_cell"=some (some (.ref f23)))
  (l23:K.lookup f23=some ⟨oc23,od23,.func (W.fnOf "_law_cell" "_law_cell" (qA q0L) (qu q0L) (qe q0L) .none kV23 dc23 pm23 an23 cd23 ct23),sl23⟩)
  (c23:W.codeIn K cd23 "_law_cell"=true)
  (k23:W.keepIn K (.ref f23)=true)
  (a24:W.nsIn K mainGlobals "_law_gate"=some (some (.ref f24)))
  (l24:K.lookup f24=some ⟨oc24,od24,.func (W.fnOf "_law_gate" "_law_gate" (qA q0K) (qu q0K) (qe q0K) .none kV24 dc24 pm24 an24 cd24 ct24),sl24⟩)
  (c24:W.codeIn K cd24 "_law_gate"=true)
  (k24:W.keepIn K (.ref f24)=true)
  (a25:W.nsIn K mainGlobals "_law_cellar"=some (some (.ref f25)))
  (l25:K.lookup f25=some ⟨oc25,od25,.func (W.fnOf "_law_cellar" "_law_cellar" (qA q0e) (qu q0e) (qe q0e) .none kV25 dc25 pm25 an25 cd25 ct25),sl25⟩)
  (c25:W.codeIn K cd25 "_law_cellar"=true)
  (k25:W.keepIn K (.ref f25)=true)
  (a26:W.nsIn K mainGlobals "_law_lines"=some (some (.ref f26)))
  (l26:K.lookup f26=some ⟨oc26,od26,.func (W.fnOf "_law_lines" "_law_lines" (qA q0p) (qu q0p) (qe q0p) .none kV26 dc26 pm26 an26 cd26 ct26),sl26⟩)
  (c26:W.codeIn K cd26 "_law_lines"=true)
  (k26:W.keepIn K (.ref f26)=true)
  (a27:W.nsIn K mainGlobals "_law_number"=some (some (.ref f27)))
  (l27:K.lookup f27=some ⟨oc27,od27,.func (W.fnOf "_law_number" "_law_number" (qA q0d) (qu q0d) (qe q0d) .none kV27 dc27 pm27 an27 cd27 ct27),sl27⟩)
  (c27:W.codeIn K cd27 "_law_number"=true)
  (k27:W.keepIn K (.ref f27)=true)
  (a28:W.nsIn K mainGlobals "_law_numbers"=some (some (.ref f28)))
  (l28:K.lookup f28=some ⟨oc28,od28,.func (W.fnOf "_law_numbers" "_law_numbers" (qA q0h) (qu q0h) (qe q0h) .none kV28 dc28 pm28 an28 cd28 ct28),sl28⟩)
  (c28:W.codeIn K cd28 "_law_numbers"=true)
  (k28:W.keepIn K (.ref f28)=true)
  (a29:W.nsIn K mainGlobals "_law_gate_good"=some (some (.ref f29)))
  (l29:K.lookup f29=some ⟨oc29,od29,.func (W.fnOf "_law_gate_good" "_law_gate_good" (qA q02) (qu q02) (qe q02) .none kV29 dc29 pm29 an29 cd29 ct29),sl29⟩)
  (c29:W.codeIn K cd29 "_law_gate_good"=true)
  (k29:W.keepIn K (.ref f29)=true)
  (a30:W.nsIn K mainGlobals "_law_head_good"=some (some (.ref f30)))
  (l30:K.lookup f30=some ⟨oc30,od30,.func (W.fnOf "_law_head_good" "_law_head_good" (qA q01) (qu q01) (qe q01) .none kV30 dc30 pm30 an30 cd30 ct30),sl30⟩)
  (c30:W.codeIn K cd30 "_law_head_good"=true)
  (k30:W.keepIn K (.ref f30)=true)
  (a31:W.nsIn K mainGlobals "_law_line_good"=some (some (.ref f31)))
  (l31:K.lookup f31=some ⟨oc31,od31,.func (W.fnOf "_law_line_good" "_law_line_good" (qA q00) (qu q00) (qe q00) .none kV31 dc31 pm31 an31 cd31 ct31),sl31⟩)
  (c31:W.codeIn K cd31 "_law_line_good"=true)
  (k31:W.keepIn K (.ref f31)=true)
  (a32:W.nsIn K mainGlobals "_law_first_bad"=some (some (.ref f32)))
  (l32:K.lookup f32=some ⟨oc32,od32,.func (W.fnOf "_law_first_bad" "_law_first_bad" (qA q03) (qu q03) (qe q03) .none kV32 dc32 pm32 an32 cd32 ct32),sl32⟩)
  (c32:W.codeIn K cd32 "_law_first_bad"=true)
  (k32:W.keepIn K (.ref f32)=true)
  (a33:W.nsIn K mainGlobals "_law_bent"=some (some (.ref f33)))
  (l33:K.lookup f33=some ⟨oc33,od33,.func (W.fnOf "_law_bent" "_law_bent" (qA q0M) (qu q0M) (qe q0M) .none kV33 dc33 pm33 an33 cd33 ct33),sl33⟩)
  (c33:W.codeIn K cd33 "_law_bent"=true)
  (k33:W.keepIn K (.ref f33)=true)
  (a34:W.nsIn K mainGlobals "_law_spoiled"=some (some (.ref f34)))
  (l34:K.lookup f34=some ⟨oc34,od34,.func (W.fnOf "_law_spoiled" "_law_spoiled" (qA q07) (qu q07) (qe q07) .none kV34 dc34 pm34 an34 cd34 ct34),sl34⟩)
  (c34:W.codeIn K cd34 "_law_spoiled"=true)
  (k34:W.keepIn K (.ref f34)=true)
  (a35:W.nsIn K mainGlobals "_law_said"=some (some (.ref f35)))
  (l35:K.lookup f35=some ⟨oc35,od35,.func (W.fnOf "_law_said" "_law_said" (qA q0J) (qu q0J) (qe q0J) .none kV35 dc35 pm35 an35 cd35 ct35),sl35⟩)
  (c35:W.codeIn K cd35 "_law_said"=true)
  (k35:W.keepIn K (.ref f35)=true)
  (a36:W.nsIn K mainGlobals "law"=some (some (.ref f36)))
  (l36:K.lookup f36=some ⟨oc36,od36,.func (W.fnOf "law" "law" (qA q5d) (qu q5d) (qe q5d) .none kV36 dc36 pm36 an36 cd36 ct36),sl36⟩)
  (c36:W.codeIn K cd36 "law"=true)
  (k36:W.keepIn K (.ref f36)=true)
  (a37:W.findIn K (.ref wc) "__init__"=some (some (.ref f37)))
  (i37:W.isFn K (.ref f37)=true)
  (l37:K.lookup f37=some ⟨oc37,od37,.func (W.fnOf "__init__" "NoText.__init__" (qA q05) (qu q05) (qe q05) .none kV37 dc37 pm37 an37 cd37 ct37),sl37⟩)
  (c37:W.codeIn K cd37 "NoText.__init__"=true)
  (k37:W.keepIn K (.ref f37)=true)
  (a38:W.findIn K (.ref vd) "__init__"=some (some (.ref f38)))
  (i38:W.isFn K (.ref f38)=true)
  (l38:K.lookup f38=some ⟨oc38,od38,.func (W.fnOf "__init__" "Gate.__init__" (qA q0C) (qu q0C) (qe q0C) .none kV38 dc38 pm38 an38 cd38 ct38),sl38⟩)
  (c38:W.codeIn K cd38 "Gate.__init__"=true)
  (k38:W.keepIn K (.ref f38)=true)
  (a39:W.findIn K (.ref vd) "told"=some (some (.ref f39)))
  (i39:W.isFn K (.ref f39)=true)
  (l39:K.lookup f39=some ⟨oc39,od39,.func (W.fnOf "told" "Gate.told" (qA qN) (qu qN) (qe qN) .none kV39 dc39 pm39 an39 cd39 ct39),sl39⟩)
  (c39:W.codeIn K cd39 "Gate.told"=true)
  (k39:W.keepIn K (.ref f39)=true)
  (a40:W.findIn K (.ref vd) "text"=some (some (.ref f40)))
  (i40:W.isFn K (.ref f40)=true)
  (l40:K.lookup f40=some ⟨oc40,od40,.func (W.fnOf "text" "Gate.text" (qA qL) (qu qL) (qe qL) .none kV40 dc40 pm40 an40 cd40 ct40),sl40⟩)
  (c40:W.codeIn K cd40 "Gate.text"=true)
  (k40:W.keepIn K (.ref f40)=true)
  (a41:W.findIn K (.ref wA) "__init__"=some (some (.ref f41)))
  (i41:W.isFn K (.ref f41)=true)
  (l41:K.lookup f41=some ⟨oc41,od41,.func (W.fnOf "__init__" "Plain.__init__" (qA q0q) (qu q0q) (qe q0q) .none kV41 dc41 pm41 an41 cd41 ct41),sl41⟩)
  (c41:W.codeIn K cd41 "Plain.__init__"=true)
  (k41:W.keepIn K (.ref f41)=true)
  (a42:W.findIn K (.ref wF) "__init__"=some (some (.ref f42)))
  (i42:W.isFn K (.ref f42)=true)
  (l42:K.lookup f42=some ⟨oc42,od42,.func (W.fnOf "__init__" "Door.__init__" (qA q0D) (qu q0D) (qe q0D) .none kV42 dc42 pm42 an42 cd42 ct42),sl42⟩)
  (c42:W.codeIn K cd42 "Door.__init__"=true)
  (k42:W.keepIn K (.ref f42)=true)
  (a43:W.findIn K (.ref wD) "__init__"=some (some (.ref f43)))
  (i43:W.isFn K (.ref f43)=true)
  (l43:K.lookup f43=some ⟨oc43,od43,.func (W.fnOf "__init__" "Need.__init__" (qA q0B) (qu q0B) (qe q0B) .none kV43 dc43 pm43 an43 cd43 ct43),sl43⟩)
  (c43:W.codeIn K cd43 "Need.__init__"=true)
  (k43:W.keepIn K (.ref f43)=true)
  (a44:W.findIn K (.ref wJ) "__init__"=some (some (.ref f44)))
  (i44:W.isFn K (.ref f44)=true)
  (l44:K.lookup f44=some ⟨oc44,od44,.func (W.fnOf "__init__" "Bar.__init__" (qA q0R) (qu q0R) (qe q0R) .none kV44 dc44 pm44 an44 cd44 ct44),sl44⟩)
  (c44:W.codeIn K cd44 "Bar.__init__"=true)
  (k44:W.keepIn K (.ref f44)=true)
  (a45:W.findIn K (.ref wC) "__init__"=some (some (.ref f45)))
  (i45:W.isFn K (.ref f45)=true)
  (l45:K.lookup f45=some ⟨oc45,od45,.func (W.fnOf "__init__" "Wade.__init__" (qA q0A) (qu q0A) (qe q0A) .none kV45 dc45 pm45 an45 cd45 ct45),sl45⟩)
  (c45:W.codeIn K cd45 "Wade.__init__"=true)
  (k45:W.keepIn K (.ref f45)=true)
  (a46:W.findIn K (.ref ww) "__init__"=some (some (.ref f46)))
  (i46:W.isFn K (.ref f46)=true)
  (l46:K.lookup f46=some ⟨oc46,od46,.func (W.fnOf "__init__" "Float.__init__" (qA q0r) (qu q0r) (qe q0r) .none kV46 dc46 pm46 an46 cd46 ct46),sl46⟩)
  (c46:W.codeIn K cd46 "Float.__init__"=true)
  (k46:W.keepIn K (.ref f46)=true)
  (zh:W.plainGet K wA Str.empty=true)
  (zi:W.hasDictIn K wA=true)
  (zj:W.plainOver K wA=true)
  (zk:W.findIn K (.ref wA) "__setattr__"=some (some (.builtin "object.__setattr__")))
  (zl:W.makesIn K wA=true)
  (zm:W.keepIn K (.ref wA)=true)
  (zn:W.findIn K (.ref wA) "numbers"=some none)
  (zo:W.findIn K (.ref wA) "word"=some none)
  (zp:W.findIn K (.ref wA) "text"=some (some (.ref f40)))
  (zq:W.findIn K (.ref wA) "told"=some (some (.ref f39)))
  (zr:W.plainGet K wF Str.empty=true)
  (zs:W.hasDictIn K wF=true)
  (zt:W.plainOver K wF=true)
  (zu:W.findIn K (.ref wF) "__setattr__"=some (some (.builtin "object.__setattr__")))
  (zv:W.makesIn K wF=true)
  (zw:W.keepIn K (.ref wF)=true)
  (zx:W.findIn K (.ref wF) "numbers"=some none)
  (zy:W.findIn K (.ref wF) "word"=some none)
  (zz:W.findIn K (.ref wF) "text"=some (some (.ref f40)))
  (z10:W.findIn K (.ref wF) "told"=some (some (.ref f39)))
  (z11:W.plainGet K wD Str.empty=true)
  (z12:W.hasDictIn K wD=true)
  (z13:W.plainOver K wD=true)
  (z14:W.findIn K (.ref wD) "__setattr__"=some (some (.builtin "object.__setattr__")))
  (z15:W.makesIn K wD=true)
  (z16:W.keepIn K (.ref wD)=true)
  (z17:W.findIn K (.ref wD) "kind"=some none)
  (z18:W.findIn K (.ref wD) "numbers"=some none)
  (z19:W.findIn K (.ref wD) "word"=some none)
  (z1a:W.findIn K (.ref wD) "text"=some (some (.ref f40)))
  (z1b:W.findIn K (.ref wD) "told"=some (some (.ref f39)))
  (z1c:W.plainGet K wJ Str.empty=true)
  (z1d:W.hasDictIn K wJ=true)
  (z1e:W.plainOver K wJ=true)
  (z1f:W.findIn K (.ref wJ) "__setattr__"=some (some (.builtin "object.__setattr__")))
  (z1g:W.makesIn K wJ=true)
  (z1h:W.keepIn K (.ref wJ)=true)
  (z1i:W.findIn K (.ref wJ) "bar"=some none)
  (z1j:W.findIn K (.ref wJ) "numbers"=some none)
  (z1k:W.findIn K (.ref wJ) "word"=some none)
  (z1l:W.findIn K (.ref wJ) "text"=some (some (.ref f40)))
  (z1m:W.findIn K (.ref wJ) "told"=some (some (.ref f39)))
  (z1n:W.plainGet K wC Str.empty=true)
  (z1o:W.hasDictIn K wC=true)
  (z1p:W.plainOver K wC=true)
  (z1q:W.findIn K (.ref wC) "__setattr__"=some (some (.builtin "object.__setattr__")))
  (z1r:W.makesIn K wC=true)
  (z1s:W.keepIn K (.ref wC)=true)
  (z1t:W.findIn K (.ref wC) "height"=some none)
  (z1u:W.findIn K (.ref wC) "kind"=some none)
  (z1v:W.findIn K (.ref wC) "numbers"=some none)
  (z1w:W.findIn K (.ref wC) "word"=some none)
  (z1x:W.findIn K (.ref wC) "text"=some (some (.ref f40)))
  (z1y:W.findIn K (.ref wC) "told"=some (some (.ref f39)))
  (z1z:W.plainGet K ww Str.empty=true)
  (z20:W.hasDictIn K ww=true)
  (z21:W.plainOver K ww=true)
  (z22:W.findIn K (.ref ww) "__setattr__"=some (some (.builtin "object.__setattr__")))
  (z23:W.makesIn K ww=true)
  (z24:W.keepIn K (.ref ww)=true)
  (z25:W.findIn K (.ref ww) "height"=some none)
  (z26:W.findIn K (.ref ww) "numbers"=some none)
  (z27:W.findIn K (.ref ww) "word"=some none)
  (z28:W.findIn K (.ref ww) "text"=some (some (.ref f40)))
  (z29:W.findIn K (.ref ww) "told"=some (some (.ref f39)))
  (z2a:W.readsIn K vd (.type "type")=true)
  (z2b:W.findCls K (.ref vd) (.type "type") "__init__"=some (.val (.ref f38)))
  (z2c:W.specialIn K (.ref vd) "__getattribute__"=some (some (.builtin "type.__getattribute__")))
  (z2d:W.excIn K we [.type "ValueError",.type "Exception",.type "BaseException",.type "object"] "ValueError.__new__"=true)
  (z2e:W.exmOne K (.ref we) (.ref wo)=some true)
  (z2f:W.exmOne K (.ref we) (.ref we)=some true)
  (z2g:W.kitOne K (.ref we) (.ref we)=some true)
  (z2h:W.kitOne K (.ref we) (.ref waC)=some false)
  (z2i:W.kitOne K (.ref we) (.ref waz)=some false)
  (z2j:W.kitOne K (.ref we) (.ref war)=some false)
  (z2k:W.kitOne K (.ref we) (.ref waS)=some false)
  (z2l:W.kitOne K (.ref we) (.ref wc)=some false)
  (z2m:W.kitOne K (.ref we) (.ref wa6)=some false)
  (z2n:W.kitOne K (.ref we) (.ref vX)=some false)
  (z2o:W.kitOne K (.ref we) (.type "ValueError")=some true)
  (z2p:W.kitOne K (.ref we) (.ref wa8)=some false)
  (z2q:W.exmOne K (.ref wc) (.ref wo)=some true)
  (z2r:W.exmOne K (.ref wc) (.ref we)=some false)
  (z2s:W.kitOne K (.ref wc) (.ref we)=some false)
  (z2t:W.kitOne K (.ref wc) (.ref waC)=some false)
  (z2u:W.kitOne K (.ref wc) (.ref waz)=some false)
  (z2v:W.kitOne K (.ref wc) (.ref war)=some false)
  (z2w:W.kitOne K (.ref wc) (.ref waS)=some false)
  (z2x:W.kitOne K (.ref wc) (.ref wc)=some true)
  (z2y:W.kitOne K (.ref wc) (.ref wa6)=some false)
  (z2z:W.kitOne K (.ref wc) (.ref vX)=some false)
  (z30:W.kitOne K (.ref wc) (.type "ValueError")=some true)
  (z31:W.kitOne K (.ref wc) (.ref wa8)=some false)
  (z32:K.lookup wc=some ⟨.type "type",wbV,.cls ⟨wb7,wbR,[.ref wc,.ref wo,.type "ValueError",.type "Exception",.type "BaseException",.type "object"],wb5,wbZ,true,wbM,wbW,wbN,wbI,false⟩,#[wbO,wbP,wbY,wb2,some (.builtin "ValueError.__new__"),wb0]⟩)
  (z33:W.keepIn K (.ref wc)=true)
  (z34:W.findIn K (.ref wc) "__setattr__"=some (some (.builtin "object.__setattr__")))
  (z35:W.findIn K (.ref wc) "line"=some none)
  (z36:K.lookup wo=some ⟨.type "type",wbw,.cls ⟨wbs,wbt,[.ref wo,.type "ValueError",.type "Exception",.type "BaseException",.type "object"],wbr,wbo,wbx,wbv,wbq,wbu,wbe,wbl⟩,wbp⟩)
  (z37:W.excIn K wo [.type "ValueError",.type "Exception",.type "BaseException",.type "object"] "ValueError.__new__"=true)
  (z38:W.readsIn K wo (.type "type")=true)
  (z39:W.findCls K (.ref wo) (.type "type") "__init__"=some (.val (.builtin "ValueError.__init__")))
  (z3a:W.specialIn K (.ref wo) "__getattribute__"=some (some (.builtin "type.__getattribute__")))
  (z3b:W.findIn K (.ref we) "__getattribute__"=some (some (.builtin "BaseException.__getattribute__")))
  (z3c:W.findIn K (.ref we) "__getattr__"=some none)
  (z3d:W.findIn K (.ref we) "__class__"=some (some (.builtin "object.__class__")))
  (z3e:W.mroIn K we (.type "object")=some true)
  (z3f:W.mroIn K we (.type "BaseException")=some true)
  (z3g:W.findIn K (.ref wc) "__getattribute__"=some (some (.builtin "BaseException.__getattribute__")))
  (z3h:W.findIn K (.ref wc) "__getattr__"=some none)
  (z3i:W.findIn K (.ref wc) "__class__"=some (some (.builtin "object.__class__")))
  (z3j:W.mroIn K wc (.type "object")=some true)
  (z3k:W.mroIn K wc (.type "BaseException")=some true)
  (z3l:W.nsIn K mainGlobals "ValueError"=some none)
  (z3m:W.nsIn K mainGlobals "all"=some none)
  (z3n:W.nsIn K mainGlobals "any"=some none)
  (z3o:W.nsIn K mainGlobals "bool"=some none)
  (z3p:W.nsIn K mainGlobals "enumerate"=some none)
  (z3q:W.nsIn K mainGlobals "int"=some none)
  (z3r:W.nsIn K mainGlobals "isinstance"=some none)
  (z3s:W.nsIn K mainGlobals "len"=some none)
  (z3t:W.nsIn K mainGlobals "list"=some none)
  (z3u:W.nsIn K mainGlobals "min"=some none)
  (z3v:W.nsIn K mainGlobals "range"=some none)
  (z3w:W.nsIn K mainGlobals "str"=some none)
  (z3x:W.nsIn K mainGlobals "sum"=some none)
  (z3y:W.nsIn K mainGlobals "tuple"=some none)
  (z3z:W.nsIn K mainGlobals "zip"=some none)
  (z40:W.nsIn K mainGlobals "NOTHING_MORE"=some (some (.ref U_NOTHING_MORE)))
  (z41:K.lookup U_NOTHING_MORE=some ⟨.type "tuple",none,.seq (List.toArray [.ref E0_NOTHING_MORE,.ref E1_NOTHING_MORE,.ref E2_NOTHING_MORE,.ref E3_NOTHING_MORE,.int 0 u4_NOTHING_MORE,.int 0 u5_NOTHING_MORE]) nU_NOTHING_MORE,sU_NOTHING_MORE⟩)
  (z42:K.lookup E0_NOTHING_MORE=some ⟨.type "tuple",none,.seq (List.toArray []) nE0_NOTHING_MORE,sE0_NOTHING_MORE⟩)
  (z43:K.lookup E1_NOTHING_MORE=some ⟨.type "tuple",none,.seq (List.toArray []) nE1_NOTHING_MORE,sE1_NOTHING_MORE⟩)
  (z44:K.lookup E2_NOTHING_MORE=some ⟨.type "tuple",none,.seq (List.toArray []) nE2_NOTHING_MORE,sE2_NOTHING_MORE⟩)
  (z45:K.lookup E3_NOTHING_MORE=some ⟨.type "tuple",none,.seq (List.toArray []) nE3_NOTHING_MORE,sE3_NOTHING_MORE⟩)
  (z46:W.nsIn K mainGlobals "ALL_BARS"=some (some (.int 255 t_ALL_BARS)))
  (z47:W.nsIn K mainGlobals "FIGURES"=some (some (.str "0123456789" t_FIGURES)))
  (z48:W.nsIn K mainGlobals "FIRST"=some (some (.int 1 t_FIRST)))
  (z49:W.nsIn K mainGlobals "FIRST_BARS"=some (some (.int 7 t_FIRST_BARS)))
  (z4a:W.nsIn K mainGlobals "FIRST_LINES"=some (some (.int 3 t_FIRST_LINES)))
  (z4b:W.nsIn K mainGlobals "FIRST_WATER"=some (some (.int 8 t_FIRST_WATER)))
  (z4c:W.nsIn K mainGlobals "LAST"=some (some (.int 2 t_LAST)))
  (z4d:W.nsIn K mainGlobals "LAST_BAR"=some (some (.int 7 t_LAST_BAR)))
  (z4e:W.nsIn K mainGlobals "LAST_KIND"=some (some (.int 11 t_LAST_KIND)))
  (z4f:W.nsIn K mainGlobals "LEVERS"=some (some (.int 5 t_LEVERS)))
  (z4g:W.nsIn K mainGlobals "MOST_LEVERS"=some (some (.int 4 t_MOST_LEVERS)))
  (z4h:W.nsIn K mainGlobals "MOST_ROOMS"=some (some (.int 14 t_MOST_ROOMS)))
  (z4i:W.nsIn K mainGlobals "MOST_THINGS"=some (some (.int 8 t_MOST_THINGS)))
  (z4j:W.nsIn K mainGlobals "MOST_WAYS"=some (some (.int 20 t_MOST_WAYS)))
  (z4k:W.nsIn K mainGlobals "MOST_WHEELS"=some (some (.int 4 t_MOST_WHEELS)))
  (z4l:W.nsIn K mainGlobals "ROOMS"=some (some (.int 0 t_ROOMS)))
  (z4m:W.nsIn K mainGlobals "THINGS"=some (some (.int 4 t_THINGS)))
  (z4n:W.nsIn K mainGlobals "TOP_HEIGHT"=some (some (.int 9 t_TOP_HEIGHT)))
  (z4o:W.nsIn K mainGlobals "WAYS"=some (some (.int 3 t_WAYS)))
  (z4p:W.nsIn K mainGlobals "WAY_A"=some (some (.int 0 t_WAY_A)))
  (z4q:W.nsIn K mainGlobals "WAY_B"=some (some (.int 1 t_WAY_B)))
  (z4r:W.nsIn K mainGlobals "WAY_BACK"=some (some (.int 3 t_WAY_BACK)))
  (z4s:W.nsIn K mainGlobals "WAY_GATE"=some (some (.int 2 t_WAY_GATE)))
  (z4t:W.nsIn K mainGlobals "WHEELS"=some (some (.int 6 t_WHEELS))):
  ∃fd:FuncData,(∀(s:Shared) (v:Value),BindsTo s fd ⟨[v],[]⟩ [("_law_script",v)])/\∀base:Heap,K.In base->base.Ns mainGlobals mg->FnOk l.prog w K mg base CX0 10 fa fd ["_law_script"] (q9a K):=by
 have e:=hfa.symm.trans (zX X G a36)
 cases e
 let cs:Cs:=⟨vd,wA,wF,wD,wJ,wC,ww⟩
 have T:Txt mg cs:=⟨zax X G z3l,zax X G z3m,zax X G z3n,zax X G z3o,zax X G z3p,zax X G z3q,zax X G z3r,zax X G z3s,zax X G z3t,zax X G z3u,zax X G z3v,zax X G z3w,zax X G z3x,zax X G z3y,zax X G z3z,⟨_,zX X G z46⟩,⟨_,zX X G z47⟩,⟨_,zX X G z48⟩,⟨_,zX X G z49⟩,⟨_,zX X G z4a⟩,⟨_,zX X G z4b⟩,⟨_,zX X G z4c⟩,⟨_,zX X G z4d⟩,⟨_,zX X G z4e⟩,⟨_,zX X G z4f⟩,⟨_,zX X G z4g⟩,⟨_,zX X G z4h⟩,⟨_,zX X G z4i⟩,⟨_,zX X G z4j⟩,⟨_,zX X G z4k⟩,⟨_,zX X G z4l⟩,⟨_,zX X G z4m⟩,⟨_,zX X G z4n⟩,⟨_,zX X G z4o⟩,⟨_,zX X G z4p⟩,⟨_,zX X G z4q⟩,⟨_,zX X G z4r⟩,⟨_,zX X G z4s⟩,⟨_,zX X G z4t⟩,zX X G za,zX X G zb,zX X G zc,zX X G zd,zX X G ze,zX X G zf,zX X G zg⟩
 have TK:Tk K mg:=⟨⟨U_NOTHING_MORE,E0_NOTHING_MORE,E1_NOTHING_MORE,E2_NOTHING_MORE,E3_NOTHING_MORE,zX X G z40,fun _=> .inr ⟨_,_,_,z41,rfl,rfl,(show 6<=sizeLine by decide),.cons rfl (.cons rfl (.cons rfl (.cons rfl (.cons ⟨_,rfl⟩ (.cons ⟨_,rfl⟩ (.nil))))))⟩,fun _=> .inr ⟨_,_,_,z42,rfl,rfl,(show 0<=sizeLine by decide),.nil⟩,fun _=> .inr ⟨_,_,_,z43,rfl,rfl,(show 0<=sizeLine by decide),.nil⟩,fun _=> .inr ⟨_,_,_,z44,rfl,rfl,(show 0<=sizeLine by decide),.nil⟩,fun _=> .inr ⟨_,_,_,z45,rfl,rfl,(show 0<=sizeLine by decide),.nil⟩,_,z41,rfl,rfl⟩⟩
 let xs:Xs:=⟨wo,we,waC,waz,war,waS,wc,wa6,vX,wa8⟩
 have XL_NoText:ExcL K wc wo:=⟨⟨_,_,_,_,_,_,_,_,_,_,_,_,_,_,z32⟩,⟨_,_,_,_,_,_,_,_,_,_,_,_,z36⟩,z37⟩
 have TX:Tx K mg xs:=⟨zX X G z0,zX X G z1,zX X G z2,zX X G z3,zX X G z4,zX X G z5,zX X G z6,zX X G z7,zX X G z8,zX X G z9,⟨_,_,_,zbo,z2d,rfl⟩,z2e,z2f,z2g,z2h,z2i,z2j,z2k,z2l,z2m,z2n,z2o,z2p,z2q,z2r,z2s,z2t,z2u,z2v,z2w,z2x,z2y,z2z,z30,z31,⟨z3b,z3c,z3d,z3e,z3f⟩,⟨z3g,z3h,z3i,z3j,z3k⟩,XL_NoText.f z34,⟨_,XL_NoText⟩,z35,⟨z38,z39,z3a⟩⟩
 have TC:Tcl K cs:=⟨⟨zh,zi,zj,zk⟩,zn,zo,⟨zr,zs,zt,zu⟩,zx,zy,⟨z11,z12,z13,z14⟩,z17,z18,z19,⟨z1c,z1d,z1e,z1f⟩,z1i,z1j,z1k,⟨z1n,z1o,z1p,z1q⟩,z1t,z1u,z1v,z1w,⟨z1z,z20,z21,z22⟩,z25,z26,z27⟩
 have wbG:Laid K mg "_wall" q3x ["k"]:=qP X G a0 l0 c0 k0 fun _ _ _ _ _ _ us hl=>match us,hl with|[_],_=>rfl
 have waX:Laid K mg "within" q20 ["number","least","most"]:=qP X G a1 l1 c1 k1 fun _ _ _ _ _ _ us hl=>match us,hl with|[_,_,_],_=>rfl
 have waK:Laid K mg "changed" q1t ["parts","place","part"]:=qP X G a2 l2 c2 k2 fun _ _ _ _ _ _ us hl=>match us,hl with|[_,_,_],_=>rfl
 have waI:Laid K mg "gate_of" q1s ["gate"]:=qP X G a3 l3 c3 k3 fun _ _ _ _ _ _ us hl=>match us,hl with|[_],_=>rfl
 have waO:Laid K mg "is_gate" q19 ["thing"]:=qP X G a4 l4 c4 k4 fun _ _ _ _ _ _ us hl=>match us,hl with|[_],_=>rfl
 have waN:Laid K mg "tops_of" q1o ["word"]:=qP X G a5 l5 c5 k5 fun _ _ _ _ _ _ us hl=>match us,hl with|[_],_=>rfl
 have vV:∃d1 d2,LaidD K mg "cellar" q17 [.none,.none,.none,.int 0 d1,.int 0 d2]:=⟨_,_,q9E X G a6 l6 c6 k6 d6_ rfl⟩
 have waG:Laid K mg "made_of" q1r ["parts"]:=qP X G a7 l7 c7 k7 fun _ _ _ _ _ _ us hl=>match us,hl with|[_],_=>rfl
 have vf:Laid K mg "check_number" q0g ["name","number","least","most"]:=qP X G a8 l8 c8 k8 fun _ _ _ _ _ _ us hl=>match us,hl with|[_,_,_,_],_=>rfl
 have wak:Laid K mg "made_ways" q0I ["rooms","ways"]:=qP X G a9 l9 c9 k9 fun _ _ _ _ _ _ us hl=>match us,hl with|[_,_],_=>rfl
 have vT:Laid K mg "made_pairs" q0y ["name","rooms","pairs","most_pairs","least","most"]:=qP X G a10 l10 c10 k10 fun _ _ _ _ _ _ us hl=>match us,hl with|[_,_,_,_,_,_],_=>rfl
 have v9:Laid K mg "made_rows" q0x ["name","rows","most"]:=qP X G a11 l11 c11 k11 fun _ _ _ _ _ _ us hl=>match us,hl with|[_,_,_],_=>rfl
 have wbb:Laid K mg "shown" q1p ["cellar"]:=qP X G a12 l12 c12 k12 fun _ _ _ _ _ _ us hl=>match us,hl with|[_],_=>rfl
 have wby:Laid K mg "read" q3w ["text"]:=qP X G a13 l13 c13 k13 fun _ _ _ _ _ _ us hl=>match us,hl with|[_],_=>rfl
 have vi:Laid K mg "numbers_line" q06 ["word","numbers"]:=qP X G a14 l14 c14 k14 fun _ _ _ _ _ _ us hl=>match us,hl with|[_,_],_=>rfl
 have wau:Laid K mg "way_line" q16 ["way"]:=qP X G a15 l15 c15 k15 fun _ _ _ _ _ _ us hl=>match us,hl with|[_],_=>rfl
 have wai:Laid K mg "with_line" q0H ["made","number","words"]:=qP X G a16 l16 c16 k16 fun _ _ _ _ _ _ us hl=>match us,hl with|[_,_,_],_=>rfl
 have wav:Laid K mg "with_row" q0Q ["made","words"]:=qP X G a17 l17 c17 k17 fun _ _ _ _ _ _ us hl=>match us,hl with|[_,_],_=>rfl
 have waM:Laid K mg "part_of" q1q ["word"]:=qP X G a18 l18 c18 k18 fun _ _ _ _ _ _ us hl=>match us,hl with|[_],_=>rfl
 have wa3:Laid K mg "way_of" q21 ["words"]:=qP X G a19 l19 c19 k19 fun _ _ _ _ _ _ us hl=>match us,hl with|[_],_=>rfl
 have wX:Laid K mg "numbers_behind" qZ ["word","words","many"]:=qP X G a20 l20 c20 k20 fun _ _ _ _ _ _ us hl=>match us,hl with|[_,_,_],_=>rfl
 have vQ:Laid K mg "numbers_of" q0o ["words"]:=qP X G a21 l21 c21 k21 fun _ _ _ _ _ _ us hl=>match us,hl with|[_],_=>rfl
 have wac:Laid K mg "is_number" q0z ["word"]:=qP X G a22 l22 c22 k22 fun _ _ _ _ _ _ us hl=>match us,hl with|[_],_=>rfl
 have wab:Laid K mg "_law_cell" q0L ["_law_script","_law_k"]:=qP X G a23 l23 c23 k23 fun _ _ _ _ _ _ us hl=>match us,hl with|[_,_],_=>rfl
 have waj:Laid K mg "_law_gate" q0K ["_law_cell_here"]:=qP X G a24 l24 c24 k24 fun _ _ _ _ _ _ us hl=>match us,hl with|[_],_=>rfl
 have vD:Laid K mg "_law_cellar" q0e ["_law_script"]:=qP X G a25 l25 c25 k25 fun _ _ _ _ _ _ us hl=>match us,hl with|[_],_=>rfl
 have vK:Laid K mg "_law_lines" q0p ["_law_one"]:=qP X G a26 l26 c26 k26 fun _ _ _ _ _ _ us hl=>match us,hl with|[_],_=>rfl
 have vA:Laid K mg "_law_number" q0d ["_law_text","_law_low","_law_beyond"]:=qP X G a27 l27 c27 k27 fun _ _ _ _ _ _ us hl=>match us,hl with|[_,_,_],_=>rfl
 have vh:Laid K mg "_law_numbers" q0h ["_law_parts","_law_bounds"]:=qP X G a28 l28 c28 k28 fun _ _ _ _ _ _ us hl=>match us,hl with|[_,_],_=>rfl
 have wZ:Laid K mg "_law_gate_good" q02 ["_law_parts"]:=qP X G a29 l29 c29 k29 fun _ _ _ _ _ _ us hl=>match us,hl with|[_],_=>rfl
 have wY:Laid K mg "_law_head_good" q01 ["_law_parts","_law_k"]:=qP X G a30 l30 c30 k30 fun _ _ _ _ _ _ us hl=>match us,hl with|[_,_],_=>rfl
 have w9:Laid K mg "_law_line_good" q00 ["_law_parts","_law_rooms"]:=qP X G a31 l31 c31 k31 fun _ _ _ _ _ _ us hl=>match us,hl with|[_,_],_=>rfl
 have w8:Laid K mg "_law_first_bad" q03 ["_law_lines_here"]:=qP X G a32 l32 c32 k32 fun _ _ _ _ _ _ us hl=>match us,hl with|[_],_=>rfl
 have wam:Laid K mg "_law_bent" q0M ["_law_line","_law_cell_here"]:=qP X G a33 l33 c33 k33 fun _ _ _ _ _ _ us hl=>match us,hl with|[_,_],_=>rfl
 have vg:Laid K mg "_law_spoiled" q07 ["_law_lines_here","_law_cell_here"]:=qP X G a34 l34 c34 k34 fun _ _ _ _ _ _ us hl=>match us,hl with|[_,_],_=>rfl
 have waf:Laid K mg "_law_said" q0J ["_law_lines_here"]:=qP X G a35 l35 c35 k35 fun _ _ _ _ _ _ us hl=>match us,hl with|[_],_=>rfl
 have F_NoText_init:Fun K "__init__" "NoText.__init__" q05 f37 _:=q1U l37 c37 k37
 have B_NoText_init:=F_NoText_init.binds (ps:=["self","line"]) fun _ _ _ _ _ _ us hl=>match us,hl with|[_,_],_=>rfl
 have F_Gate_init:Fun K "__init__" "Gate.__init__" q0C f38 _:=q1U l38 c38 k38
 have B_Gate_init:=F_Gate_init.binds (ps:=["self","word","numbers"]) fun _ _ _ _ _ _ us hl=>match us,hl with|[_,_,_],_=>rfl
 have F_Gate_told:Fun K "told" "Gate.told" qN f39 _:=q1U l39 c39 k39
 have B_Gate_told:=F_Gate_told.binds (ps:=["self"]) fun _ _ _ _ _ _ us hl=>match us,hl with|[_],_=>rfl
 have F_Gate_text:Fun K "text" "Gate.text" qL f40 _:=q1U l40 c40 k40
 have B_Gate_text:=F_Gate_text.binds (ps:=["self"]) fun _ _ _ _ _ _ us hl=>match us,hl with|[_],_=>rfl
 have F_Plain_init:Fun K "__init__" "Plain.__init__" q0q f41 _:=q1U l41 c41 k41
 have B_Plain_init:=F_Plain_init.binds (ps:=["self"]) fun _ _ _ _ _ _ us hl=>match us,hl with|[_],_=>rfl
 have F_Door_init:Fun K "__init__" "Door.__init__" q0D f42 _:=q1U l42 c42 k42
 have B_Door_init:=F_Door_init.binds (ps:=["self","kind"]) fun _ _ _ _ _ _ us hl=>match us,hl with|[_,_],_=>rfl
 have F_Need_init:Fun K "__init__" "Need.__init__" q0B f43 _:=q1U l43 c43 k43
 have B_Need_init:=F_Need_init.binds (ps:=["self","kind"]) fun _ _ _ _ _ _ us hl=>match us,hl with|[_,_],_=>rfl
 have F_Bar_init:Fun K "__init__" "Bar.__init__" q0R f44 _:=q1U l44 c44 k44
 have B_Bar_init:=F_Bar_init.binds (ps:=["self","bar"]) fun _ _ _ _ _ _ us hl=>match us,hl with|[_,_],_=>rfl
 have F_Wade_init:Fun K "__init__" "Wade.__init__" q0A f45 _:=q1U l45 c45 k45
 have B_Wade_init:=F_Wade_init.binds (ps:=["self","height","kind"]) fun _ _ _ _ _ _ us hl=>match us,hl with|[_,_,_],_=>rfl
 have F_Float_init:Fun K "__init__" "Float.__init__" q0r f46 _:=q1U l46 c46 k46
 have B_Float_init:=F_Float_init.binds (ps:=["self","height"]) fun _ _ _ _ _ _ us hl=>match us,hl with|[_,_],_=>rfl
 have vp:LaidM K cs.Plain "text" "Gate.text" qL ["self"]:=⟨_,_,F_Gate_text,⟨zp,i40,k40⟩,B_Gate_text⟩
 have vz:LaidM K cs.Plain "told" "Gate.told" qN ["self"]:=⟨_,_,F_Gate_told,⟨zq,i39,k39⟩,B_Gate_told⟩
 have wa1:LaidI K mg "Plain" cs.Plain "Plain.__init__" q0q ["self"]:=⟨⟨_,_,F_Plain_init,⟨zl,a41,i41,zm⟩,B_Plain_init⟩,T.c_Plain⟩
 have vS:LaidM K cs.Door "text" "Gate.text" qL ["self"]:=⟨_,_,F_Gate_text,⟨zz,i40,k40⟩,B_Gate_text⟩
 have vP:LaidM K cs.Door "told" "Gate.told" qN ["self"]:=⟨_,_,F_Gate_told,⟨z10,i39,k39⟩,B_Gate_told⟩
 have wa9:LaidI K mg "Door" cs.Door "Door.__init__" q0D ["self","kind"]:=⟨⟨_,_,F_Door_init,⟨zv,a42,i42,zw⟩,B_Door_init⟩,T.c_Door⟩
 have vU:LaidM K cs.Need "text" "Gate.text" qL ["self"]:=⟨_,_,F_Gate_text,⟨z1a,i40,k40⟩,B_Gate_text⟩
 have vO:LaidM K cs.Need "told" "Gate.told" qN ["self"]:=⟨_,_,F_Gate_told,⟨z1b,i39,k39⟩,B_Gate_told⟩
 have wbi:LaidI K mg "Need" cs.Need "Need.__init__" q0B ["self","kind"]:=⟨⟨_,_,F_Need_init,⟨z15,a43,i43,z16⟩,B_Need_init⟩,T.c_Need⟩
 have wal:LaidM K cs.Bar "text" "Gate.text" qL ["self"]:=⟨_,_,F_Gate_text,⟨z1l,i40,k40⟩,B_Gate_text⟩
 have wae:LaidM K cs.Bar "told" "Gate.told" qN ["self"]:=⟨_,_,F_Gate_told,⟨z1m,i39,k39⟩,B_Gate_told⟩
 have wbz:LaidI K mg "Bar" cs.Bar "Bar.__init__" q0R ["self","bar"]:=⟨⟨_,_,F_Bar_init,⟨z1g,a44,i44,z1h⟩,B_Bar_init⟩,T.c_Bar⟩
 have vJ:LaidM K cs.Wade "text" "Gate.text" qL ["self"]:=⟨_,_,F_Gate_text,⟨z1x,i40,k40⟩,B_Gate_text⟩
 have vR:LaidM K cs.Wade "told" "Gate.told" qN ["self"]:=⟨_,_,F_Gate_told,⟨z1y,i39,k39⟩,B_Gate_told⟩
 have wbc:LaidI K mg "Wade" cs.Wade "Wade.__init__" q0A ["self","height","kind"]:=⟨⟨_,_,F_Wade_init,⟨z1r,a45,i45,z1s⟩,B_Wade_init⟩,T.c_Wade⟩
 have vo:LaidM K cs.Float "text" "Gate.text" qL ["self"]:=⟨_,_,F_Gate_text,⟨z28,i40,k40⟩,B_Gate_text⟩
 have vw:LaidM K cs.Float "told" "Gate.told" qN ["self"]:=⟨_,_,F_Gate_told,⟨z29,i39,k39⟩,B_Gate_told⟩
 have wa2:LaidI K mg "Float" cs.Float "Float.__init__" q0r ["self","height"]:=⟨⟨_,_,F_Float_init,⟨z23,a46,i46,z24⟩,B_Float_init⟩,T.c_Float⟩
 have vY:LaidX K mg "NoText" xs.NoText "NoText.__init__" q05 ["self","line"]:=⟨⟨_,_,F_NoText_init,⟨TX.waP,a37,i37,z33⟩,B_NoText_init⟩,TX.wbm⟩
 have vM:LaidC K mg "Gate" "__init__" "Gate.__init__" q0C ["self","word","numbers"]:=⟨vd,_,_,T.c_Gate,F_Gate_init,⟨z2a,z2b,z2c,k38⟩,B_Gate_init⟩
 exact⟨W.fnOf "law" "law" (qA q5d) (qu q5d) (qe q5d) .none kV36 dc36 pm36 an36 cd36 ct36,fun s v=> .of_eq rfl,fun base _ _=>ok_law (q1U l36 c36 k36) T TK TX TC wbG waX waK waI waO waN vV waG vf wak vT v9 wbb wby vi wau wai wav waM wa3 wX vQ wac wab waj vD vK vA vh wZ wY w9 w8 wam vg waf vp vz wa1 vS vP wa9 vU vO wbi wal wae wbz vJ vR wbc vo vw wa2 vY vM⟩
theorem walk {l:W.OpenLaw}{q:Program}{loose:List Str}{XP:(Str->Option Value)->Heap->Prop}{YP:World->Heap->Prop}{d:DefRec}{K:Params->W.Frag}(hn:l.most=some 63)(hdf:d.params.defaults=[])
  (hY:∀(w:World) (h:Heap),YP w h->(K w.params).In h)
  (F:∀(w:World) (mg:Str->Option Value) (fa:Addr) (h:Heap),(K w.params).In h->h.Ns mainGlobals mg->mg d.name=some (.ref fa)->
   ∃fd:FuncData,(∀(s:Shared) (u:Value),BindsTo s fd ⟨[u],[]⟩ [("_law_script",u)])/\∀base:Heap,(K w.params).In base->base.Ns mainGlobals mg->FnOk l.prog w (K w.params) mg base CX0 10 fa fd ["_law_script"] (q9a (K w.params))):
  W.WalkO q loose XP YP l.row.toRowW d [] (fun f vs=>PySem.call f vs):=
 L2.qax (n:=63) (k:=10) (x:="_law_script") (CX:=fun _=>CX0) (sp:=fun w=>q9a (K w.params)) hn (by decide) hdf ⟨rfl,by decide,by decide,rfl⟩ hY F (fun _ _ a ns hl _ hS=>⟨a,ns,rfl,hS,hl,fun _=>rfl⟩) fun _ _ _ _ _ z=>z
end Mine
open PySem PySem.W PyProof.Rows
set_option maxRecDepth 100000 in
set_option maxHeartbeats 0 in
theorem PySem.Challenge.cw_delve_k82_texts_refused_holds : PySem.Challenge.rw_delve_k82_texts_refused.Holds := by
 w_on;o_law;k_head;(case hw=>w_witness2)
 k_fill
 refine Mine.walk (l:=PySem.Challenge.rw_delve_k82_texts_refused) rfl rfl (fun w h Y=>PySem.W.kIn_of Y) ?F
 case F=>
  intro w mg fa h KX G hmg
  refine' Mine.all_mk KX G hmg ?z0 ?z1 ?z2 ?z3 ?z4 ?z5 ?z6 ?z7 ?z8 ?z9 ?za ?zb ?zc ?zd ?ze ?zf ?zg ?a0 ?l0 ?c0 ?k0 ?a1 ?l1 ?c1 ?k1 ?a2 ?l2 ?c2 ?k2 ?a3 ?l3 ?c3 ?k3 ?a4 ?l4 ?c4 ?k4 ?a5 ?l5 ?c5 ?k5 ?a6 ?l6 ?d6_ ?c6 ?k6 ?a7 ?l7 ?c7 ?k7 ?a8 ?l8 ?c8 ?k8 ?a9 ?l9 ?c9 ?k9 ?a10 ?l10 ?c10 ?k10 ?a11 ?l11 ?c11 ?k11 ?a12 ?l12 ?c12 ?k12 ?a13 ?l13 ?c13 ?k13 ?a14 ?l14 ?c14 ?k14 ?a15 ?l15 ?c15 ?k15 ?a16 ?l16 ?c16 ?k16 ?a17 ?l17 ?c17 ?k17 ?a18 ?l18 ?c18 ?k18 ?a19 ?l19 ?c19 ?k19 ?a20 ?l20 ?c20 ?k20 ?a21 ?l21 ?c21 ?k21 ?a22 ?l22 ?c22 ?k22 ?a23 ?l23 ?c23 ?k23 ?a24 ?l24 ?c24 ?k24 ?a25 ?l25 ?c25 ?k25 ?a26 ?l26 ?c26 ?k26 ?a27 ?l27 ?c27 ?k27 ?a28 ?l28 ?c28 ?k28 ?a29 ?l29 ?c29 ?k29 ?a30 ?l30 ?c30 ?k30 ?a31 ?l31 ?c31 ?k31 ?a32 ?l32 ?c32 ?k32 ?a33 ?l33 ?c33 ?k33 ?a34 ?l34 ?c34 ?k34 ?a35 ?l35 ?c35 ?k35 ?a36 ?l36 ?c36 ?k36 ?a37 ?i37 ?l37 ?c37 ?k37 ?a38 ?i38 ?l38 ?c38 ?k38 ?a39 ?i39 ?l39 ?c39 ?k39 ?a40 ?i40 ?l40 ?c40 ?k40 ?a41 ?i41 ?l41 ?c41 ?k41 ?a42 ?i42 ?l42 ?c42 ?k42 ?a43 ?i43 ?l43 ?c43 ?k43 ?a44 ?i44 ?l44 ?c44 ?k44 ?a45 ?i45 ?l45 ?c45 ?k45 ?a46 ?i46 ?l46 ?c46 ?k46 ?zh ?zi ?zj ?zk ?zl ?zm ?zn ?zo ?zp ?zq ?zr ?zs ?zt ?zu ?zv ?zw ?zx ?zy ?zz ?z10 ?z11 ?z12 ?z13 ?z14 ?z15 ?z16 ?z17 ?z18 ?z19 ?z1a ?z1b ?z1c ?z1d ?z1e ?z1f ?z1g ?z1h ?z1i ?z1j ?z1k ?z1l ?z1m ?z1n ?z1o ?z1p ?z1q ?z1r ?z1s ?z1t ?z1u ?z1v ?z1w ?z1x ?z1y ?z1z ?z20 ?z21 ?z22 ?z23 ?z24 ?z25 ?z26 ?z27 ?z28 ?z29 ?z2a ?z2b ?z2c ?z2d ?z2e ?z2f ?z2g ?z2h ?z2i ?z2j ?z2k ?z2l ?z2m ?z2n ?z2o ?z2p ?z2q ?z2r ?z2s ?z2t ?z2u ?z2v ?z2w ?z2x ?z2y ?z2z ?z30 ?z31 ?z32 ?z33 ?z34 ?z35 ?z36 ?z37 ?z38 ?z39 ?z3a ?z3b ?z3c ?z3d ?z3e ?z3f ?z3g ?z3h ?z3i ?z3j ?z3k ?z3l ?z3m ?z3n ?z3o ?z3p ?z3q ?z3r ?z3s ?z3t ?z3u ?z3v ?z3w ?z3x ?z3y ?z3z ?z40 ?z41 ?z42 ?z43 ?z44 ?z45 ?z46 ?z47 ?z48 ?z49 ?z4a ?z4b ?z4c ?z4d ?z4e ?z4f ?z4g ?z4h ?z4i ?z4j ?z4k ?z4l ?z4m ?z4n ?z4o ?z4p ?z4q ?z4r ?z4s ?z4t
  (case z0=>k_is)
  (case z1=>k_is)
  (case z2=>k_is)
  (case z3=>k_is)
  (case z4=>k_is)
  (case z5=>k_is)
  (case z6=>k_is)
  (case z7=>k_is)
  (case z8=>k_is)
  (case z9=>k_is)
  (case za=>k_is)
  (case zb=>k_is)
  (case zc=>k_is)
  (case zd=>k_is)
  (case ze=>k_is)
  (case zf=>k_is)
  (case zg=>k_is)
  (case a0=>k_is)
  (case l0=>k_is)
  (case c0=>k_is)
  (case k0=>k_is)
  (case a1=>k_is)
  (case l1=>k_is)
  (case c1=>k_is)
  (case k1=>k_is)
  (case a2=>k_is)
  (case l2=>k_is)
  (case c2=>k_is)
  (case k2=>k_is)
  (case a3=>k_is)
  (case l3=>k_is)
  (case c3=>k_is)
  (case k3=>k_is)
  (case a4=>k_is)
  (case l4=>k_is)
  (case c4=>k_is)
  (case k4=>k_is)
  (case a5=>k_is)
  (case l5=>k_is)
  (case c5=>k_is)
  (case k5=>k_is)
  (case a6=>k_is)
  (case l6=>k_is)
  (case d6_=>k_is)
  (case c6=>k_is)
  (case k6=>k_is)
  (case a7=>k_is)
  (case l7=>k_is)
  (case c7=>k_is)
  (case k7=>k_is)
  (case a8=>k_is)
  (case l8=>k_is)
  (case c8=>k_is)
  (case k8=>k_is)
  (case a9=>k_is)
  (case l9=>k_is)
  (case c9=>k_is)
  (case k9=>k_is)
  (case a10=>k_is)
  (case l10=>k_is)
  (case c10=>k_is)
  (case k10=>k_is)
  (case a11=>k_is)
  (case l11=>k_is)
  (case c11=>k_is)
  (case k11=>k_is)
  (case a12=>k_is)
  (case l12=>k_is)
  (case c12=>k_is)
  (case k12=>k_is)
  (case a13=>k_is)
  (case l13=>k_is)
  (case c13=>k_is)
  (case k13=>k_is)
  (case a14=>k_is)
  (case l14=>k_is)
  (case c14=>k_is)
  (case k14=>k_is)
  (case a15=>k_is)
  (case l15=>k_is)
  (case c15=>k_is)
  (case k15=>k_is)
  (case a16=>k_is)
  (case l16=>k_is)
  (case c16=>k_is)
  (case k16=>k_is)
  (case a17=>k_is)
  (case l17=>k_is)
  (case c17=>k_is)
  (case k17=>k_is)
  (case a18=>k_is)
  (case l18=>k_is)
  (case c18=>k_is)
  (case k18=>k_is)
  (case a19=>k_is)
  (case l19=>k_is)
  (case c19=>k_is)
  (case k19=>k_is)
  (case a20=>k_is)
  (case l20=>k_is)
  (case c20=>k_is)
  (case k20=>k_is)
  (case a21=>k_is)
  (case l21=>k_is)
  (case c21=>k_is)
  (case k21=>k_is)
  (case a22=>k_is)
  (case l22=>k_is)
  (case c22=>k_is)
  (case k22=>k_is)
  (case a23=>k_is)
  (case l23=>k_is)
  (case c23=>k_is)
  (case k23=>k_is)
  (case a24=>k_is)
  (case l24=>k_is)
  (case c24=>k_is)
  (case k24=>k_is)
  (case a25=>k_is)
  (case l25=>k_is)
  (case c25=>k_is)
  (case k25=>k_is)
  (case a26=>k_is)
  (case l26=>k_is)
  (case c26=>k_is)
  (case k26=>k_is)
  (case a27=>k_is)
  (case l27=>k_is)
  (case c27=>k_is)
  (case k27=>k_is)
  (case a28=>k_is)
  (case l28=>k_is)
  (case c28=>k_is)
  (case k28=>k_is)
  (case a29=>k_is)
  (case l29=>k_is)
  (case c29=>k_is)
  (case k29=>k_is)
  (case a30=>k_is)
  (case l30=>k_is)
  (case c30=>k_is)
  (case k30=>k_is)
  (case a31=>k_is)
  (case l31=>k_is)
  (case c31=>k_is)
  (case k31=>k_is)
  (case a32=>k_is)
  (case l32=>k_is)
  (case c32=>k_is)
  (case k32=>k_is)
  (case a33=>k_is)
  (case l33=>k_is)
  (case c33=>k_is)
  (case k33=>k_is)
  (case a34=>k_is)
  (case l34=>k_is)
  (case c34=>k_is)
  (case k34=>k_is)
  (case a35=>k_is)
  (case l35=>k_is)
  (case c35=>k_is)
  (case k35=>k_is)
  (case a36=>k_is)
  (case l36=>k_is)
  (case c36=>k_is)
  (case k36=>k_is)
  (case a37=>k_is)
  (case i37=>k_is)
  (case l37=>k_is)
  (case c37=>k_is)
  (case k37=>k_is)
  (case a38=>k_is)
  (case i38=>k_is)
  (case l38=>k_is)
  (case c38=>k_is)
  (case k38=>k_is)
  (case a39=>k_is)
  (case i39=>k_is)
  (case l39=>k_is)
  (case c39=>k_is)
  (case k39=>k_is)
  (case a40=>k_is)
  (case i40=>k_is)
  (case l40=>k_is)
  (case c40=>k_is)
  (case k40=>k_is)
  (case a41=>k_is)
  (case i41=>k_is)
  (case l41=>k_is)
  (case c41=>k_is)
  (case k41=>k_is)
  (case a42=>k_is)
  (case i42=>k_is)
  (case l42=>k_is)
  (case c42=>k_is)
  (case k42=>k_is)
  (case a43=>k_is)
  (case i43=>k_is)
  (case l43=>k_is)
  (case c43=>k_is)
  (case k43=>k_is)
  (case a44=>k_is)
  (case i44=>k_is)
  (case l44=>k_is)
  (case c44=>k_is)
  (case k44=>k_is)
  (case a45=>k_is)
  (case i45=>k_is)
  (case l45=>k_is)
  (case c45=>k_is)
  (case k45=>k_is)
  (case a46=>k_is)
  (case i46=>k_is)
  (case l46=>k_is)
  (case c46=>k_is)
  (case k46=>k_is)
  (case zh=>k_is)
  (case zi=>k_is)
  (case zj=>k_is)
  (case zk=>k_is)
  (case zl=>k_is)
  (case zm=>k_is)
  (case zn=>k_is)
  (case zo=>k_is)
  (case zp=>k_is)
  (case zq=>k_is)
  (case zr=>k_is)
  (case zs=>k_is)
  (case zt=>k_is)
  (case zu=>k_is)
  (case zv=>k_is)
  (case zw=>k_is)
  (case zx=>k_is)
  (case zy=>k_is)
  (case zz=>k_is)
  (case z10=>k_is)
  (case z11=>k_is)
  (case z12=>k_is)
  (case z13=>k_is)
  (case z14=>k_is)
  (case z15=>k_is)
  (case z16=>k_is)
  (case z17=>k_is)
  (case z18=>k_is)
  (case z19=>k_is)
  (case z1a=>k_is)
  (case z1b=>k_is)
  (case z1c=>k_is)
  (case z1d=>k_is)
  (case z1e=>k_is)
  (case z1f=>k_is)
  (case z1g=>k_is)
  (case z1h=>k_is)
  (case z1i=>k_is)
  (case z1j=>k_is)
  (case z1k=>k_is)
  (case z1l=>k_is)
  (case z1m=>k_is)
  (case z1n=>k_is)
  (case z1o=>k_is)
  (case z1p=>k_is)
  (case z1q=>k_is)
  (case z1r=>k_is)
  (case z1s=>k_is)
  (case z1t=>k_is)
  (case z1u=>k_is)
  (case z1v=>k_is)
  (case z1w=>k_is)
  (case z1x=>k_is)
  (case z1y=>k_is)
  (case z1z=>k_is)
  (case z20=>k_is)
  (case z21=>k_is)
  (case z22=>k_is)
  (case z23=>k_is)
  (case z24=>k_is)
  (case z25=>k_is)
  (case z26=>k_is)
  (case z27=>k_is)
  (case z28=>k_is)
  (case z29=>k_is)
  (case z2a=>k_is)
  (case z2b=>k_is)
  (case z2c=>k_is)
  (case z2d=>k_exc)
  (case z2e=>kts_exm)
  (case z2f=>kts_exm)
  (case z2g=>kit_is)
  (case z2h=>kit_is)
  (case z2i=>kit_is)
  (case z2j=>kit_is)
  (case z2k=>kit_is)
  (case z2l=>kit_is)
  (case z2m=>kit_is)
  (case z2n=>kit_is)
  (case z2o=>kit_is)
  (case z2p=>kit_is)
  (case z2q=>kts_exm)
  (case z2r=>kts_exm)
  (case z2s=>kit_is)
  (case z2t=>kit_is)
  (case z2u=>kit_is)
  (case z2v=>kit_is)
  (case z2w=>kit_is)
  (case z2x=>kit_is)
  (case z2y=>kit_is)
  (case z2z=>kit_is)
  (case z30=>kit_is)
  (case z31=>kit_is)
  (case z32=>k_is)
  (case z33=>k_is)
  (case z34=>k_is)
  (case z35=>k_is)
  (case z36=>k_is)
  (case z37=>k_exc)
  (case z38=>k_is)
  (case z39=>k_is)
  (case z3a=>k_is)
  (case z3b=>k_is)
  (case z3c=>k_is)
  (case z3d=>k_is)
  (case z3e=>k_is)
  (case z3f=>k_is)
  (case z3g=>k_is)
  (case z3h=>k_is)
  (case z3i=>k_is)
  (case z3j=>k_is)
  (case z3k=>k_is)
  (case z3l=>k_is)
  (case z3m=>k_is)
  (case z3n=>k_is)
  (case z3o=>k_is)
  (case z3p=>k_is)
  (case z3q=>k_is)
  (case z3r=>k_is)
  (case z3s=>k_is)
  (case z3t=>k_is)
  (case z3u=>k_is)
  (case z3v=>k_is)
  (case z3w=>k_is)
  (case z3x=>k_is)
  (case z3y=>k_is)
  (case z3z=>k_is)
  (case z40=>k_is)
  (case z41=>k_is)
  (case z42=>k_is)
  (case z43=>k_is)
  (case z44=>k_is)
  (case z45=>k_is)
  (case z46=>k_is)
  (case z47=>k_is)
  (case z48=>k_is)
  (case z49=>k_is)
  (case z4a=>k_is)
  (case z4b=>k_is)
  (case z4c=>k_is)
  (case z4d=>k_is)
  (case z4e=>k_is)
  (case z4f=>k_is)
  (case z4g=>k_is)
  (case z4h=>k_is)
  (case z4i=>k_is)
  (case z4j=>k_is)
  (case z4k=>k_is)
  (case z4l=>k_is)
  (case z4m=>k_is)
  (case z4n=>k_is)
  (case z4o=>k_is)
  (case z4p=>k_is)
  (case z4q=>k_is)
  (case z4r=>k_is)
  (case z4s=>k_is)
  (case z4t=>k_is)
