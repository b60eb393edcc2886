import PyProof.Rows.All
import Wide.All
import OpenK.AllK
import Wide.FinOn
import Lean
import PyProof.EqAt
import PyProof.EqKinds
import PyProof.TupleCall
import PyProof.NeKinds
import KE.KDictSum
import KE.KDictList
import PyProof.DictTruth
import PySem.Challenge.RW_delve_k31_near_numbers
section
open PySem PySem.Spec PyProof.Rows PySem.W
def zc:=@wpAny_pure
def zd:=@if_neg
def ze:=@Nat.le_refl
def zf:=@wpS_bind
def zg:=@Heap.get?_push_of_some
def zh:=@List.take_succ_eq_append_getElem
def zi:=@if_pos
def zj:=@wpS_pure
def zk:=@Int.toNat_natCast
def zl:=@Bool.false_ne_true
def zm:=@List.length_append
def zn:=@decide_eq_false
def zo:=@List.length_take
def zp:=@List.mem_singleton
def zq:=@List.append_assoc
def zr:=@List.mem_append
def zt:=@Heap.lt_size
def zu:=@decide_eq_true
def zw:=@List.mem_cons_of_mem
def zx:=@List.mem_cons
def zy:=@List.size_toArray
def zA:=@List.getElem?_append_left
def zB:=@Heap.get?_push_size
def zC:=@Nat.ne_of_lt
def zD:=@List.take_append_drop
def zE:=@List.pairwise_append
def zF:=@PySem.F.plainAttrs_list
def zH:=@Option.some.inj
def zI:=@List.mem_append_right
def zJ:=@List.getElem?_map
def zK:=@List.mem_map
def zL:=@List.take_length
def zM:=@List.append_nil
def zN:=@PySem.F.slot_list_append
def zO:=@PySem.F.type_list_append
def zP:=@List.map_map
def zQ:=@List.mem_of_getElem?
def zR:=@List.map_append
def zS:=@List.getElem?_append_right
def zT:=@Nat.lt_of_lt_of_le
def zU:=@List.getElem_mem
def zX:=@Array.toList_append
def zY:=@List.mem_append_left
def zZ:=@wpAny_mono
def z8:=@List.take_sublist
def z9:=@KeyOrd.kle_trans
def zaa:=@Array.length_toList
def zab:=@List.map_congr_left
def zac:=@List.length_cons
def zad:=@wpAny_newObj_type
def zae:=@List.mem_cons_self
def zaf:=@Nat.le_trans
def zag:=@congrArg
def zah:=@KeyOrd.kle_of_klt
def zai:=@List.Perm.append_left
def zaj:=@Array.toList_push
def zak:=@Nat.zero_le
def zal:=@List.getElem_of_mem
def zam:=@List.map_cons
def zan:=@wpAny_callSpecial?_slot
def zao:=@List.mem_of_mem_take
def zap:=@wpAny_call_entry
def zaq:=@List.mem_reverse
def zar:=@List.drop_sublist
def zas:=@PyProof.Rows.slot_tuple_getitem
def zat:=@List.filter_append
def zau:=@wpAny_field
def zav:=@F.slot_dict_itemiterator_next
def zaw:=@List.length_filter_le
def zax:=@PySem.W.kia_one
def zay:=@List.map_id
def zaz:=@List.lookup_cons
def zaA:=@wpS_forRange
def zaB:=@Heap.get?_update_other
def zaC:=@Heap.get?_update_self
def zaD:=@List.perm_append_comm
def zaE:=@List.mem_filterMap
def zaF:=@List.length_drop
def zaG:=@Obj.data_mapFields
def zaH:=@wpS_mono
def zaI:=@F.slot_dict_keyiterator_next
def zaJ:=@List.nodup_append
def zaK:=@PyProof.Rows.callWith_type1
def zaL:=@KeyOrd.kle_refl
def zaM:=@PySem.W.hideAll_get
def zaN:=@PySem.mem_of_lookup
def zaO:=@Int.zero_add
def zaP:=@Option.map_eq_some_iff
def zaQ:=@List.drop_eq_nil_of_le
def zaR:=@wpAny_holding
def zaS:=@Array.getElem?_eq_some_iff
def zaT:=@Bool.and_eq_true
def zaU:=@wpAny_setField
def zaV:=@Obj.isFreed_of_fields
def zaW:=@of_decide_eq_false
def zaX:=@List.extract_eq_take_drop
def zaY:=@PySem.W.hideAll_none
def zaZ:=@List.nodup_cons
def za0:=@wpAny_typeNameOfWhole_itemiter
def za1:=@List.mem_of_mem_drop
def za3:=@wpAny_truthy_bool
def za4:=@of_decide_eq_true
def za5:=@wpAny_dictEntries
def za6:=@wpAny_typeNameOfWhole_keyiter
def za7:=@Heap.SameBut.update
def za8:=@wpAny_fieldsOf
def za9:=@Nat.le_succ
def zba:=@wpS_modify
def zbb:=@wpAny_Call_Name_kw
def zbc:=@wpAny_passesOwn
def zbd:=@Bool.eq_iff_iff
def zbe:=@Array.getElem?_toList
def zbf:=@F.slot_tuple_iterator_next
def zbg:=@List.ext_getElem?
def zbh:=@Nat.lt_of_succ_lt
def zbi:=@List.pairwise_map
def zbj:=@wpAny_rule
def zbk:=@wpAny_typeNameOf_itemiter
def zbl:=@Array.getElem?_eq_getElem
def zbm:=@Array.toList_extract
def zbn:=@wpAny_typeNameOf_keyiter
def zbo:=@KeyOrd.klt_of_kle_of_klt
def zbp:=@List.replicate_succ
def zbq:=@Heap.FunFrames.of_keeps
def zbr:=@Int.eq_ofNat_of_zero_le
def zbs:=@Nat.lt_irrefl
def zbt:=@List.mem_filter
def zbu:=@wpAny_execs_nil
def zbv:=@PySem.W.callWith_K
def zbw:=@wpAny_loadPart'
def zbx:=@wpAny_dictEpoch
def zby:=@wpAny_setField_rec
def zbz:=@List.Perm.of_eq
def zbA:=@Nat.min_eq_left
def zbB:=@Calls.callWith_builtin
def zbC:=@wpAny_isOneOf_itemiter
def zbD:=@List.flatten_cons
def zbE:=@Nat.lt_succ_of_lt
def zbF:=@Bool.false_and
def zbG:=@Heap.size_push
def zbH:=@Array.getD_eq_getD_getElem?
def zbI:=@Array.toList_reverse
def zbJ:=@Bool.true_and
def zbK:=@Int.le_refl
def zbL:=@List.not_lt
def zbM:=@wpS_get
def zbN:=@List.length_pos_iff
def zbO:=@Nat.not_lt_zero
def zbP:=@List.drop_eq_getElem_cons
def zbQ:=@PySem.W.of_hideAll
def zbR:=@wpAny_pyIter_tuple
def zbS:=@PySem.F.args_tuple_add_2
def zbT:=@Nat.lt_of_le_of_lt
def zbU:=@PySem.F.entry_tuple_add
def zbV:=@List.length_eq_zero_iff
def zbW:=@wpAny_pyIter_enum
def zbX:=@List.reverse_perm
def zbY:=@PySem.F.slot_tuple_add
def zbZ:=@PySem.W.funFrames_hide
def zb0:=@Int.one_mul
def zb1:=@wpAny_attempt
def zb2:=@Nat.lt_succ_self
def zb4:=@List.length_replicate
def zb5:=@List.length_singleton
def zb6:=@PySem.W.methodCall_KW
def zb7:=@wpAny_isOneOf_keyiter
def zb8:=@PySem.F.slot_dict_get
def zb9:=@F.args_dict_itemiterator_next_1
def zca:=@Nat.le_of_lt
def zcb:=@Nat.ne_of_gt
def zcc:=@codeAny_mono
def zcd:=@Calls.evalArgs_plain
def zce:=@Int.natCast_pow
def zcf:=@F.args_dict_keyiterator_next_1
def zcg:=@F.entry_dict_itemiterator_next
def zch:=@Nat.zero_add
def zci:=@F.entry_dict_keyiterator_next
def zcj:=@F.slot_dict_itemiterator_iter
def zck:=@List.drop_append_of_le_length
def zcl:=@PySem.W.plainGet_of
def zcm:=@F.args_tuple_iterator_next_1
def zcn:=@wpS_lift
def zco:=@List.take_take
def zcp:=@List.dropLast_concat_getLast
def zcq:=@List.zip_cons_cons
def zcr:=@F.entry_tuple_iterator_next
def zcs:=@SeqAt.EqAt.of_refs
def zct:=@Calls.Name_function_global
def zcu:=@Int.fdiv_eq_ediv_of_nonneg
def zcv:=@wpAny_standAt
def zcw:=@wpAny_letOwnedTupleGo_enum
def zcx:=@SeqAt.RcNeAt.lists_lengths
def zcy:=@Bool.false_or
def zcz:=@Array.toList_setIfInBounds
def zcA:=@List.perm_ext_iff_of_nodup
def zcB:=@List.getD_eq_getElem?_getD
def zcC:=@PySem.F.excBase_ValueError
def zcD:=@Obj.cls_mapFields
def zcE:=@List.getElem?_set
def zcF:=@wpAny_pyIter_slot
def zcG:=@Nat.le_of_lt_succ
def zcH:=@List.getElem_drop
def zcI:=@Calls.call_function_entry
def zcJ:=@List.pairwise_iff_getElem
def zcK:=@wpAny_eqBool_int
def zcL:=@List.getElem_inj
def zcM:=@wpAny_execs_cons
def zcN:=@List.all_eq_true
def zcO:=@Nat.add_zero
def zcP:=@List.map_snd_zip
def zcQ:=@List.getElem_map
def zcR:=@List.of_mem_zip
def zcS:=@List.length_nil
def zcT:=@List.take_left'
def zcU:=@List.mem_range
def zcV:=@wpAny_ite_true
def zcW:=@List.Perm.refl
def zcX:=@Bool.and_false
end
universe u v
theorem yA{α:Type u}{l:List α}{i:Nat}{a:α}(h:l[i]?=some a):∃h:i<l.length,l[i]=a:=List.getElem?_eq_some_iff.mp h
theorem yB{α:Type u}{l:List α}{i:Nat}(h:i<l.length):l[i]?=some l[i]:=List.getElem?_eq_getElem h
theorem yC{α:Type u}{β:Type v}{l:List α}(f:α->β):(l.map f).length=l.length:=List.length_map f
def yD:=@PySem.wpAny_bind
local macro_rules| `(tactic| walk_at "k")=> `(tactic| decide +kernel)
namespace PySem.W.Fast
def tw13253340498148646837:=0
def tw4651614443878992233:=0
def tw3678824404584943383:=0
def tw1749990412555350078:=0
def tw993844777180776859:=0
def tw282409090246245220:=0
def tw2140324831378534995:=0
def tw16485469386386222581:=0
def tw4750884196666889886:=0
def tw16255085450310948641:=0
def tw15750556591297502655:=0
def tw14586866357276413501:=0
def tw11717263820931861673:=0
def tw1439832993604521083:=0
def tw9258825749890781165:=0
def tw14749612144958250292:=0
def tw738904963533459182:=0
def tw14633020981121114643:=0
def tw8145124389528652450:=0
def tw1764414597128693625:=0
def tw10714096943661885619:=0
def tw3634157314702523302:=0
def tw7571494246608733754:=0
def tw5667205228664616837:=0
def tw4881579414922234077:=0
def tw6959187078389708227:=0
def tw8217425566342953834:=0
def tw14353982727601531301:=0
def tw13671865124555578716:=0
def tw3818596274876852450:=0
def tw4660473239465154765:=0
def tw16110256920433479225:=0
def tw11928224259690008723:=0
def tw15247233173011325094:=0
def tw14552543945722075192:=0
def tw15220826763127623569:=0
def tw10400662447138931804:=0
def tw13177739955477099603:=0
def tw12587994975007623591:=0
def tw9243815440917973402:=0
def tw7658373768319650066:=0
def tw492898609063962526:=0
def tw15672532661879075772:=0
def tw1545789830557755763:=0
def tw3542469939555928678:=0
def tw5458490166553312980:=0
def tw16741924279060620648:=0
def tw13768471515688090923:=0
def tw12440687949776982767:=0
def tw7485042775447075571:=0
def tw13311099069520278336:=0
def tw6999612183962363672:=0
def tw7568900641651120708:=0
def tw7095259568067142627:=0
def tw296614892264340148:=0
def tw8400139368035852300:=0
def tw8043491569928806685:=0
def tw1039627391936549084:=0
def tw13574935585953379052:=0
def tw7140196656147075309:=0
def tw1370141107760585501:=0
def tw7551653366621958118:=0
def tw12614069782827520014:=0
def tw9685747218121010980:=0
def tw16483571338518663868:=0
def tw8316782950468454223:=0
def tw17127886217361330922:=0
def tw10387704461765166949:=0
def tw9323199242579981475:=0
def tw14940538311101179260:=0
def tw1599092787649541355:=0
def tw471319983052349382:=0
def tw6652912807338664900:=0
def tw7143386921915082874:=0
def tw17040220790168616321:=0
def tw3210015200773679227:=0
def tw8752232416086848006:=0
def tw9797486288950942476:=0
def tw4339806900218751974:=0
def tw11600505414149313981:=0
def tw9669167913107875861:=0
def tw11170272365788704071:=0
def tw11995096079202708856:=0
def tw7069482977796851988:=0
def tw1292956258680340738:=0
def tw17304610322308193669:=0
def tw5829377816048238827:=0
def tw2033155777628247882:=0
def tw16274445743048348512:=0
def tw483619273575573566:=0
def tw3877202037411463888:=0
def tw5556106665299543934:=0
def tw6147039435983826066:=0
def tw3644550025843937952:=0
def tw5622324794895931810:=0
def tw633072908614057177:=0
def tw8391388488891979484:=0
def tw6189240177553537634:=0
def tw14338690497009055417:=0
def tw10570833920992611820:=0
def tw2408355176122680502:=0
def tw4411580057501445475:=0
def tw15421124953255887294:=0
def tw2923581432124847047:=0
def tw13589519748559441422:=0
def tw18399505039241606998:=0
def tw11217817895909685518:=0
def tw917098446591929418:=0
def tw2337314798044447673:=0
def tw1633591020305196725:=0
def tw1399257819272793051:=0
def tw17662319680866473714:=0
def tw17568050845642951688:=0
def tw15039958891446726980:=0
def tw1975083892088261727:=0
def tw15044287782634394611:=0
def tw7288173442657937942:=0
def tw11364935718246924844:=0
def tw9319331245349389300:=0
def tw15483876813643475431:=0
def tw13721910440940891065:=0
def tw7833740241528162182:=0
def tw7360525099544893658:=0
def tw17763147783917500804:=0
def tw532623851471807566:=0
def tw7182611666467539694:=0
def tw14239410000953011767:=0
def tw9583125650219842857:=0
def tw13264244688857803330:=0
def tw2534072591323023126:=0
def tw12783496807000090966:=0
def tw864560797463469984:=0
def tw3396752008337579307:=0
def tw8227631116135724708:=0
def tw14800325402107291129:=0
def tw7855454610266145652:=0
def tw12726145062887130850:=0
def tw13439062803334525830:=0
def tw2872984137504100625:=0
def tw7228997179874375025:=0
def tw2422846215105196914:=0
def tw12731618385539291331:=0
def tw753305817168849806:=0
def tw15353064897952305044:=0
def tw5385073730867318931:=0
def tw11314022941910653859:=0
def tw14333971733864777686:=0
def tw11499471254636883529:=0
def tw16608515702310153815:=0
def tw15711912738769300707:=0
def tw18071246096763892973:=0
def tw14576844940119560815:=0
def tw14308421999441165200:=0
def tw8570147174133558941:=0
def tw574580834269852543:=0
def tw3594635472603043733:=0
def tw10758255888225093954:=0
def tw6782978474223889133:=0
def tw18206666185926327454:=0
def tw13182525186390775517:=0
def tw11564630997676670219:=0
def tw12466917348849658561:=0
def tw748321837180875141:=0
def tw9331958184371499685:=0
def tw13460681295431843620:=0
def tw11948487048756878441:=0
def tw1187468241851930748:=0
def tw893532656989484533:=0
def tw17768038155166693675:=0
def tw15339533615174760671:=0
def tw16421745884129626826:=0
def tw9993464981516407299:=0
def tw17550344815271175232:=0
def tw2387937963366137998:=0
def tw17802109953174800107:=0
def tw201990931120682263:=0
def tw6118040094223695447:=0
def tw11405413150075049778:=0
def tw9510101552643213419:=0
def tw14616025998314694749:=0
def tw7054164401206103288:=0
def tw9652071396264740758:=0
def tw12866424970963865581:=0
def tw211253133383838309:=0
def tw10791055040327171363:=0
def tw13677762969425989746:=0
def tw13608937874344834466:=0
def tw11512719401656013352:=0
def tw12696172928824563968:=0
def tw2388753926899632982:=0
def tw9200987264452586903:=0
def tw13216869325373946402:=0
def tw12039250869989792093:=0
def tw12634886106344810694:=0
def tw16570522554484724107:=0
def tw9252843235446838237:=0
def tw4639873733997896395:=0
def tw6567395081659057752:=0
def tw17960967027217215722:=0
def tw10244066376524266957:=0
def tw10606430759192205594:=0
def tw14656393974826088626:=0
def tw5899567712169087370:=0
def tw6440397734926442536:=0
def tw13242132325793063437:=0
def tw6352021902323816758:=0
def tw2793235353670530344:=0
def tw12705020735177544323:=0
def tw16227822639340297203:=0
def tw11438890209469938550:=0
def tw5650063267413882488:=0
def tw14011981061027886667:=0
def tw13200426757031976821:=0
def tw1020222107837379970:=0
def tw15816362420693127585:=0
def tw16799305058511151660:=0
def tw9437652568273850010:=0
def tw17772248118216973158:=0
def tw17755472496610571682:=0
def tw3367274893145542917:=0
def tw133712306011376727:=0
def tw2312019435260279962:=0
def tw12409751824734417709:=0
def tw4542385994733472990:=0
def tw16984146684735186364:=0
def tw1789473462082464496:=0
def tw7654581766096214199:=0
def tw10289771752198696744:=0
def tw9715431043162291636:=0
def tw3486113391846967056:=0
def tw18098420871502367450:=0
def tw14846910516194359402:=0
def tw8865752702657298843:=0
def tw13536828475312678330:=0
def tw8007910739788927754:=0
def tw14014527016815747434:=0
def tw4663547790351199637:=0
def tw13102500040414188871:=0
def tw13147376084916574203:=0
def tw10237514192193236856:=0
def tw10605721600550440343:=0
def tw5629268103845958786:=0
def tw921328048821246214:=0
def tw537155995574631309:=0
def tw14266850067316660026:=0
def tw5459868655257591368:=0
def tw4627476215584591371:=0
def tw13136323552353349344:=0
def tw3701373520148670179:=0
def tw16332937998777694571:=0
def tw4563879082618152254:=0
def tw1182386667716418092:=0
def tw3040961242020111084:=0
def tw8847315369036442240:=0
def tw12986104681066757598:=0
def tw689120918321482956:=0
def tw8808903369553914431:=0
def tw2266013540742540503:=0
def tw9711414983910674211:=0
def tw13031527575513450747:=0
def tw11409631238715235753:=0
def tw18382135195243704449:=0
def tw14075141568957719983:=0
def tw12884563319157570708:=0
def tw3282258121507157460:=0
def tw6364266821532601482:=0
def tw11057431300039063807:=0
def tw5888115480645035424:=0
def tw13099529260715201348:=0
def tw6866866276728000996:=0
def tw13058976917640764833:=0
def tw1980518036288031504:=0
def tw5234634934322776819:=0
def tw12295904205673269199:=0
def tw17553000619112883188:=0
def tw18016738632091306440:=0
def tw3861008368871739031:=0
def tw14023572369805239731:=0
def tw11320110487614810422:=0
def tw5290706014778400724:=0
def tw1921378585319253074:=0
def tw10695484337254555503:=0
def tw2284847953627929578:=0
def tw18020863506738481534:=0
def tw16276592615360231734:=0
def tw1331061155381196796:=0
def tw11806711677460666834:=0
def tw12206706552351025119:=0
def tw14945543794120783804:=0
def tw4609973726863422256:=0
def tw5091001300586085022:=0
def tw7217071377301913376:=0
def tw12912153815455869385:=0
def tw2686925000489846419:=0
def tw16873338008632651506:=0
def tw13278833372517161606:=0
def tw9355657433283647658:=0
def tw9621823506026924128:=0
def tw18334431938135776649:=0
def tw9572432608217018046:=0
def tw17886071302422050908:=0
def tw8059152079030985269:=0
def tw18094704728371918607:=0
def tw16735790530998798963:=0
def tw14599660282109373125:=0
def tw6576671193915042538:=0
def tw4106141469034922663:=0
def tw17527165122952423255:=0
def tw15409211871122907625:=0
def tw15120316788432340141:=0
def tw16451915959482012483:=0
def tw11699784125705781621:=0
def tw16117209864573432097:=0
def tw11599798478736102848:=0
def tw13371340978693072862:=0
def tw12020378614561728152:=0
def tw11895136798886201594:=0
def tw8101876801723275044:=0
def tw11506846296240079912:=0
def tw14155411210928378407:=0
def tw12658759885723012756:=0
def tw9047628037319487331:=0
def tw9545543900274043829:=0
def tw10903434470596557255:=0
def tw8527127308685428891:=0
def tw16075928018705503493:=0
def tw5993246254787943057:=0
def tw3935424225407040876:=0
def tw5699761136728615618:=0
def tw6289586942366245872:=0
def tw3799063439259705662:=0
def tw7081159676574668245:=0
def tw2535013746730884273:=0
def tw8111152666771233481:=0
def tw15949925308966750647:=0
def tw15681473094680935188:=0
def tw3252826301866662751:=0
def tw10517766985347800022:=0
def tw15744942089571551191:=0
def tw12911676218095893999:=0
def tw12128871793509177313:=0
def tw2180996900442799384:=0
def tw16528449096330465178:=0
def tw1941783674597029453:=0
def tw13701437185416296768:=0
def tw16268007690924934765:=0
def tw12885476229360285586:=0
def tw13072655996405546294:=0
def tw12200838743551872435:=0
def tw11558521595924227555:=0
def tw17159543206290521823:=0
def tw1610270827183461086:=0
def tw16025801497180496477:=0
def tw9121904922399818377:=0
def tw8078179988074150271:=0
def tw14023405676581561707:=0
def tw11579633623197195324:=0
def tw12166407377839601263:=0
def tw4559975178863852064:=0
def tw9050109187889899379:=0
def tw11226642413068266148:=0
def tw6400439356395525052:=0
def tw15347196425925059067:=0
def tw17316749707817789683:=0
def tw1836067340697009355:=0
def tw11383654058527332274:=0
def tw9678821532876164769:=0
def tw5272118960415308133:=0
def tw11871477576763677900:=0
def tw10090945352878039065:=0
def tw5828619809438881521:=0
def tw4456702150985662621:=0
def tw4188336578115752674:=0
def tw10327330295438830298:=0
def tw9265725041674197467:=0
def tw3057421045742154964:=0
def tw7970522549922372932:=0
def tw10799170151031479916:=0
def tw13025599720580951346:=0
def tw8036622615921846202:=0
def tw17058793594140957045:=0
def tw5699719047764926120:=0
def tw4453446242163572724:=0
def tw11225136180841904338:=0
def tw17937707490854277506:=0
def tw13567930899437020667:=0
def tw18074055634331263753:=0
def tw10645442947577840680:=0
def tw13152346165296501763:=0
def tw10293747494382359565:=0
def tw6262611101864990552:=0
def tw8181081063789287618:=0
def tw16104808824571855657:=0
def tw18088068306876301117:=0
def tw7438418307278681681:=0
def tw12771285050389063068:=0
def tw4280789385846127903:=0
def tw8753345948100080281:=0
def tw11065623414048357848:=0
def tw770340289030975096:=0
def tw8303926487133846010:=0
def tw1527527402214002549:=0
def tw12846699297121346379:=0
def tw423752537683934920:=0
def tw3641911913561276427:=0
def tw16954599286819085381:=0
def tw17792313780588792738:=0
def tw6645217969453317514:=0
def tw14315389789389016451:=0
def tw6139197282955901449:=0
def tw1529327074807206482:=0
def tw14617095286610083049:=0
def tw15651054705666421990:=0
def tw11731492209195085104:=0
def tw12284023632892470881:=0
def tw9722278142131843180:=0
def tw10922537163238042821:=0
def tw12648953547242816071:=0
def tw4999397630664505655:=0
def tw926336842845731298:=0
def tw9416032325250796958:=0
def tw6576222935550301771:=0
def tw7584306237301248152:=0
def tw5042196765797085696:=0
def tw6479643474111404493:=0
def tw15943054548334012275:=0
def tw4491026452496484331:=0
def tw7749306422558698816:=0
def tw12644586674663402114:=0
def tw16457355090247437526:=0
def tw3810675822561848736:=0
def tw16532654068734261859:=0
def tw7877067418811931959:=0
def tw3354017222571559798:=0
def tw11183778694342597919:=0
def tw7653721923056709071:=0
def tw16161600336341241478:=0
def tw10278201091862920608:=0
def tw15088931687509349746:=0
def tw13193487487829588188:=0
def tw12313149845509971745:=0
def tw9321944403559000639:=0
def tw5086988139430766401:=0
def tw10214740616340001778:=0
def tw15711549485738617170:=0
def tw12373421207634965748:=0
def tw15169733609969145453:=0
def tw12774471719849361638:=0
def tw13729192755139845359:=0
def tw9084627287148103972:=0
def tw3568463203612435549:=0
def tw17665305217273180691:=0
def tw13771464344340235276:=0
def tw18101756353667202283:=0
def tw11670817642658113968:=0
def tw12116226747548870149:=0
def tw5526093047669803336:=0
def tw8010613198887807735:=0
def tw7930873909300669710:=0
def tw14227527348713572224:=0
def tw322061564499191632:=0
def tw17445352621403085546:=0
def tw2048174307634518209:=0
def tw11882822673905413354:=0
def tw15133351265970245926:=0
def tw5187578214490392765:=0
def tw12210842003311411078:=0
def tw11232694359921338450:=0
def tw7191115470313349627:=0
def tw3195806812851762019:=0
def tw211383547463333271:=0
def tw2497872855921335521:=0
def tw8154531309298917876:=0
def tw4604975407299312619:=0
def tw16079885186732501163:=0
def tw10481060061931558155:=0
def tw14579475854265111577:=0
def tw10279153280548510904:=0
def tw14201756571959472792:=0
def tw12033711328019595241:=0
def tw625975687230818932:=0
def tw18377930476788853211:=0
def tw10822952303124522424:=0
def tw22660588643269366:=0
def tw14464322687461446083:=0
def tw11692524480102472665:=0
def tw8629460436326290030:=0
def tw10443673039550304555:=0
def tw3933139159375163817:=0
def tw4929994018645189510:=0
def tw9014670237700685692:=0
def tw13599357463018914571:=0
def tw17814088328816645529:=0
def tw1409732991298093018:=0
def tw803759871041207151:=0
def tw5437430297846708779:=0
def tw17064446398481403656:=0
def tw4952364962526672793:=0
def tw16471284840196555521:=0
def tw16404451031694439739:=0
def tw8316849425562702799:=0
def tw15074775020263613803:=0
def tw13450078308550300511:=0
def tw17434487240102283863:=0
def tw78705012442724915:=0
def tw3998542787942961032:=0
def tw6838257863183992361:=0
def tw14276070054698230007:=0
def tw6052382743229154945:=0
def tw5894180579169255770:=0
def tw12813214886789422560:=0
def tw2316095595422628592:=0
def tw5016732689564892056:=0
def tw3795149353601958246:=0
def tw1039679991404826591:=0
def tw9064168057334081105:=0
def tw7944494744776481292:=0
def tw1150922016529978356:=0
def tw11319169387370772627:=0
def tw17222044065370933096:=0
def tw15731032811472439233:=0
def tw15518426115553203136:=0
def tw3369378929661283990:=0
def tw2408600157305943069:=0
def tw18192135679181964336:=0
def tw17999012564039285440:=0
def tw513908898508337166:=0
def tw14345014297556820911:=0
def tw15936957325926160374:=0
def tw12011657795425817887:=0
def tw1599935508134356966:=0
def tw511713366861731083:=0
def tw10904366715061994893:=0
def tw7192132269728216425:=0
def tw650188756499755396:=0
def tw6449938127579472224:=0
def tw2557841900617848293:=0
def tw6684547878482762584:=0
def tw3072982889938373809:=0
def tw13469792681465966313:=0
def tw6661388244978798092:=0
def tw9450124791900946097:=0
def tw1279881470931410058:=0
def tw12157410798932042399:=0
def tw10782341288560169605:=0
def tw9713707228604331627:=0
def tw4937297801155048610:=0
def tw4913118365182840006:=0
def tw3781878763235274190:=0
def tw10789375904071995872:=0
def tw8195948872373595556:=0
def tw16075201678120008354:=0
def tw9259559231477144148:=0
def tw9447626759455060292:=0
def tw14036651732959545069:=0
def tw2629520584408037601:=0
def tw7219709304327932246:=0
def tw16223496701636564860:=0
def tw16411942354272318862:=0
def tw17177409292973581301:=0
def tw9835309474817027489:=0
def tw13914947278246013520:=0
def tw15393214889995319278:=0
def tw12484687432982494423:=0
def tw17028203369579527533:=0
def tw15858309914800873826:=0
def tw9457668422834587630:=0
def tw6375370385418146452:=0
def tw15010492753660983349:=0
def tw17184986422291195240:=0
def tw7540386280974716850:=0
def tw709005360712406056:=0
def tw1627983309408470274:=0
def tw10846846501950363023:=0
def tw17520151939828584939:=0
def tw15240349766988615943:=0
def tw8451884208959242674:=0
def tw17363704491064047135:=0
def tw5055762119924942058:=0
def tw7475796757039594368:=0
def tw520982828876543524:=0
def tw4514506632441802013:=0
def tw4990804880572049154:=0
def tw9034881036793701677:=0
def tw14669846227296118575:=0
def tw8699230084351310262:=0
def tw17257005425779707933:=0
def tw16396168568824825592:=0
def tw6897204766240917422:=0
def tw12944640646623273603:=0
def tw11289208482017229215:=0
def tw14796940800475038699:=0
def tw11115688351237309476:=0
def tw5453059445705255034:=0
def tw8958767764625152875:=0
def tw9530638946212861220:=0
def tw1722221628999477515:=0
def tw10842723233945055963:=0
def tw2284877850404926765:=0
def tw310955907882730596:=0
def tw7566994773540135177:=0
def tw5206506822678444863:=0
def tw5649529565674519630:=0
def tw12881348693252004402:=0
def tw13591949946166802536:=0
def tw6663090190181728165:=0
def tw16314376350904398375:=0
def tw15921292674644148417:=0
def tw17221193342933401415:=0
def tw12544494533856540738:=0
def tw5372026698115516976:=0
def tw5565976466816426716:=0
def tw4567079903053189268:=0
def tw5148164829946737042:=0
def tw1075227424753402990:=0
def tw8320957146665415733:=0
def tw8945412546192486457:=0
def tw12084162169498895654:=0
def tw7218772395362755174:=0
def tw665595773910871508:=0
def tw2839427072963014868:=0
def tw11914296395907172260:=0
def tw7471073236801193337:=0
def tw7572111332589154141:=0
def tw6056811594621916956:=0
def tw7823833133943999083:=0
def tw1887671843145497655:=0
def tw18301059591646300077:=0
def tw8616461589038457124:=0
def tw387172894848995463:=0
def tw17361341676463640461:=0
def tw706211052392037334:=0
def tw15231444472499350620:=0
def tw3347490055842881207:=0
def tw8217858057340961417:=0
def tw7488224893653675349:=0
def tw4435389659884264422:=0
def tw7598997144284998442:=0
def tw9912103811192062792:=0
def tw7483056674990627971:=0
def tw2009150659345776733:=0
def tw15896375605643825617:=0
def tw3273050577866574531:=0
def tw12801090453873663829:=0
def tw18391691893897283081:=0
def tw10453179140319516960:=0
def tw4385783705273102749:=0
def tw10111120128035685864:=0
def tw3154737440195248235:=0
def tw11350418842170082970:=0
def tw2208176179877027870:=0
def tw3904305658722923709:=0
def tw14130994198560358485:=0
def tw4025431933510907254:=0
def tw7755705333999166171:=0
def tw3384058572978906949:=0
def tw17824426939368031903:=0
def tw17377163980831849108:=0
def tw10901693462612265973:=0
def tw218874297839167667:=0
def tw995660632071479281:=0
def tw14339814701230677020:=0
def tw3161166677827381622:=0
def tw377295288589237017:=0
def tw18095955190570176324:=0
def tw604143534420727383:=0
def tw3714142769465127303:=0
def tw2567394090665484491:=0
def tw17466430727525820106:=0
def tw9132502215095802550:=0
def tw8380294226600696981:=0
def tw5506440020536905312:=0
def tw17456600431672529729:=0
end PySem.W.Fast
set_option compiler.extract_closed false
set_option Elab.async false
set_option linter.all false
set_option maxRecDepth 100000
namespace L2
open PySem PySem.Spec PyProof.Rows
abbrev Key:=Sum Int Str
def q7Q:Key->Value->Bool
 | .inl k,v=>Value.isInt k v
 | .inr x,v=>Value.isStrOf x v
def keyH (w:World):Key->Int
 | .inl k=>hashInt k
 | .inr x=>hashStr w x
theorem q0h:∀{k:Key} {v:Value},q7Q k v=true->(∃i t,k=Sum.inl i/\v=Value.int i t)\/(∃x t,k=Sum.inr x/\v=Value.str x t)
 | .inl i,v,h=>by
  obtain⟨t,e⟩:=Value.isInt_shape (k:=i) (v:=v) h
  exact .inl ⟨i,t,rfl,e⟩
 | .inr x,v,h=>by
  obtain⟨t,e⟩:=Value.isStrOf_shape (x:=x) (v:=v) h
  exact .inr ⟨x,t,rfl,e⟩
theorem q92 (i:Int)(t:Tok):q7Q (.inl i) (.int i t)=true:=by simp[q7Q,Value.isInt]
theorem q91 (x:Str)(t:Tok):q7Q (.inr x) (.str x t)=true:=by simp[q7Q,Value.isStrOf]
theorem key_ll (a b:Int):decide ((Sum.inl a:Key)=Sum.inl b)=(a==b):=by
 by_cases e:a=b
 ·subst e;simp
 ·have h:¬(Sum.inl a:Key)=Sum.inl b:=fun q=>e (Sum.inl.inj q)
  rw[zn h]
  exact(beq_eq_false_iff_ne.mpr e).symm
theorem key_rr (a b:Str):decide ((Sum.inr a:Key)=Sum.inr b)=decide (a=b):=by
 by_cases e:a=b
 ·subst e;simp
 ·have h:¬(Sum.inr a:Key)=Sum.inr b:=fun q=>e (Sum.inr.inj q)
  rw[zn h,zn e]
theorem key_lr (a:Int)(b:Str):decide ((Sum.inl a:Key)=Sum.inr b)=false:=zn (fun q=>nomatch q)
theorem key_rl (a:Str)(b:Int):decide ((Sum.inr a:Key)=Sum.inl b)=false:=zn (fun q=>nomatch q)
def qX (prog:Program)(w:World):PySem.KeyKind prog w Key where
 is:=q7Q
 hash:=keyH w
 inj:=fun v a b ha hb=>by
  rcases q0h ha with⟨i,t,rfl,rfl⟩|⟨x,t,rfl,rfl⟩
  ·rcases q0h hb with⟨j,u,rfl,e⟩|⟨y,u,rfl,e⟩
   ·injection e with e1 _;rw[e1]
   ·exact nomatch e
  ·rcases q0h hb with⟨j,u,rfl,e⟩|⟨y,u,rfl,e⟩
   ·exact nomatch e
   ·injection e with e1 _;rw[e1]
 byValue:=fun k v h=>by
  rcases q0h h with⟨i,t,rfl,rfl⟩|⟨x,t,rfl,rfl⟩<;>rfl
 pyHash:=fun hv h=>by
  rcases q0h hv with⟨i,t,rfl,rfl⟩|⟨x,t,rfl,rfl⟩
  ·exact wpAny_pyHash_int h
  ·exact wpAny_pyHash_str h
 eqBool:=fun hu hv h=>by
  rcases q0h hu with⟨i,t,rfl,rfl⟩|⟨x,t,rfl,rfl⟩
  ·rcases q0h hv with⟨j,u,rfl,rfl⟩|⟨y,u,rfl,rfl⟩
   ·rw [key_ll] at h;exact zcK h
   ·rw [key_lr] at h;exact SeqAt.EqAt.int_str i t y u _ _ _ _ h
  ·rcases q0h hv with⟨j,u,rfl,rfl⟩|⟨y,u,rfl,rfl⟩
   ·rw [key_rl] at h;exact SeqAt.EqAt.str_int x t j u _ _ _ _ h
   ·rw [key_rr] at h;exact wpAny_eqBool_str h
 «strs» :=fun k x t v h=>by
  rcases q0h h with⟨i,u,rfl,e⟩|⟨y,u,rfl,e⟩
  ·exact nomatch e
  ·injection e with e1 _
   subst e1
   cases v<;>rfl
theorem q6x (prog:Program)(w:World)(i:Int)(t:Tok):(qX prog w).is (.inl i) (.int i t)=true:=q92 i t
theorem q6w (prog:Program)(w:World)(x:Str)(t:Tok):(qX prog w).is (.inr x) (.str x t)=true:=q91 x t
inductive V where
 |non|bl (b:Bool)|int (i:Int)|str (x:Str)|byt (b:Array UInt8)|flt (b:UInt64)|ref (a:Addr)|ty (n:String)
 deriving DecidableEq
def RelV:V->Value->Prop
 | .non,u=>u=Value.none
 | .bl b,u=>u=Value.bool b
 | .int i,u=>∃t,u=Value.int i t
 | .str x,u=>∃t,u=Value.str x t
 | .byt b,u=>∃t,u=Value.bytes b t
 | .flt b,u=>∃t,u=Value.float b t
 | .ref a,u=>u=Value.ref a
 | .ty n,u=>u=Value.type n
abbrev Vals:List V->List Value->Prop:=Paired RelV
theorem Vals.length {xs:List V}{us:List Value}(r:Vals xs us):xs.length=us.length:=Paired.length r
theorem Vals.get:∀{xs:List V} {us:List Value} {i:Nat} {x:V},Vals xs us->xs[i]? =some x->∃u,us[i]? =some u/\RelV x u
 |_,_,_,_,.nil,e=>by simp at e
 |_,_,0,_,.cons r _,e=>by simp at e;subst e;exact⟨_,rfl,r⟩
 |_,_,i+1,x,.cons _ t,e=>by
  obtain⟨u,h1,h2⟩:=Vals.get (i:=i) (x:=x) t (by simpa using e)
  exact⟨u,by simpa using h1,h2⟩
theorem Vals.set {x:V}{u:Value}(r:RelV x u):∀{xs:List V} {us:List Value} (i:Nat),Vals xs us->Vals (xs.set i x) (us.set i u)
 |_,_,_,.nil=> .nil
 |_,_,0,.cons _ t=> .cons r t
 |_,_,i+1,.cons q t=> .cons q (Vals.set r i t)
theorem Vals.append:∀{xs ys:List V} {us ws:List Value},Vals xs us->Vals ys ws->Vals (xs++ys) (us++ws)
 |_,_,_,_,.nil,s=>s
 |_,_,_,_,.cons r t,s=> .cons r (Vals.append t s)
theorem Vals.take:∀{xs:List V} {us:List Value} (n:Nat),Vals xs us->Vals (xs.take n) (us.take n)
 |_,_,0,_=> .nil
 |_,_,_+1,.nil=> .nil
 |_,_,n+1,.cons r t=> .cons r (Vals.take n t)
theorem Vals.drop:∀{xs:List V} {us:List Value} (n:Nat),Vals xs us->Vals (xs.drop n) (us.drop n)
 |_,_,0,r=>r
 |_,_,_+1,.nil=> .nil
 |_,_,n+1,.cons _ t=>Vals.drop n t
def RelO:Option V->Option Value->Prop
 |some v,some u=>RelV v u
 |none,none=>True
 |_,_=>False
def KV {κ:Type}:List (κ×V)->List (κ×Value)->Prop:=Paired fun(p:κ×V) (q:κ×Value)=>p.1=q.1/\RelV p.2 q.2
def kV:Key->V
 | .inl i=> .int i
 | .inr x=> .str x
inductive HO where
 /-- a list -/
 |lst (xs:List V)
 /-- a tuple (never changes) -/
 |tup (xs:List V)
 /-- a dict whose keys are ints and texts;one whose keys are tuples of ints and texts (the empty one is both) -/
 |dK (kvs:List (Key×V))|dT (kvs:List (List Key×V))
 /-- a set of ints: its members,its size -/
 |set (S:Int->Bool) (n:Nat)
 /-- an instance of the class at C,its dict at dx,its attributes -/
 |ins (C dx:Addr) (fs:List (Str×V))
 /-- the dict of the instance at x -/
 |own (x:Addr)
 /-- the dict of an exception -/
 |xd (fs:List (Str×V))
 /-- a bound method,f of x -/
 |met (f x:Addr)
 /-- a range object lo,lo+1,.. below hi -/
 |rng (lo hi:Int)
 /-- a thing that is known to the object (the script;a dict while a loop walks it):read,never written while it is so -/
 |frz (o:Obj) (u:HO)
 /-- a code object's table -/
 |tbl (ps:Array Value)
 /-- any other thing,by what is true of its one object (a def of one's own: SetO a S n:=HO.ext fun h=> ..) -/
 |ext (φ:Heap->Prop)
abbrev Hp:=Addr->Option HO
def upd (H:Hp)(a:Addr)(o:HO):Hp:=fun b=>if b=a then some o else H b
theorem qd {H:Hp}{a:Addr}{o:HO}:upd H a o a=some o:=by unfold upd;rw[if_pos rfl]
theorem qj {H:Hp}{a b:Addr}{o:HO}(h:b≠a):upd H a o b=H b:=by unfold upd;rw[if_neg h]
theorem q1Y {H:Hp}{a:Addr}{o u:HO}:upd (upd H a o) a u=upd H a u:=by
 funext b;unfold upd;split<;>rfl
theorem q2R {H:Hp}{a b:Addr}{o u:HO}(h:H a=some o)(h':H b=some u)(d:o≠u):a≠b:=by
 intro e;subst e;rw[h] at h';exact d (zH h')
theorem qu {H:Hp}{a b:Addr}{o:HO}(h:H a=some o)(h':H b=none):a≠b:=by
 intro e;subst e;rw[h] at h';cases h'
section
variable (P:Program)(w:World)
def q0l (H:Hp)(h:Heap)(a:Addr):HO->Prop
 | .lst xs=>xs.length<=sizeLine/\∃(its:List Value) (n:Nat),Vals xs its/\h.get? a=some {cls:= .type "list",data:= .seq its.toArray n}
 | .tup xs=>xs.length<=sizeLine/\∃its:List Value,Vals xs its/\IsTup h a its.toArray
 | .dK kvs=>kvs.length<=sizeLine/\(a==sysModules)=false/\∃vs,KV kvs vs/\h.DictOf (qX P w) a vs
 | .dT kvs=>kvs.length<=sizeLine/\(a==sysModules)=false/\∃xs:List (List Key×Addr×Value),
   Paired (fun(p:List Key×V) (q:List Key×Addr×Value)=>p.1=q.1/\H q.2.1=some (.tup (p.1.map kV))/\RelV p.2 q.2.2) kvs xs/\
   ∃o es ep,h.get? a=some o/\o.ExactDict/\o.data= .dict es ep/\es.toList=xs.map (entryOfKey (tupleKind (qX P w)))/\(xs.map (·.1)).Nodup
 | .set S n=>h.SetOf (intKind P w) a S n
 | .ins C dx fs=>H dx=some (.own a)/\fs.length<=1000/\dx≠a/\h.get? a=some (PySem.W.instObj C dx)/\
   ∃mA,h.Ns1 dx mA/\(∀f,RelO (fs.lookup f) (mA f))/\PySem.Within mA (fs.map (·.1))
 | .own _=>∃o,h.get? a=some o
 | .xd fs=>∃mA,h.Ns1 a mA/\∀f,RelO (fs.lookup f) (mA f)
 | .rng lo hi=>∃t u v,h.get? a=some {cls:= .type "range",data:= .fields #[.int lo t,.int hi u,.int 1 v]}
 | .frz o u=>h.get? a=some o/\q0l H h a u
 | .tbl ps=>h.get? a=some {cls:= .none,data:= .fields ps}
 | .met f x=>h.get? a=some (PySem.W.methodObj (.ref f) (.ref x))
 | .ext φ=>φ h/\(∃o,h.get? a=some o)/\∀h1 h2:Heap,φ h1->(∀o,h1.get? a=some o->h2.get? a=some o)->φ h2
def HOk (H:Hp)(h:Heap):Prop:=∀a o,H a=some o->q0l P w H h a o
end
section
variable {P:Program}{w:World}{H H':Hp}{h h':Heap}{a:Addr}{o:HO}
theorem q0l.lt (x:q0l P w H h a o):a<h.objs.size:=by
 cases o with
 |lst xs=>obtain⟨_,_,_,_,e⟩:=x;exact zt e
 |tup xs=>obtain⟨_,_,_,p⟩:=x;exact p.lt
 |dK kvs=>obtain⟨_,_,_,_,o,_,_,e,_⟩:=x;exact zt e
 |dT kvs=>obtain⟨_,_,_,_,o,_,_,e,_⟩:=x;exact zt e
 |set S n=>obtain⟨o,_,_,_,e,_⟩:=x;exact zt e
 |ins C dx fs=>obtain⟨_,_,_,e,_⟩:=x;exact zt e
 |own y=>obtain⟨_,e⟩:=x;exact zt e
 |xd fs=>obtain⟨_,⟨_,_,_,e,_⟩,_⟩:=x;exact zt e
 |rng lo hi=>obtain⟨_,_,_,e⟩:=x;exact zt e
 |frz ob u=>obtain⟨e,_⟩:=x;exact zt e
 |tbl ps=>exact zt (show h.get? a=some _ from x)
 |met f y=>exact zt (show h.get? a=some _ from x)
 |ext φ=>obtain⟨_,⟨_,e⟩,_⟩:=x;exact zt e
theorem Paired.mapP {α β:Type}{F G:α->β->Prop}:∀{l₁:List α} {l₂:List β},Paired F l₁ l₂->(∀a b,F a b->G a b)->Paired G l₁ l₂
 |_,_,.nil,_=> .nil
 |_,_,.cons r t,f=> .cons (f _ _ r) (Paired.mapP t f)
theorem q0l.stay (x:q0l P w H h a o)(k:∀b u,(b=a\/H b=some (.own a))->h.get? b=some u->h'.get? b=some u)
  (ho:∀b,H b=some (.own a)->H' b=some (.own a))(ht:∀b xs,H b=some (.tup xs)->H' b=some (.tup xs)):q0l P w H' h' a o:=by
 induction o with
 |lst xs=>obtain⟨z,its,n,r,e⟩:=x;exact⟨z,its,n,r,k _ _ (.inl rfl) e⟩
 |tup xs=>obtain⟨z,its,r,ob,e,c⟩:=x;exact⟨z,its,r,ob,k _ _ (.inl rfl) e,c⟩
 |dK kvs=>obtain⟨z,y,vs,r,ob,es,ep,e,c⟩:=x;exact⟨z,y,vs,r,ob,es,ep,k _ _ (.inl rfl) e,c⟩
 |dT kvs=>
  obtain⟨z,y,xs,r,ob,es,ep,e,c⟩:=x
  exact⟨z,y,xs,Paired.mapP r fun p q z=>⟨z.1,ht _ _ z.2.1,z.2.2⟩,ob,es,ep,k _ _ (.inl rfl) e,c⟩
 |set S n=>obtain⟨ob,es,ep,t,e,c⟩:=x;exact⟨ob,es,ep,t,k _ _ (.inl rfl) e,c⟩
 |ins C dx fs=>
  obtain⟨d,z,ne,e,mA,⟨od,es,ep,e2,c⟩,r⟩:=x
  exact⟨ho _ d,z,ne,k _ _ (.inl rfl) e,mA,⟨od,es,ep,k _ _ (.inr d) e2,c⟩,r⟩
 |own y=>obtain⟨ob,e⟩:=x;exact⟨ob,k _ _ (.inl rfl) e⟩
 |xd fs=>obtain⟨mA,⟨od,es,ep,e,c⟩,r⟩:=x;exact⟨mA,⟨od,es,ep,k _ _ (.inl rfl) e,c⟩,r⟩
 |rng lo hi=>obtain⟨t,u,v,e⟩:=x;exact⟨t,u,v,k _ _ (.inl rfl) e⟩
 |frz ob u ih=>obtain⟨e,q⟩:=x;exact⟨k _ _ (.inl rfl) e,ih q⟩
 |tbl ps=>
  have e:h.get? a=some {cls:= .none,data:= .fields ps}:=x
  show h'.get? a=some {cls:= .none,data:= .fields ps}
  exact k a _ (.inl rfl) e
 |met f y=>
  have e:h.get? a=some (PySem.W.methodObj (.ref f) (.ref y)):=x
  show h'.get? a=some (PySem.W.methodObj (.ref f) (.ref y))
  exact k a _ (.inl rfl) e
 |ext φ=>obtain⟨p,⟨o,e⟩,st⟩:=x;exact⟨st _ _ p fun o q=>k _ _ (.inl rfl) q,⟨o,k _ _ (.inl rfl) e⟩,st⟩
theorem HOk.lt (x:HOk P w H h)(e:H a=some o):a<h.objs.size:=(x a o e).lt
theorem HOk.fresh (x:HOk P w H h)(e:h.objs.size<=a):H a=none:=by
 cases q:H a with
 |none=>rfl
 |some u=>exact absurd (zT (x.lt q) e) (zbs _)
theorem HOk.kept (x:HOk P w H h)(k:∀b u,h.get? b=some u->h'.get? b=some u):HOk P w H h':=fun a o e=>
 (x a o e).stay (fun b u _ q=>k b u q) (fun _ q=>q) fun _ _ q=>q
theorem HOk.laid (x:HOk P w H h)(k:∀b u,h.get? b=some u->h'.get? b=some u)(hp:h.objs.size<=a)(new:q0l P w (upd H a o) h' a o):HOk P w (upd H a o) h':=fun b u e=>by
 have hn:=x.fresh hp
 by_cases hb:b=a
 ·subst hb;rw[qd] at e;cases e;exact new
 ·rw [qj hb] at e
  exact(x b u e).stay (fun c v _ q=>k c v q) (fun c q=>by rw[qj (qu q hn)];exact q) fun c xs q=>by rw[qj (qu q hn)];exact q
end
def Rd (H:Hp)(a:Addr)(u:HO):Prop:=H a=some u\/∃o,H a=some (.frz o u)
theorem Rd.ok {P:Program}{w:World}{H:Hp}{h:Heap}{a:Addr}{u:HO}(r:Rd H a u)(x:HOk P w H h):q0l P w H h a u:=by
 rcases r with r|⟨o,r⟩
 ·exact x a u r
 ·obtain ⟨_,q⟩:=x a _ r
  exact q
def Mut:Option HO->Prop
 |some (.lst _)=>True
 |some (.dK _)=>True
 |some (.dT _)=>True
 |some (.set _ _)=>True
 |some (.ins _ _ _)=>True
 |some (.ext _)=>True
 |_=>False
section
variable {P:Program}{w:World}{H:Hp}{h h':Heap}{x e:Addr}{o':HO}
theorem HOk.write (ok:HOk P w H h)(mu:Mut (H x))(he:e=x\/H e=some (.own x))(k:∀b u,b≠e->h.get? b=some u->h'.get? b=some u)(heo:∃u,h'.get? e=some u)
  (new:q0l P w (upd H x o') h' x o'):HOk P w (upd H x o') h':=fun b u q=>by
 have nown:∀c y,H c=some (.own y)->c≠x:=fun c y r z=>by subst z;rw[r] at mu;exact mu
 have ntup:∀c xs,H c=some (.tup xs)->c≠x:=fun c xs r z=>by subst z;rw[r] at mu;exact mu
 by_cases hb:b=x
 ·subst hb;rw[qd] at q;cases q;exact new
 ·rw [qj hb] at q
  by_cases hbe:b=e
  ·have q':H b=some (.own x):=by
    rcases he with z|z
    ·exact absurd (hbe.trans z) hb
    ·rw [hbe];exact z
   rw[q] at q';cases q'
   obtain⟨v,hv⟩:=heo
   exact⟨v,by rw[hbe];exact hv⟩
  ·refine (ok b u q).stay (fun c v hc r=>k c v ?_ r) (fun c r=>by rw[qj (nown c b r)];exact r) fun c xs r=>by rw[qj (ntup c xs r)];exact r
   rcases hc with rfl|hc
   ·exact hbe
   ·rintro rfl
    rcases he with z|z
    ·exact nown c b hc z
    ·rw [hc] at z;cases z;exact hb rfl
end
structure Un (fs ex:List Addr)(H H':Hp)(h h':Heap):Prop where
 keep:∀b o,h.get? b=some o->H b=none->b∉fs->b∉ex->h'.get? b=some o
 slot:∀b o,h.get? b=some o->H b=none->b∈fs->b∉ex->∃sl,h'.get? b=some {o with slots:=sl}
 free:∀b o,h.get? b=some o->H b=none->b∉ex->H' b=none
 there:∀b o,h.get? b=some o->b∉ex->∃o',h'.get? b=some o'
 tups:∀b xs,H b=some (.tup xs)->H' b=some (.tup xs)
 frzs:∀b o u,H b=some (.frz o u)->H' b=some (.frz o u)
 tbls:∀b ps,H b=some (.tbl ps)->∃more,H' b=some (.tbl (ps++more))
section
variable {fs fs' ex ex':List Addr}{H H1 H2:Hp}{h h1 h2 h':Heap}{a x e:Addr}{o:HO}
theorem Un.any (u:Un fs ex H H1 h h1){b:Addr}{ob:Obj}(q:h.get? b=some ob)(n:H b=none)(hx:b∉ex):∃sl,h1.get? b=some {ob with slots:=sl}:=by
 by_cases hb:b∈fs
 ·exact u.slot b ob q n hb hx
 ·exact ⟨ob.slots,u.keep b ob q n hb hx⟩
theorem Un.kept (k:∀b u,h.get? b=some u->h'.get? b=some u):Un fs ex H H h h':=
 ⟨fun b ob q _ _ _=>k b ob q,fun b ob q _ _ _=>⟨ob.slots,k b ob q⟩,fun _ _ _ n _=>n,fun b ob q _=>⟨ob,k b ob q⟩,fun _ _ q=>q,fun _ _ _ q=>q,fun _ ps q=>⟨#[],by rw[q];simp⟩⟩
theorem Un.refl:Un fs ex H H h h:=Un.kept fun _ _ q=>q
theorem Un.laid (k:∀b u,h.get? b=some u->h'.get? b=some u)(hp:h.objs.size<=a)(hn:H a=none):Un fs ex H (upd H a o) h h' where
 keep:=fun b u q _ _ _=>k b u q
 slot:=fun b u q _ _ _=>⟨u.slots,k b u q⟩
 free:=fun b u q n _=>by rw[qj (zC (zT (zt q) hp))];exact n
 there:=fun b u q _=>⟨u,k b u q⟩
 tups:=fun b xs q=>by rw[qj (qu q hn)];exact q
 frzs:=fun b u xs q=>by rw[qj (qu q hn)];exact q
 tbls:=fun b ps q=>⟨#[],by rw[qj (qu q hn),q];simp⟩
theorem Un.write (mu:Mut (H x))(he:e=x\/H e=some (.own x))(k:∀b u,b≠e->h.get? b=some u->h'.get? b=some u)(heo:∃u,h'.get? e=some u):Un fs ex H (upd H x o) h h':=by
 have hx:∀b,H b=none->b≠x:=fun b n z=>by subst z;rw[n] at mu;exact mu
 have hb:∀b,H b=none->b≠e:=fun b n z=>by
  subst z
  rcases he with r|r
  ·exact hx b n r
  ·rw [n] at r;cases r
 have hm:∀b u,H b=some u->¬Mut (some u)->b≠x:=fun b u q nm z=>by subst z;rw[q] at mu;exact nm mu
 refine⟨fun b u q n _ _=>k b u (hb b n) q,fun b u q n _ _=>⟨u.slots,k b u (hb b n) q⟩,fun b u q n _=>by rw[qj (hx b n)];exact n,fun b u q _=>?_,
  fun b xs q=>by rw[qj (hm b _ q fun z=>z)];exact q,fun b u xs q=>by rw[qj (hm b _ q fun z=>z)];exact q,fun b ps q=>⟨#[],by rw[qj (hm b _ q fun z=>z),q];simp⟩⟩
 by_cases hbe:b=e
 ·subst hbe;exact heo
 ·exact ⟨u,k b u hbe q⟩
end
def trk (h:Heap)(H:Hp):List Addr:=(List.range h.objs.size).filter fun a=>(H a).isSome
def hidT (h:Heap)(H:Hp):Heap:=PySem.W.hideAll h (trk h H)
theorem q9e (h:Heap)(H:Hp):(hidT h H).objs.size=h.objs.size:=PySem.W.hideAll_size _ _
theorem qaW {h:Heap}{H:Hp}{b:Addr}{o:Obj}(e:h.get? b=some o)(n:H b=none):(hidT h H).get? b=some o:=
 zaM _ e fun hm=>by
  have q:(H b).isSome=true:=(zbt.mp hm).2
  rw[n] at q;simp at q
theorem qcF {h:Heap}{H:Hp}{b:Addr}{o:Obj}(e:(hidT h H).get? b=some o):h.get? b=some o/\H b=none:=by
 have e':h.get? b=some o:=zbQ (trk h H) e
 refine⟨e',?_⟩
 cases q:H b with
 |none=>rfl
 |some x=>
  have hm:b∈trk h H:=zbt.mpr ⟨zcU.mpr (zt e'),by simp[q]⟩
  have z:(hidT h H).get? b=none:=zaY (trk h H) hm
  rw[z] at e;cases e
def qdh (g h:Heap)(L:Addr):List (Addr×Obj):=(List.range h.objs.size).filterMap fun a=>if a=L\/(g.get? a).isSome=true then none else(h.get? a).map fun o=>(a,o)
def rest (g h:Heap)(L d:Addr):List (Addr×Obj):=(qdh g h L).filter fun p=>decide (p.1≠d)
structure Mod (K:W.Frag)(mg:Str->Option Value)(base:Heap):Prop where
 kin:K.In base
 glob:base.Ns mainGlobals mg
 blt:∃mb,base.Ns builtinsNs mb/\∀x:Str,x≠"__name__"->mb x=bootBuiltins x
 nolimit:base.NoLimit
structure Cx where
 prog:Program
 w:World
 K:W.Frag
 mg:Str->Option Value
 base:Heap
 A:Around
 N:List Str
 s₀:Shared
 H₀:Hp
 env:Env
 outer:List Env
 stack:List Env
 ex:List Addr
 fn:Str->Bool
 calm:Bool
 pn:List (Addr×Obj)
 xe:Value->Shared->Prop
def frs (l:List Env):List Addr:=l.filterMap (·.frame)
abbrev Cx.fs (X:Cx):List Addr:=frs X.outer
def Vis (sc:Scope)(x:Str):Prop:=sc.names.lookup x=some .local\/sc.names.lookup x=some .cell\/sc.names.lookup x=some .free
def Loc (sc:Scope)(x:Str):Prop:=sc.names.lookup x=some .local\/sc.names.lookup x=some .cell
def Look (env:Env)(h:Heap)(m:Str->Option Value)(x:Str)(u:Value):Prop:=
 (env.kindOf x=some .local/\m x=some u)\/((env.kindOf x=some .cell\/env.kindOf x=some .free)/\∃c,env.cells.lookup x=some c/\h.IsCell c (some u))
structure Cx.Ok (X:Cx):Prop where
 mod:Mod X.K X.mg X.base
 kind:X.env.scope.kind= .function
 glob:X.env.globals=mainGlobals
 blt:X.env.builtins=builtinsNs
 above:X.s₀.heap.objs.size<=X.env.locals
 inj:∀x y c,X.env.cells.lookup x=some c->X.env.cells.lookup y=some c->x=y
 has:∀x,(X.env.kindOf x=some .cell\/X.env.kindOf x=some .free)->∃c,X.env.cells.lookup x=some c
 cab:∀x c,X.fn x=true->X.env.cells.lookup x=some c->X.s₀.heap.objs.size<=c
 hd:X.calm=true->X.A.handled=none
 frames:X.A.frames=some X.stack
 stk:X.stack=X.outer\/(X.stack=X.env::X.outer/\X.env.frame=some X.env.locals)
 exf:∀b∈X.ex,b≠X.env.locals/\∀x c,X.env.cells.lookup x=some c->c≠b
 bs:∀b o,X.base.get? b=some o->X.s₀.heap.get? b=some o/\X.H₀ b=none
 bsz:X.base.objs.size<=X.s₀.heap.objs.size
 noex:∀b o,X.base.get? b=some o->b∉X.ex
 exfs:∀b∈X.ex,b∉X.fs
 funs:X.s₀.heap.FunFrames X.base X.outer
 frf:∀b∈X.fs,X.H₀ b=none
structure Inv (X:Cx)(pins:List (Addr×Obj))(σ:List (Option V))(H:Hp)(s:Shared):Prop where
 ok:X.Ok
 os:s.os=X.s₀.os
 bare:AllBare s.gens
 base:Un X.fs X.ex X.H₀ H X.s₀.heap s.heap
 loc:∃m,s.heap.Ns X.env.locals m/\∀(i:Nat) (x:Str) (v:V),X.N[i]? =some x->σ[i]? =some (some v)->Vis X.env.scope x->∃u,RelV v u/\Look X.env s.heap m x u
 cell:∀x c,X.env.cells.lookup x=some c->∃v,s.heap.IsCell c v
 free:H X.env.locals=none
 freeC:∀x c,X.env.cells.lookup x=some c->H c=none
 pin:∀p∈X.pn++pins,s.heap.get? p.1=some p.2/\H p.1=none/\p.1≠X.env.locals/\p.1∉X.fs/\∀v,p.2.data≠ .cell v
 hok:HOk X.prog X.w H s.heap
 len:σ.length=X.N.length
section
variable {X:Cx}{pins:List (Addr×Obj)}{σ:List (Option V)}{H H':Hp}{s:Shared}{h':Heap}
theorem Cx.Ok.nofr (ok:X.Ok){b:Addr}{o:Obj}(e:X.base.get? b=some o):b∉X.fs:=fun hb=>by
 have:=(ok.funs.mem hb).1
 rw[e] at this;cases this
theorem Inv.bs (I:Inv X pins σ H s):∀b o,X.base.get? b=some o->s.heap.get? b=some o/\H b=none:=fun b o e=>
 ⟨I.base.keep b o (I.ok.bs b o e).1 (I.ok.bs b o e).2 (I.ok.nofr e) (I.ok.noex b o e),I.base.free b o (I.ok.bs b o e).1 (I.ok.bs b o e).2 (I.ok.noex b o e)⟩
theorem Inv.bk (I:Inv X pins σ H s):∀b o,X.base.get? b=some o->s.heap.get? b=some o:=fun b o e=>(I.bs b o e).1
theorem Inv.mod (I:Inv X pins σ H s):Mod X.K X.mg X.base:=I.ok.mod
theorem Inv.kIn (I:Inv X pins σ H s):X.K.In s.heap:=I.ok.mod.kin.keeps I.bk
theorem Inv.lt (I:Inv X pins σ H s):X.env.locals<s.heap.objs.size:=let ⟨_,hn,_⟩:=I.loc;hn.lt
theorem Inv.sz (I:Inv X pins σ H s):X.s₀.heap.objs.size<=s.heap.objs.size:=zaf I.ok.above (zca I.lt)
theorem Inv.nofs (I:Inv X pins σ H s){a:Addr}(h:s.heap.objs.size<=a):a∉X.fs:=fun hb=>by
 obtain⟨_,o,ho,_⟩:=I.ok.funs.mem hb
 exact absurd (zT (zt ho) (zaf I.sz h)) (zbs _)
theorem Inv.cne (I:Inv X pins σ H s):∀x c,X.env.cells.lookup x=some c->c≠X.env.locals:=fun x c e z=>by
 obtain⟨v,o,ho,hd⟩:=I.cell x c e
 obtain⟨m,⟨o',es,ep,ho',hd',_⟩,_⟩:=I.loc
 rw[z,ho'] at ho;cases ho;rw[hd'] at hd;cases hd
theorem Inv.funs (I:Inv X pins σ H s):s.heap.FunFrames X.base X.outer:=by
 have all:∀(l:List Env),(∀b∈frs l,b∈X.fs)->X.s₀.heap.FunFrames X.base l->s.heap.FunFrames X.base l:=by
  intro l
  induction l with
  |nil=>intro _ _;trivial
  |cons env r ih=>
   intro hs hl
   obtain⟨hk,⟨L,o,hf,hn,ho,hd⟩,hr⟩:=hl
   have hL:L∈X.fs:=hs L (by unfold frs;rw[List.filterMap_cons,hf];exact zae)
   obtain⟨sl,e⟩:=I.base.slot L o ho (I.ok.frf L hL) hL fun z=>I.ok.exfs L z hL
   exact⟨hk,⟨L,_,hf,hn,e,hd⟩,ih (fun b hb=>hs b (by unfold frs;rw[List.filterMap_cons,hf];exact zw _ hb)) hr⟩
 exact all X.outer (fun _ hb=>hb) I.ok.funs
theorem Inv.stack (I:Inv X pins σ H s):s.heap.FunFrames X.base X.stack:=by
 rcases I.ok.stk with e|⟨e,hf⟩
 ·rw [e];exact I.funs
 ·rw [e]
  obtain⟨m,hn,_⟩:=I.loc
  refine .cons (by rw[I.ok.kind];decide) hf hn ?_ I.funs
  exact Heap.get?_none_of_le (zaf I.ok.bsz I.ok.above)
theorem Inv.stkSub (I:Inv X pins σ H s):∀b∈frs X.stack,b∈X.env.locals::X.fs:=fun b hb=>by
 rcases I.ok.stk with e|⟨e,hf⟩
 ·rw [e] at hb;exact zw _ hb
 ·rw [e] at hb
  unfold frs at hb
  rw[List.filterMap_cons,hf] at hb
  exact hb
theorem Inv.stkFree (I:Inv X pins σ H s):∀b∈frs X.stack,H b=none:=fun b hb=>by
 rcases zx.mp (I.stkSub b hb) with e|hb
 ·rw [e];exact I.free
 ·obtain ⟨_,o,ho,_⟩:=I.ok.funs.mem hb
  exact I.base.free b o ho (I.ok.frf b hb) fun z=>I.ok.exfs b z hb
theorem Inv.step {g':Array GenState}{t':Nat}{d':Drawn}{ch:List Addr}(I:Inv X pins σ H s)
  (hch:∀b∈ch,(b∈X.ex\/X.s₀.heap.objs.size<=b)/\b≠X.env.locals/\(∀x c,X.env.cells.lookup x=some c->c≠b)/\∀p∈X.pn++pins,p.1≠b)
  (keep:∀b o,b≠X.env.locals->b∉X.fs->b∉ch->s.heap.get? b=some o->H b=none->h'.get? b=some o)
  (slot:∀b o,b≠X.env.locals->b∈X.fs->b∉ch->s.heap.get? b=some o->H b=none->∃sl,h'.get? b=some {o with slots:=sl})(free:∀b o,b∉ch->s.heap.get? b=some o->H b=none->H' b=none)
  (there:∀b o,b∉ch->s.heap.get? b=some o->∃o',h'.get? b=some o')
  (tups:∀b xs,H b=some (.tup xs)->H' b=some (.tup xs))(frzs:∀b o u,H b=some (.frz o u)->H' b=some (.frz o u))(tbls:∀b ps,H b=some (.tbl ps)->∃more,H' b=some (.tbl (ps++more)))
  (ns:∀m,s.heap.Ns X.env.locals m->h'.Ns X.env.locals m)(hok:HOk X.prog X.w H' h')(hg:AllBare g'):
  Inv X pins σ H' {s with heap:=h',gens:=g',drawn:=d',toks:=t'}:=by
 have neL:∀b o,X.s₀.heap.get? b=some o->b≠X.env.locals:=fun b o e=>zC (zT (zt e) I.ok.above)
 have neC:∀b o,X.s₀.heap.get? b=some o->b∉X.ex->b∉ch:=fun b o e hx hb=>by
  rcases(hch b hb).1 with z|z
  ·exact hx z
  ·exact absurd (zT (zt e) z) (zbs _)
 have cellK:∀x c,X.env.cells.lookup x=some c->∀v,s.heap.IsCell c v->h'.IsCell c v:=fun x c e v ⟨o,ho,hd⟩=>by
  have nch:c∉ch:=fun z=>(hch c z).2.2.1 x c e rfl
  by_cases hc:c∈X.fs
  ·obtain ⟨sl,q⟩:=slot c o (I.cne x c e) hc nch ho (I.freeC x c e)
   exact⟨_,q,hd⟩
  ·exact ⟨o,keep c o (I.cne x c e) hc nch ho (I.freeC x c e),hd⟩
 refine⟨I.ok,I.os,hg,⟨fun b o e n hb hx=>?_,fun b o e n hb hx=>?_,fun b o e n hx=>?_,fun b o e hx=>?_,fun b xs e=>tups b xs (I.base.tups b xs e),fun b o xs e=>frzs b o xs (I.base.frzs b o xs e),fun b ps e=>?_⟩,?_,fun x c e=>?_,?_,fun x c e=>?_,fun p hp=>?_,hok,I.len⟩
 ·exact keep b o (neL b o e) hb (neC b o e hx) (I.base.keep b o e n hb hx) (I.base.free b o e n hx)
 ·obtain ⟨sl,e1⟩:=I.base.slot b o e n hb hx
  obtain⟨sl',e2⟩:=slot b _ (neL b o e) hb (neC b o e hx) e1 (I.base.free b o e n hx)
  exact⟨sl',e2⟩
 ·obtain ⟨o',e1⟩:=I.base.there b o e hx
  exact free b o' (neC b o e hx) e1 (I.base.free b o e n hx)
 ·obtain ⟨o',e1⟩:=I.base.there b o e hx
  exact there b o' (neC b o e hx) e1
 ·obtain ⟨m1,e1⟩:=I.base.tbls b ps e
  obtain⟨m2,e2⟩:=tbls b _ e1
  exact⟨m1++m2,by rw[e2,Array.append_assoc]⟩
 ·obtain ⟨m,hn,hl⟩:=I.loc
  refine⟨m,ns m hn,fun i x v e1 e2 e3=>?_⟩
  obtain⟨u,r,l⟩:=hl i x v e1 e2 e3
  refine⟨u,r,?_⟩
  rcases l with l|⟨k,c,e,z⟩
  ·exact .inl l
  ·exact .inr ⟨k,c,e,cellK x c e _ z⟩
 ·obtain ⟨v,z⟩:=I.cell x c e
  exact⟨v,cellK x c e v z⟩
 ·obtain ⟨m,⟨o,_,_,ho,_⟩,_⟩:=I.loc
  exact free _ o (fun z=>(hch _ z).2.1 rfl) ho I.free
 ·obtain ⟨v,o,ho,hd⟩:=I.cell x c e
  exact free c o (fun z=>(hch c z).2.2.1 x c e rfl) ho (I.freeC x c e)
 ·obtain ⟨e,n,ne,nf,d⟩:=I.pin p hp
  have nch:p.1∉ch:=fun z=>(hch p.1 z).2.2.2 p hp rfl
  exact⟨keep p.1 p.2 ne nf nch e n,free p.1 p.2 nch e n,ne,nf,d⟩
theorem Inv.un {t':Nat}(I:Inv X pins σ H s)(u:Un X.fs [] H H' s.heap h')(hok:HOk X.prog X.w H' h'):Inv X pins σ H' {s with heap:=h',toks:=t'}:=by
 obtain⟨m,⟨o,es,ep,ho,r⟩,_⟩:=id I.loc
 obtain⟨sl,hL⟩:=u.any ho I.free (by simp)
 exact I.step (g':=s.gens) (d':=s.drawn) (ch:=[]) (fun _ z=>nomatch z) (fun b o _ hb _ e n=>u.keep b o e n hb (by simp)) (fun b o _ hb _ e n=>u.slot b o e n hb (by simp)) (fun b o _ e n=>u.free b o e n (by simp)) (fun b o _ e=>u.there b o e (by simp)) u.tups u.frzs u.tbls (fun m' hm=>by
  obtain⟨o',es',ep',ho',r'⟩:=hm
  rw[ho] at ho';cases ho'
  exact⟨_,es',ep',hL,r'⟩) hok I.bare
theorem Inv.call {g':Array GenState}{t':Nat}{d':Drawn}{ch:List Addr}(I:Inv X pins σ H s)(u:Un (frs X.stack) ch H H' s.heap h')(hok:HOk X.prog X.w H' h')(hg:AllBare g')
  (hch:∀b∈ch,(b∈X.ex\/X.s₀.heap.objs.size<=b)/\b≠X.env.locals/\(∀x c,X.env.cells.lookup x=some c->c≠b)/\∀p∈X.pn++pins,p.1≠b):
  Inv X pins σ H' {s with heap:=h',gens:=g',drawn:=d',toks:=t'}:=by
 obtain⟨m,⟨o,es,ep,ho,r⟩,_⟩:=id I.loc
 obtain⟨sl,hL⟩:=u.any ho I.free fun z=>(hch _ z).2.1 rfl
 exact I.step (ch:=ch) hch (fun b o hL hb hc e n=>u.keep b o e n (fun z=>(zx.mp (I.stkSub b z)).elim hL hb) hc) (fun b o _ _ hc e n=>u.any e n hc) (fun b o hc e n=>u.free b o e n hc) (fun b o hc e=>u.there b o e hc) u.tups u.frzs u.tbls (fun m' hm=>by
  obtain⟨o',es',ep',ho',r'⟩:=hm
  rw[ho] at ho';cases ho'
  exact⟨_,es',ep',hL,r'⟩) hok hg
theorem Inv.turned {t':Nat}{it:Addr}(I:Inv X pins σ H s)(k:∀b o,b≠it->s.heap.get? b=some o->h'.get? b=some o)(hn:H it=none)(hL:it≠X.env.locals)
  (h1:it∈X.ex\/X.s₀.heap.objs.size<=it)(h2:∀x c,X.env.cells.lookup x=some c->c≠it)(h3:∀p∈X.pn++pins,p.1≠it):Inv X pins σ H {s with heap:=h',toks:=t'}:=by
 have nit:∀b u,H b=some u->b≠it:=fun b u e z=>by rw[z,hn] at e;cases e
 refine I.step (g':=s.gens) (d':=s.drawn) (ch:=[it]) (fun b hb=>?_) (fun b o _ _ hc e _=>k b o (fun z=>hc (by simp[z])) e) (fun b o _ _ hc e _=>⟨o.slots,k b o (fun z=>hc (by simp[z])) e⟩) (fun _ _ _ _ n=>n)
  (fun b o hc e=>⟨o,k b o (fun z=>hc (by simp[z])) e⟩) (fun _ _ e=>e) (fun _ _ _ e=>e) (fun b ps e=>⟨#[],by rw[e];simp⟩) (fun m hm=>?_) (fun b u e=>?_) I.bare
 ·have e:b=it:=by simpa using hb
  subst e
  exact⟨h1,hL,h2,h3⟩
 ·obtain ⟨o,es,ep,ho,r⟩:=hm
  exact⟨o,es,ep,k _ o (Ne.symm hL) ho,r⟩
 ·refine (I.hok b u e).stay (fun c v hc q=>k c v ?_ q) (fun _ q=>q) fun _ _ q=>q
  rcases hc with z|z
  ·rw [z];exact nit b u e
  ·exact nit c _ z
theorem Inv.tok (I:Inv X pins σ H s)(t:Nat):Inv X pins σ H {s with toks:=t}:=I.un (h':=s.heap) (t':=t) Un.refl I.hok
theorem Inv.kept {t':Nat}(I:Inv X pins σ H s)(k:∀b u,s.heap.get? b=some u->h'.get? b=some u):Inv X pins σ H {s with heap:=h',toks:=t'}:=I.un (Un.kept k) (I.hok.kept k)
theorem Inv.laid {a:Addr}{o:HO}{t':Nat}(I:Inv X pins σ H s)(k:∀b u,s.heap.get? b=some u->h'.get? b=some u)(hp:s.heap.objs.size<=a)(new:q0l X.prog X.w (upd H a o) h' a o):
  Inv X pins σ (upd H a o) {s with heap:=h',toks:=t'}:=I.un (Un.laid k hp (I.hok.fresh hp)) (I.hok.laid k hp new)
theorem Inv.write {x e:Addr}{o:HO}{t':Nat}(I:Inv X pins σ H s)(mu:Mut (H x))(he:e=x\/H e=some (.own x))(k:∀b u,b≠e->s.heap.get? b=some u->h'.get? b=some u)(heo:∃u,h'.get? e=some u)
  (new:q0l X.prog X.w (upd H x o) h' x o):Inv X pins σ (upd H x o) {s with heap:=h',toks:=t'}:=I.un (Un.write mu he k heo) (I.hok.write mu he k heo new)
theorem Inv.pins_of {pins':List (Addr×Obj)}(I:Inv X pins σ H s)(h:∀p∈pins',s.heap.get? p.1=some p.2/\H p.1=none/\p.1≠X.env.locals/\p.1∉X.fs/\∀v,p.2.data≠ .cell v):Inv X pins' σ H s:=
 ⟨I.ok,I.os,I.bare,I.base,I.loc,I.cell,I.free,I.freeC,fun p hp=>(zr.mp hp).elim (fun z=>I.pin p (zY _ z)) (h p),I.hok,I.len⟩
theorem q75 {N:List Str}(hN:N.Nodup){i j:Nat}{x:Str}(a:N[i]? =some x)(b:N[j]? =some x):i=j:=by
 obtain⟨h1,e1⟩:=yA a
 obtain⟨h2,e2⟩:=yA b
 exact(zcL hN).mp (e1.trans e2.symm)
theorem q5s {M:Model}{A:Around}{E:Value->Shared->Prop}{i:Nat}{x:Str}{v:V}{u:Value}{Q:Unit->Shared->Prop}(I:Inv X pins σ H s)(hN:X.N.Nodup)(hi:X.N[i]? =some x)(hx:Loc X.env.scope x)(r:RelV v u)
  (h:∀s',Inv X pins (σ.set i (some v)) H s'->(∃a,Heap.SameBut a s.heap s'.heap/\(a=X.env.locals\/X.env.cells.lookup x=some a))->Q () s')(hf:X.fn x=true\/X.env.scope.names.lookup x=some .local:=by first|exact .inl rfl|exact .inr rfl|assumption):wpAny M A (storeName X.env x u) Q E s:=by
 obtain⟨m,hn,hl⟩:=id I.loc
 have hcls:(X.env.scope.kind== .class||(X.env.scope.kind== .module&&X.env.locals != X.env.globals))=false:=by rw[I.ok.kind];rfl
 have hiσ:i<σ.length:=by rw[I.len];exact(yA hi).1
 have cne:=I.cne
 have tracked:∀{a:Addr} {h':Heap},(∃o,s.heap.get? a=some o/\H a=none)->Heap.SameBut a s.heap h'->HOk X.prog X.w H h':=fun {a h'} ha hs b ob e=>by
  obtain⟨_,_,hfree⟩:=ha
  refine(I.hok b ob e).stay (fun c w' hc q=>(hs.2 c ?_).trans q) (fun _ q=>q) fun _ _ q=>q
  rintro rfl
  rcases hc with rfl|hc
  ·rw [hfree] at e;cases e
  ·rw [hfree] at hc;cases hc
 rcases hx with hk|hk
 ·refine wpAny_storeName_local hk hn (fun h' hn' hs=>?_) hcls
  obtain⟨oL,_,_,hoL,_⟩:=id hn
  refine h _ ⟨I.ok,I.os,I.bare,⟨fun b o e n hb hx=>?_,fun b o e n hb hx=>?_,I.base.free,fun b o e hx=>?_,I.base.tups,I.base.frzs,I.base.tbls⟩,⟨_,hn',fun j y v' e1 e2 e3=>?_⟩,fun y c e=>?_,I.free,I.freeC,fun p hp=>?_,tracked ⟨oL,hoL,I.free⟩ hs,by simpa using I.len⟩ ⟨_,hs,.inl rfl⟩
  ·exact (hs.2 b (zC (zT (zt e) I.ok.above))).trans (I.base.keep b o e n hb hx)
  ·obtain ⟨sl,e1⟩:=I.base.slot b o e n hb hx
   exact⟨sl,(hs.2 b (zC (zT (zt e) I.ok.above))).trans e1⟩
  ·obtain ⟨o',e1⟩:=I.base.there b o e hx
   exact⟨o',(hs.2 b (zC (zT (zt e) I.ok.above))).trans e1⟩
  ·by_cases hj:j=i
   ·subst hj
    rw[hi] at e1;cases e1
    rw[List.getElem?_set_self hiσ] at e2
    cases e2
    exact⟨u,r,.inl ⟨hk,by simp⟩⟩
   ·rw [List.getElem?_set_ne (Ne.symm hj)] at e2
    obtain⟨u',r',q⟩:=hl j y v' e1 e2 e3
    refine⟨u',r',?_⟩
    rcases q with⟨k,e⟩|⟨k,c,e,z⟩
    ·refine .inl ⟨k,?_⟩
     have:y≠x:=fun e=>hj (q75 hN e1 (e▸hi))
     simp[this,e]
    ·exact .inr ⟨k,c,e,z.sameBut hs (cne y c e)⟩
  ·obtain ⟨w',z⟩:=I.cell y c e
   exact⟨w',z.sameBut hs (cne y c e)⟩
  ·obtain ⟨e,n,ne,nf,d⟩:=I.pin p hp
   exact⟨(hs.2 p.1 ne).trans e,n,ne,nf,d⟩
 ·have hfn:X.fn x=true:=by
   rcases hf with z|z
   ·exact z
   ·rw [z] at hk;cases hk
  obtain⟨c,hc⟩:=I.ok.has x (.inl hk)
  obtain⟨w',z⟩:=I.cell x c hc
  refine wpAny_storeName_cell I.ok.kind hk hc z (fun h' hc' hs=>?_)
  obtain⟨oc,hoc,hocd⟩:=id z
  refine h {s with heap:=h'} ⟨I.ok,I.os,I.bare,⟨fun b o e n hb hx=>?_,fun b o e n hb hx=>?_,I.base.free,fun b o e hx=>?_,I.base.tups,I.base.frzs,I.base.tbls⟩,⟨m,hn.sameBut hs (Ne.symm (cne x c hc)),fun j y v' e1 e2 e3=>?_⟩,fun y c' e=>?_,I.free,I.freeC,fun p hp=>?_,tracked ⟨oc,hoc,I.freeC x c hc⟩ hs,by simpa using I.len⟩ ⟨c,hs,.inr hc⟩
  ·exact (hs.2 b (zC (zT (zt e) (I.ok.cab x c hfn hc)))).trans (I.base.keep b o e n hb hx)
  ·obtain ⟨sl,e1⟩:=I.base.slot b o e n hb hx
   exact⟨sl,(hs.2 b (zC (zT (zt e) (I.ok.cab x c hfn hc)))).trans e1⟩
  ·obtain ⟨o',e1⟩:=I.base.there b o e hx
   exact⟨o',(hs.2 b (zC (zT (zt e) (I.ok.cab x c hfn hc)))).trans e1⟩
  ·by_cases hj:j=i
   ·subst hj
    rw[hi] at e1;cases e1
    rw[List.getElem?_set_self hiσ] at e2
    cases e2
    exact⟨u,r,.inr ⟨.inl hk,c,hc,hc'⟩⟩
   ·rw [List.getElem?_set_ne (Ne.symm hj)] at e2
    obtain⟨u',r',q⟩:=hl j y v' e1 e2 e3
    refine⟨u',r',?_⟩
    rcases q with q|⟨k,c',e,z'⟩
    ·exact .inl q
    ·refine .inr ⟨k,c',e,z'.sameBut hs ?_⟩
     rintro rfl
     exact hj (q75 hN e1 (I.ok.inj _ _ _ e hc▸hi))
  ·by_cases hcc:c'=c
   ·subst hcc;exact⟨_,hc'⟩
   ·obtain ⟨w2,z2⟩:=I.cell y c' e
    exact⟨w2,z2.sameBut hs hcc⟩
  ·obtain ⟨e,n,ne,nf,d⟩:=I.pin p hp
   refine⟨(hs.2 p.1 ?_).trans e,n,ne,nf,d⟩
   intro q
   rw[q,hoc] at e
   have q':oc=p.2:=zH e
   exact d w' (by rw[<-q'];exact hocd)
theorem q3q {M:Model}{A:Around}{E:Value->Shared->Prop}{i:Nat}{x:Str}{v:V}{u:Value}{Q:Unit->Shared->Prop}(I:Inv X pins σ H s)(hN:X.N.Nodup)(hi:X.N[i]? =some x)(hx:Loc X.env.scope x)(r:RelV v u)
  (h:∀s',Inv X pins (σ.set i (some v)) H s'->Q () s')(hf:X.fn x=true\/X.env.scope.names.lookup x=some .local:=by first|exact .inl rfl|exact .inr rfl|assumption):wpAny M A (storeName X.env x u) Q E s:=
 q5s I hN hi hx r (fun s' I' _=>h s' I') hf
theorem Inv.call' {s':Shared}{ch:List Addr}(I:Inv X pins σ H s)(ho:s'.os=s.os)(u:Un (frs X.stack) ch H H' s.heap s'.heap)(hok:HOk X.prog X.w H' s'.heap)(hg:AllBare s'.gens)
  (hch:∀b∈ch,(b∈X.ex\/X.s₀.heap.objs.size<=b)/\b≠X.env.locals/\(∀x c,X.env.cells.lookup x=some c->c≠b)/\∀p∈X.pn++pins,p.1≠b):Inv X pins σ H' s':=by
 obtain⟨h',g',d',t',o'⟩:=s'
 have e:o'=s.os:=ho
 subst e
 exact I.call (g':=g') (t':=t') (d':=d') u hok hg hch
end
abbrev XK:=Value->Option Addr->Hp->Prop
abbrev St:=List (Option V)
abbrev VK:=V->Hp->Prop
abbrev TE:=St->Hp->VK->Prop
abbrev TT:=St->Hp->(Bool->Hp->Prop)->Prop
abbrev TA:=St->Hp->(List V->Hp->Prop)->Prop
structure Ends where
 nx:St->Hp->Prop
 rt:VK
 bk:St->Hp->Prop:=fun _ _=>False
 ct:St->Hp->Prop:=fun _ _=>False
abbrev TS:=Ends->St->Hp->Prop
def EP (X:Cx)(pins:List (Addr×Obj))(σ:St)(Q:VK)(u:Value)(s':Shared):Prop:=∃v H',Inv X pins σ H' s'/\RelV v u/\Q v H'
def TP (X:Cx)(pins:List (Addr×Obj))(σ:St)(Q:Bool->Hp->Prop)(b:Bool)(s':Shared):Prop:=∃H',Inv X pins σ H' s'/\Q b H'
def AP (X:Cx)(pins:List (Addr×Obj))(σ:St)(Q:List V->Hp->Prop)(us:List Value)(s':Shared):Prop:=∃vs H',Inv X pins σ H' s'/\Vals vs us/\Q vs H'
def SP (X:Cx)(pins:List (Addr×Obj))(D:Ends)(f:Flow)(s':Shared):Prop:=
 match f with
 | .next=>∃σ' H',Inv X pins σ' H' s'/\D.nx σ' H'
 | .brk=>∃σ' H',Inv X pins σ' H' s'/\D.bk σ' H'
 | .cont=>∃σ' H',Inv X pins σ' H' s'/\D.ct σ' H'
 | .ret u=>∃v σ' H',Inv X pins σ' H' s'/\RelV v u/\D.rt v H'
def PE (X:Cx)(e:Expr)(t:TE):Prop:=
 ∀(pins:List (Addr×Obj)) (s:Shared) (σ:St) (H:Hp) (Q:VK),Inv X pins σ H s->t σ H Q->wpAny (model X.prog X.w) X.A (eval e X.env) (EP X pins σ Q) X.xe s
def PT (X:Cx)(e:Expr)(t:TT):Prop:=
 ∀(pins:List (Addr×Obj)) (s:Shared) (σ:St) (H:Hp) (Q:Bool->Hp->Prop),Inv X pins σ H s->t σ H Q->wpAny (model X.prog X.w) X.A (isTrue e X.env (eval e X.env)) (TP X pins σ Q) X.xe s
def PW (X:Cx)(e:Expr)(t:TT):Prop:=
 ∀(whole:Sem Value) (pins:List (Addr×Obj)) (s:Shared) (σ:St) (H:Hp) (Q:Bool->Hp->Prop),Inv X pins σ H s->t σ H Q->wpAny (model X.prog X.w) X.A (isTrue e X.env whole) (TP X pins σ Q) X.xe s
theorem PW.pt {X:Cx}{e:Expr}{t:TT}(h:PW X e t):PT X e t:=h _
def PA (X:Cx)(es:List Expr)(t:TA):Prop:=
 ∀(pos:Pos) (pins:List (Addr×Obj)) (s:Shared) (σ:St) (H:Hp) (Q:List V->Hp->Prop),Inv X pins σ H s->t σ H Q->wpAny (model X.prog X.w) X.A (spliced (backTo pos (starEach es X.env))) (AP X pins σ Q) X.xe s
def PS (X:Cx)(st:Stmt)(t:TS):Prop:=
 ∀(pins:List (Addr×Obj)) (s:Shared) (σ:St) (H:Hp) (D:Ends),Inv X pins σ H s->t D σ H->wpAny (model X.prog X.w) X.A (exec st X.env) (SP X pins D) X.xe s
def PSs (X:Cx)(st:List Stmt)(t:TS):Prop:=
 ∀(pins:List (Addr×Obj)) (s:Shared) (σ:St) (H:Hp) (D:Ends),Inv X pins σ H s->t D σ H->wpAny (model X.prog X.w) X.A (execs st X.env) (SP X pins D) X.xe s
theorem thn {α:Type}{t:Sem α}{Q Q':α->Shared->Prop}{M:Model}{A:Around}{E:Value->Shared->Prop}{s:Shared}(h:wpAny M A t Q E s)(hQ:∀a s,Q a s->Q' a s):wpAny M A t Q' E s:=zZ h hQ fun _ _ x=>x
section
variable {X:Cx}
theorem bin {a b:Expr}{ta tb:TE}(ha:PE X a ta)(hb:PE X b tb){pins:List (Addr×Obj)}{s:Shared}{σ:St}{H:Hp}{R:V->V->Hp->Prop}(I:Inv X pins σ H s)(h:ta σ H fun x H1=>tb σ H1 fun y H2=>R x y H2)
  {α:Type}{Q:α->Shared->Prop}{f:Value->Value->Sem α}
  (hf:∀v u s2 x y H2,Inv X pins σ H2 s2->RelV x v->RelV y u->R x y H2->wpAny (model X.prog X.w) X.A (f v u) Q X.xe s2):
  wpAny (model X.prog X.w) X.A (eval a X.env) (fun v s₁=>wpAny (model X.prog X.w) X.A (eval b X.env) (fun u s₂=>wpAny (model X.prog X.w) X.A (f v u) Q X.xe s₂) X.xe s₁) X.xe s:=by
 refine thn (ha pins s σ H _ I h) fun v s1 ⟨x,H1,I1,r1,q1⟩=>?_
 refine thn (hb pins s1 σ H1 _ I1 q1) fun u s2 ⟨y,H2,I2,r2,q2⟩=>?_
 exact hf v u s2 x y H2 I2 r1 r2 q2
def tVar (i:Nat):TE:=fun σ H Q=>∃v,σ[i]? =some (some v)/\Q v H
def tC (v:V):TE:=fun _ H Q=>Q v H
theorem pe_var {i:Nat}{x:Str}{pos:Pos}(hN:X.N[i]? =some x)(hv:Vis X.env.scope x)(hd:(x==("__debug__":Str))=false:=by decide)(hcd:(x==("__classdict__":Str))=false:=by decide):PE X (.Name x pos) (tVar i):=by
 intro pins s σ H Q I h
 obtain⟨v,e,h⟩:=h
 obtain⟨m,hn,hl⟩:=I.loc
 obtain⟨u,r,l⟩:=hl i x v hN e hv
 have fin:EP X pins σ Q u s:=⟨v,H,I,r,h⟩
 rcases l with⟨hk,hm⟩|⟨hk,c,hc,hcell⟩
 ·exact wpAny_Name (wpAny_loadName_local I.ok.kind hk hn hm fin) hd
 ·rcases hk with hk|hk
  ·exact wpAny_Name (wpAny_loadName_cell I.ok.kind hk hc hcell fin) hd
  ·exact wpAny_Name (wpAny_loadName_free I.ok.kind hk hc hcell fin hcd) hd
theorem qe {i j pos}:PE X (.Constant (.int i) j pos) (tC (.int i)):=fun _ _ _ H _ I h=>wpAny_Constant_int ⟨.int i,H,I.tok _,⟨_,rfl⟩,h⟩
theorem q2C {b j pos}:PE X (.Constant (.bool b) j pos) (tC (.bl b)):=fun _ _ _ H _ I h=>Constant_bool ⟨.bl b,H,I,rfl,h⟩
theorem q3O {j pos}:PE X (.Constant .none j pos) (tC .non):=fun _ _ _ H _ I h=>Constant_none ⟨.non,H,I,rfl,h⟩
theorem qJ {x j pos}:PE X (.Constant (.str x) j pos) (tC (.str x)):=fun _ _ _ H _ I h=>Calls.Constant_str ⟨.str x,H,I.tok _,⟨_,rfl⟩,h⟩
def Gl (X:Cx)(x:Str):Prop:=X.env.kindOf x=some .globalImplicit
theorem q2b {E:Value->Shared->Prop}{pins:List (Addr×Obj)}{s:Shared}{σ:St}{H:Hp}{x:Str}{u:Value}{pos:Pos}{Q:Value->Shared->Prop}(I:Inv X pins σ H s)(hg:Gl X x)(hm:X.mg x=some u)(h:Q u s)
  (hd:(x==("__debug__":Str))=false:=by decide):wpAny (model X.prog X.w) X.A (eval (.Name x pos) X.env) Q E s:=
 zct I.ok.kind hg (Calls.loadGlobal_global (by rw[I.ok.glob];exact I.mod.glob.keeps I.bk) hm h) hd
theorem q3Z {E:Value->Shared->Prop}{pins:List (Addr×Obj)}{s:Shared}{σ:St}{H:Hp}{x:Str}{u:Value}{pos:Pos}{Q:Value->Shared->Prop}(I:Inv X pins σ H s)(hg:Gl X x)(hm:X.mg x=none)(hv:bootBuiltins x=some u)(h:Q u s)
  (hn:x≠"__name__":=by decide)(hd:(x==("__debug__":Str))=false:=by decide):wpAny (model X.prog X.w) X.A (eval (.Name x pos) X.env) Q E s:=by
 obtain⟨mb,h1,h2⟩:=I.mod.blt
 exact zct I.ok.kind hg (Calls.loadGlobal_builtin (by rw[I.ok.glob];exact I.mod.glob.keeps I.bk) hm (by rw[I.ok.blt];exact h1.keeps I.bk) ((h2 x hn).trans hv) h) hd
theorem qt {x:Str}{v:V}{u:Value}{pos:Pos}(hg:Gl X x)(hm:X.mg x=some u)(r:RelV v u)(hd:(x==("__debug__":Str))=false:=by decide):PE X (.Name x pos) (tC v):=
 fun _ _ _ H _ I h=>q2b I hg hm ⟨v,H,I,r,h⟩ hd
theorem q2B {x:Str}{v:V}{u:Value}{pos:Pos}(hg:Gl X x)(hm:X.mg x=none)(hv:bootBuiltins x=some u)(r:RelV v u)(hn:x≠"__name__":=by decide)(hd:(x==("__debug__":Str))=false:=by decide):PE X (.Name x pos) (tC v):=
 fun _ _ _ H _ I h=>q3Z I hg hm hv ⟨v,H,I,r,h⟩ hn hd
variable {a b:Expr}{ta tb:TE}{pos:Pos}
def PC (X:Cx)(op:CmpOp)(a b:Expr)(t:TE):Prop:=
 ∀(pins:List (Addr×Obj)) (s:Shared) (σ:St) (H:Hp) (Q:VK),Inv X pins σ H s->t σ H Q->
  wpAny (model X.prog X.w) X.A (eval a X.env) (fun v s₁=>wpAny (model X.prog X.w) X.A (eval b X.env) (fun u s₂=>wpAny (model X.prog X.w) X.A (compareOp op v u) (EP X pins σ Q) X.xe s₂) X.xe s₁) X.xe s
theorem q77 (b:Expr){op:CmpOp}(h:op≠ .In)(h2:op≠ .NotIn):behindInMarks op b=false:=by
 have e1:(op==CmpOp.In)=false:=by cases op<;>first|rfl|exact absurd rfl h
 have e2:(op==CmpOp.NotIn)=false:=by cases op<;>first|rfl|exact absurd rfl h2
 cases b<;>simp[behindInMarks,e1,e2]
def tIsN (ta:TE):TE:=fun σ H Q=>ta σ H fun x H1=>Q (.bl (decide (x= .non))) H1
def tNotN (ta:TE):TE:=fun σ H Q=>ta σ H fun x H1=>Q (.bl (!decide (x= .non))) H1
theorem RelV.none_iff {x:V}{v:Value}(r:RelV x v):(v==Value.none)=decide (x= .non):=by
 cases x with
 |non=>cases r;rfl
 |bl _=>cases r;rfl
 |int _=>obtain⟨t,rfl⟩:=r;rfl
 |str _=>obtain⟨t,rfl⟩:=r;rfl
 |byt _=>obtain⟨t,rfl⟩:=r;rfl
 |flt _=>obtain⟨t,rfl⟩:=r;rfl
 |ref _=>cases r;rfl
 |ty _=>cases r;rfl
theorem q2Q {j pos'}(ha:PE X a ta):PC X .Is a (.Constant .none j pos') (tIsN ta):=by
 intro pins s σ H Q I h
 refine thn (ha pins s σ H _ I h) fun v s1 ⟨x,H1,I1,r1,q1⟩=>?_
 exact Constant_none (is_none_gen ⟨.bl _,H1,I1,by rw[r1.none_iff];rfl,q1⟩)
theorem q8I {j pos'}(ha:PE X a ta):PC X .IsNot a (.Constant .none j pos') (tNotN ta):=by
 intro pins s σ H Q I h
 refine thn (ha pins s σ H _ I h) fun v s1 ⟨x,H1,I1,r1,q1⟩=>?_
 exact Constant_none (isnot_none_gen ⟨.bl _,H1,I1,by rw[r1.none_iff];rfl,q1⟩)
def tB (t:TE):TT:=fun σ H Q=>t σ H fun x H1=>∃c,x= .bl c/\Q c H1
theorem q8F {op:CmpOp}{t:TE}(h:PC X op a b t)(h1:behindInMarks op b=false:=by first|exact q77 _ (by decide) (by decide)|rfl):PE X (.Compare a [op] [b] pos) t:=fun pins s σ H Q I hw=>wpAny_Compare1 (h pins s σ H Q I hw) h1
theorem q26 {op:CmpOp}{t:TE}(h:PC X op a b t)(h1:behindInMarks op b=false:=by first|exact q77 _ (by decide) (by decide)|rfl):PT X (.Compare a [op] [b] pos) (tB t):=by
 intro pins s σ H Q I hw
 refine wpAny_isTrue_Compare1 (thn (h pins s σ H _ I hw) fun v s1 h1=>thn h1 fun u s2 h2=>thn h2 fun c s3 ⟨x,H1,I1,r1,q1⟩=>?_) h1
 obtain⟨d,rfl,q⟩:=q1
 cases r1
 exact za3 ⟨H1,I1,q⟩
theorem q0S {e:Expr}{t:TE}(h:PE X e t)(he:∀whole,isTrue e X.env whole=(do let v<-whole;standAt e.pos;holding [v] (truthy v)):=by intro _;rfl):PT X e (tB t):=by
 intro pins s σ H Q I hw
 refine isTrue_plain (thn (h pins s σ H _ I hw) fun v s1 ⟨x,H1,I1,r1,q1⟩=>?_) (he _)
 obtain⟨d,rfl,q⟩:=q1
 cases r1
 exact za3 ⟨H1,I1,q⟩
variable {tA tB':TT}{rest:List Expr}
def tAnd (t u:TT):TT:=fun σ H Q=>t σ H fun c H1=>if c=true then u σ H1 Q else Q false H1
def tOr (t u:TT):TT:=fun σ H Q=>t σ H fun c H1=>if c=true then Q true H1 else u σ H1 Q
def tNot (t:TT):TT:=fun σ H Q=>t σ H fun c H1=>Q (!c) H1
theorem q2z (ha:PT X a tA):PW X (.BoolOp .And [a] pos) tA:=by
 intro wh pins s σ H Q I h
 refine isTrue_and (thn (ha pins s σ H Q I h) fun c s1 e=>?_)
 cases c with
 |true=>exact isTrue_and_nil e
 |false=>exact e
theorem q25 (ha:PT X a tA):PW X (.BoolOp .Or [a] pos) tA:=by
 intro wh pins s σ H Q I h
 refine isTrue_or (thn (ha pins s σ H Q I h) fun c s1 e=>?_)
 cases c with
 |false=>exact isTrue_or_nil e
 |true=>exact e
theorem q3e (ha:PT X a tA)(hb:PW X (.BoolOp .And (b::rest) pos) tB'):PW X (.BoolOp .And (a::b::rest) pos) (tAnd tA tB'):=by
 intro wh pins s σ H Q I h
 refine isTrue_and (thn (ha pins s σ H _ I h) fun c s1 ⟨H1,I1,q1⟩=>?_)
 cases c with
 |true=>exact hb wh pins s1 σ H1 Q I1 q1
 |false=>exact⟨H1,I1,q1⟩
theorem q2O (ha:PT X a tA)(hb:PW X (.BoolOp .Or (b::rest) pos) tB'):PW X (.BoolOp .Or (a::b::rest) pos) (tOr tA tB'):=by
 intro wh pins s σ H Q I h
 refine isTrue_or (thn (ha pins s σ H _ I h) fun c s1 ⟨H1,I1,q1⟩=>?_)
 cases c with
 |true=>exact⟨H1,I1,q1⟩
 |false=>exact hb wh pins s1 σ H1 Q I1 q1
theorem q2q (ha:PT X a tA):PT X (.UnaryOp .Not a pos) (tNot tA):=by
 intro pins s σ H Q I h
 exact isTrue_not (ha pins s σ H (fun c H1=>Q (!c) H1) I h)
def tAndV (ta tb:TE):TE:=fun σ H Q=>ta σ H fun x H1=>∃c,x= .bl c/\if c=true then tb σ H1 Q else Q (.bl false) H1
def tOrV (ta tb:TE):TE:=fun σ H Q=>ta σ H fun x H1=>∃c,x= .bl c/\if c=true then Q (.bl true) H1 else tb σ H1 Q
def tNotV (ta:TE):TE:=fun σ H Q=>ta σ H fun x H1=>∃c,x= .bl c/\Q (.bl (!c)) H1
theorem q2r {op}{t:TE}(h:PE X a t):PE X (.BoolOp op [a] pos) t:=fun pins s σ H Q I hw=>BoolOp_one (h pins s σ H Q I hw)
theorem q3R (ha:PE X a ta)(hb:PE X (.BoolOp .And (b::rest) pos) tb):PE X (.BoolOp .And (a::b::rest) pos) (tAndV ta tb):=by
 intro pins s σ H Q I h
 refine BoolOp_and (thn (ha pins s σ H _ I h) fun v s1 ⟨x,H1,I1,r1,q1⟩=>?_)
 obtain⟨c,rfl,q1⟩:=q1
 cases r1
 refine za3 ?_
 cases c with
 |true=>exact hb pins s1 σ H1 Q I1 q1
 |false=>exact⟨.bl false,H1,I1,rfl,q1⟩
theorem qak (ha:PE X a ta)(hb:PE X (.BoolOp .Or (b::rest) pos) tb):PE X (.BoolOp .Or (a::b::rest) pos) (tOrV ta tb):=by
 intro pins s σ H Q I h
 refine BoolOp_or (thn (ha pins s σ H _ I h) fun v s1 ⟨x,H1,I1,r1,q1⟩=>?_)
 obtain⟨c,rfl,q1⟩:=q1
 cases r1
 refine za3 ?_
 cases c with
 |false=>exact hb pins s1 σ H1 Q I1 q1
 |true=>exact⟨.bl true,H1,I1,rfl,q1⟩
theorem qbw (ha:PE X a ta):PE X (.UnaryOp .Not a pos) (tNotV ta):=by
 intro pins s σ H Q I h
 refine UnaryOp_ (thn (ha pins s σ H _ I h) fun v s1 ⟨x,H1,I1,r1,q1⟩=>?_)
 obtain⟨c,rfl,q1⟩:=q1
 cases r1
 exact not_of (za3 ⟨.bl (!c),H1,I1,rfl,q1⟩)
def tIf (t:TT)(ta tb:TE):TE:=fun σ H Q=>t σ H fun c H1=>if c=true then ta σ H1 Q else tb σ H1 Q
theorem q70 {c:Expr}(hc:PT X c tA)(ha:PE X a ta)(hb:PE X b tb):PE X (.IfExp c a b pos) (tIf tA ta tb):=by
 intro pins s σ H Q I h
 refine wpAny_IfExp (thn (hc pins s σ H _ I h) fun d s1 ⟨H1,I1,q1⟩=>?_)
 cases d with
 |true=>exact ha pins s1 σ H1 Q I1 q1
 |false=>exact hb pins s1 σ H1 Q I1 q1
end
def SqL (K:W.Frag)(H:Hp)(a:Addr)(xs:List V):Prop:=
 Rd H a (.lst xs)\/
  ∃(o:Obj) (its:Array Value) (n:Nat),K.lookup a=some o/\o.cls= .type "list"/\o.dict=none/\o.data= .seq its n/\its.size<=sizeLine/\Vals xs its.toList
def SqT (K:W.Frag)(H:Hp)(a:Addr)(xs:List V):Prop:=
 Rd H a (.tup xs)\/
  ∃(o:Obj) (its:Array Value) (n:Nat),K.lookup a=some o/\o.cls= .type "tuple"/\o.data= .seq its n/\its.size<=sizeLine/\Vals xs its.toList
def absV:Value->Option V
 | .none=>some .non
 | .bool b=>some (.bl b)
 | .int i _=>some (.int i)
 | .str x _=>some (.str x)
 | .bytes b _=>some (.byt b)
 | .float b _=>some (.flt b)
 | .ref a=>some (.ref a)
 | .type n=>some (.ty n)
 |_=>none
theorem RelV.abs {x:V}{u:Value}(r:RelV x u):absV u=some x:=by
 cases x with
 |non=>cases r;rfl
 |bl _=>cases r;rfl
 |int _=>obtain⟨t,rfl⟩:=r;rfl
 |str _=>obtain⟨t,rfl⟩:=r;rfl
 |byt _=>obtain⟨t,rfl⟩:=r;rfl
 |flt _=>obtain⟨t,rfl⟩:=r;rfl
 |ref _=>cases r;rfl
 |ty _=>cases r;rfl
theorem RelV.inj {x y:V}{u:Value}(r:RelV x u)(q:RelV y u):x=y:=zH (r.abs.symm.trans q.abs)
theorem Vals.inj:∀{xs ys:List V} {us:List Value},Vals xs us->Vals ys us->xs=ys
 |_,_,_,.nil,.nil=>rfl
 |_,_,_,.cons r t,.cons r' t'=>by rw[r.inj r',Vals.inj t t']
section
variable {X:Cx}{pins:List (Addr×Obj)}{σ:St}{H:Hp}{s:Shared}{a:Addr}{xs ys:List V}
theorem SqL.of {K:W.Frag}(h:H a=some (.lst xs)):SqL K H a xs:= .inl (.inl h)
theorem SqT.of {K:W.Frag}(h:H a=some (.tup xs)):SqT K H a xs:= .inl (.inl h)
theorem Inv.list (I:Inv X pins σ H s)(h:SqL X.K H a xs):∃its:List Value,Vals xs its/\PlainL s.heap a its.toArray/\xs.length<=sizeLine:=by
 rcases h with h|⟨o,its,n,hk,hc,hd,hs,hz,r⟩
 ·obtain ⟨z,its,n,r,e⟩:=h.ok I.hok
  exact⟨its,r,⟨_,n,e,rfl,rfl,rfl⟩,z⟩
 ·refine ⟨its.toList,r,⟨o,n,I.kIn a o hk,hc,hd,by simpa using hs⟩,?_⟩
  have e:=r.length
  simp only[Array.length_toList] at e
  omega
theorem Inv.tuple (I:Inv X pins σ H s)(h:SqT X.K H a xs):∃its:List Value,Vals xs its/\IsTup s.heap a its.toArray/\xs.length<=sizeLine:=by
 rcases h with h|⟨o,its,n,hk,hc,hs,hz,r⟩
 ·obtain ⟨z,its,r,p⟩:=h.ok I.hok
  exact⟨its,r,p,z⟩
 ·refine ⟨its.toList,r,⟨o,I.kIn a o hk,hc,n,by simpa using hs⟩,?_⟩
  have e:=r.length
  simp only[Array.length_toList] at e
  omega
theorem Inv.list_inj (I:Inv X pins σ H s)(h:SqL X.K H a xs)(h':SqL X.K H a ys):xs=ys:=by
 obtain⟨its,r,⟨o,n,e,_,_,d⟩,_⟩:=I.list h
 obtain⟨its',r',⟨o',n',e',_,_,d'⟩,_⟩:=I.list h'
 rw[e] at e';cases e'
 rw[d] at d'
 injection d' with d1 _
 have:its=its':=by simpa using zag Array.toList d1
 subst this
 exact r.inj r'
theorem Inv.tuple_inj (I:Inv X pins σ H s)(h:SqT X.K H a xs)(h':SqT X.K H a ys):xs=ys:=by
 obtain⟨its,r,⟨o,e,_,n,d⟩,_⟩:=I.tuple h
 obtain⟨its',r',⟨o',e',_,n',d'⟩,_⟩:=I.tuple h'
 rw[e] at e';cases e'
 rw[d] at d'
 injection d' with d1 _
 have:its=its':=by simpa using zag Array.toList d1
 subst this
 exact r.inj r'
end
abbrev Cx.wish (X:Cx)(E:Value->Shared->Prop):Cx:={X with xe:=E}
abbrev Cx.nox (X:Cx):Cx:=X.wish fun _ _=>False
theorem Cx.Ok.wish {X:Cx}(ok:X.Ok)(E:Value->Shared->Prop):(X.wish E).Ok:=
 ⟨ok.mod,ok.kind,ok.glob,ok.blt,ok.above,ok.inj,ok.has,ok.cab,ok.hd,ok.frames,ok.stk,ok.exf,ok.bs,ok.bsz,ok.noex,ok.exfs,ok.funs,ok.frf⟩
theorem Cx.Ok.unwish {X:Cx}{E:Value->Shared->Prop}(ok:(X.wish E).Ok):X.Ok:=
 ⟨ok.mod,ok.kind,ok.glob,ok.blt,ok.above,ok.inj,ok.has,ok.cab,ok.hd,ok.frames,ok.stk,ok.exf,ok.bs,ok.bsz,ok.noex,ok.exfs,ok.funs,ok.frf⟩
section
variable {X:Cx}{pins:List (Addr×Obj)}{σ:St}{H:Hp}{s:Shared}{E:Value->Shared->Prop}
theorem Inv.wish (I:Inv X pins σ H s)(E:Value->Shared->Prop):Inv (X.wish E) pins σ H s:=⟨I.ok.wish E,I.os,I.bare,I.base,I.loc,I.cell,I.free,I.freeC,I.pin,I.hok,I.len⟩
theorem Inv.unwish (I:Inv (X.wish E) pins σ H s):Inv X pins σ H s:=⟨I.ok.unwish,I.os,I.bare,I.base,I.loc,I.cell,I.free,I.freeC,I.pin,I.hok,I.len⟩
theorem SP.unwish {D:Ends}{f:Flow}{s':Shared}(h:SP (X.wish E) pins D f s'):SP X pins D f s':=by
 cases f with
 |next=>obtain⟨σ',H',I,q⟩:=h;exact⟨σ',H',I.unwish,q⟩
 |brk=>obtain⟨σ',H',I,q⟩:=h;exact⟨σ',H',I.unwish,q⟩
 |cont=>obtain⟨σ',H',I,q⟩:=h;exact⟨σ',H',I.unwish,q⟩
 |ret u=>obtain⟨v,σ',H',I,r,q⟩:=h;exact⟨v,σ',H',I.unwish,r,q⟩
theorem PSs.nox {st:List Stmt}{t:TS}(h:PSs X.nox st t):PSs X st t:=fun pins s σ H D I hw=>
 zZ (h pins s σ H D (I.wish _) hw) (fun _ _ q=>q.unwish) fun _ _ z=>False.elim z
end
section
variable {X:Cx}{st:Stmt}{rest:List Stmt}{t u:TS}{e:Expr}{te:TE}{pos:Pos}
def tNext:TS:=fun D σ H=>D.nx σ H
def tSeq (t u:TS):TS:=fun D σ H=>t {D with nx:=u D} σ H
theorem qz:PSs X [] tNext:=fun _ _ σ H _ I h=>zbu ⟨σ,H,I,h⟩
theorem qb (h1:PS X st t)(h2:PSs X rest u):PSs X (st::rest) (tSeq t u):=by
 intro pins s σ H D I h
 refine zcM (thn (h1 pins s σ H {D with nx:=u D} I h) fun f s1 q=>?_)
 cases f with
 |next=>
  obtain⟨σ',H',I',q⟩:=q
  exact h2 pins s1 σ' H' D I' q
 |ret v=>exact q
 |brk=>exact q
 |cont=>exact q
theorem qg (h1:PS X st t):PSs X [st] t:=by
 intro pins s σ H D I h
 refine zcM (thn (h1 pins s σ H D I h) fun f s1 q=>?_)
 cases f with
 |next=>exact zbu q
 |ret v=>exact q
 |brk=>exact q
 |cont=>exact q
def tCont:TS:=fun D σ H=>D.ct σ H
theorem q6u:PS X (.Continue pos) tCont:=fun _ _ σ H _ I h=>wpAny_Continue ⟨σ,H,I,h⟩
theorem Inv.quiet {pins:List (Addr×Obj)}{σ:St}{H:Hp}{s:Shared}(I:Inv X pins σ H s):interactive X.env=false:=by simp[interactive,I.ok.kind]
def tDrop (te:TE):TS:=fun D σ H=>te σ H fun _ H1=>D.nx σ H1
theorem qN (he:PE X e te)(hs:swapsWith e none pos.line X.env=pure false:=by rfl):PS X (.Expr e pos) (tDrop te):=by
 intro pins s σ H D I h
 exact wpAny_Expr_any (thn (he pins s σ H _ I h) fun v s1 ⟨x,H1,I1,r1,q1⟩=>⟨σ,H1,I1,q1⟩) I.quiet hs
def tRet (te:TE):TS:=fun D σ H=>te σ H D.rt
theorem qq (he:PE X e te):PS X (.Return (some e) pos) (tRet te):=by
 intro pins s σ H D I h
 exact wpAny_Return_some (thn (he pins s σ H _ I h) fun v s1 ⟨x,H1,I1,r1,q1⟩=>⟨x,σ,H1,I1,r1,q1⟩)
def tIfS (c:TT)(t u:TS):TS:=fun D σ H=>c σ H fun b H1=>if b=true then t D σ H1 else u D σ H1
theorem q02 {c:Expr}{a b:List Stmt}{tc:TT}(hc:PT X c tc)(ha:PSs X a t)(hb:PSs X b u):PS X (.If c a b pos) (tIfS tc t u):=by
 intro pins s σ H D I h
 refine wpAny_If (thn (hc pins s σ H _ I h) fun d s1 ⟨H1,I1,q1⟩=>?_)
 cases d with
 |true=>exact ha pins s1 σ H1 D I1 q1
 |false=>exact hb pins s1 σ H1 D I1 q1
def tNever:TS:=fun _ _ _=>False
theorem qae:PS X st tNever:=fun _ _ _ _ _ _ h=>h.elim
end
abbrev TG:=V->St->Hp->(St->Hp->Prop)->Prop
abbrev TGs:=List V->St->Hp->(St->Hp->Prop)->Prop
def PG (X:Cx)(target:Expr)(t:TG):Prop:=
 ∀(pins:List (Addr×Obj)) (s:Shared) (σ:St) (H:Hp) (v:V) (u:Value) (Q:St->Hp->Prop),Inv X pins σ H s->RelV v u->t v σ H Q->
  wpAny (model X.prog X.w) X.A (assign target X.env u) (fun _ s'=>∃σ' H',Inv X pins σ' H' s'/\Q σ' H') X.xe s
def PGs (X:Cx)(ts:List Expr)(t:TGs):Prop:=
 ∀(pins:List (Addr×Obj)) (s:Shared) (σ:St) (H:Hp) (vs:List V) (us:List Value) (Q:St->Hp->Prop),Inv X pins σ H s->Vals vs us->t vs σ H Q->
  wpAny (model X.prog X.w) X.A (assignInOrder ((assignEach ts X.env).map (·.2)) us) (fun _ s'=>∃σ' H',Inv X pins σ' H' s'/\Q σ' H') X.xe s
abbrev TSet:=V->V->V->Hp->(Hp->Prop)->Prop
def PSet (X:Cx)(t:TSet):Prop:=
 ∀(pins:List (Addr×Obj)) (s:Shared) (σ:St) (H:Hp) (o i v:V) (ov iv u:Value) (Q:Hp->Prop),Inv X pins σ H s->RelV o ov->RelV i iv->RelV v u->t o i v H Q->
  wpAny (model X.prog X.w) X.A (setItem ov iv u) (fun _ s'=>∃H',Inv X pins σ H' s'/\Q H') X.xe s
abbrev TIp:=V->V->Hp->VK->Prop
def PIp (X:Cx)(op:Operator)(t:TIp):Prop:=
 ∀(pins:List (Addr×Obj)) (s:Shared) (σ:St) (H:Hp) (x y:V) (v u:Value) (Q:VK),Inv X pins σ H s->RelV x v->RelV y u->t x y H Q->
  wpAny (model X.prog X.w) X.A (inplaceOp op v u) (EP X pins σ Q) X.xe s
section
variable {X:Cx}{pos:Pos}
def qaZ (i:Nat):TG:=fun v σ H Q=>Q (σ.set i (some v)) H
theorem qp {i:Nat}{x:Str}(hN:X.N.Nodup)(hi:X.N[i]? =some x)(hx:Loc X.env.scope x)(hf:X.fn x=true\/X.env.scope.names.lookup x=some .local:=by first|exact .inl rfl|exact .inr rfl|assumption):PG X (.Name x pos) (qaZ i):=by
 intro pins s σ H v u Q I r h
 exact wpAny_assign_Name (q3q I hN hi hx r (fun s' I'=>⟨_,H,I',h⟩) hf)
def gNil:TGs:=fun vs σ H Q=>vs=[]/\Q σ H
def gCons (t:TG)(u:TGs):TGs:=fun vs σ H Q=>∃v r,vs=v::r/\t v σ H fun σ' H'=>u r σ' H' Q
theorem q0x:PGs X [] gNil:=by
 intro pins s σ H vs us Q I r h
 obtain⟨e,h⟩:=h
 subst e
 cases r
 exact assignInOrder_nil ⟨σ,H,I,h⟩
theorem qw {e:Expr}{es:List Expr}{t:TG}{u:TGs}(h1:PG X e t)(h2:PGs X es u)
  (hs:(assignEach (e::es) X.env).map (·.2)=assign e X.env::(assignEach es X.env).map (·.2):=by rfl):PGs X (e::es) (gCons t u):=by
 intro pins s σ H vs us Q I r h
 obtain⟨v,vr,e1,h⟩:=h
 subst e1
 cases r with
 |cons r rr=>
  rw[hs]
  refine assignInOrder_cons (thn (h1 pins s σ H _ _ _ I r h) fun _ s1 ⟨σ1,H1,I1,q1⟩=>?_)
  exact h2 pins s1 σ1 H1 _ _ Q I1 rr q1
def gTup (K:W.Frag)(n:Nat)(t:TGs):TG:=fun v σ H Q=>∃a xs,v= .ref a/\SqT K H a xs/\xs.length=n/\t xs σ H Q
theorem pg_tup {es:List Expr}{k:Nat}{t:TGs}{n:Nat}(hc:X.calm=true)(h:PGs X es t)
  (hn:(assignEach es X.env).length=n:=by rfl)(hst:(assignEach es X.env).findIdx? (·.1)=none:=by rfl):PG X (.Tuple es k pos) (gTup X.K n t):=by
 intro pins s σ H v u Q I r hw
 obtain⟨a,xs,e1,hq,hl,hw⟩:=hw
 subst e1
 cases r
 obtain⟨its,rv,ht,hz⟩:=I.tuple hq
 refine assign_Tuple_tuple (I.ok.hd hc) ht (by simp[hn,<-hl,rv.length]) hst fun h' hx=>?_
 have I1:Inv X pins σ H {s with heap:=h'}:=I.kept (t':=s.toks) fun b o e=>hx b o (zC (zt e)) e
 exact h pins _ σ H xs _ Q I1 (by simpa using rv) hw
def tAsg (te:TE)(g:TG):TS:=fun D σ H=>te σ H fun x H1=>g x σ H1 D.nx
theorem q5S {tg e:Expr}{te:TE}{g:TG}(he:PE X e te)(hg:PG X tg g)(hs:swapsWithSole [tg] e pos.line X.env=pure false:=by rfl)(hw:swappedStores [tg] e X.env=pure none:=by rfl)
  (h1:(assignEach [tg] X.env).map (·.2)=[assign tg X.env]:=by rfl):PS X (.Assign [tg] e pos) (tAsg te g):=by
 intro pins s σ H D I h
 refine wpAny_Assign_stores (thn (he pins s σ H _ I h) fun v s1 ⟨x,H1,I1,r1,q1⟩=>?_) hs hw
 rw[h1]
 exact thn (hg pins s1 σ H1 x v _ I1 r1 q1) fun _ s2 q=>q
theorem qx {i:Nat}{x:Str}{e:Expr}{te:TE}{pos':Pos}(hN:X.N.Nodup)(hi:X.N[i]? =some x)(hx:Loc X.env.scope x)(he:PE X e te)(hs:swapsWith e (some (.Name x pos')) pos.line X.env=pure false:=by rfl)(hf:X.fn x=true\/X.env.scope.names.lookup x=some .local:=by first|exact .inl rfl|exact .inr rfl|assumption):
  PS X (.Assign [.Name x pos'] e pos) (tAsg te (qaZ i)):=by
 intro pins s σ H D I h
 refine wpAny_Assign_Name (thn (he pins s σ H _ I h) fun v s1 ⟨y,H1,I1,r1,q1⟩=>?_) hs
 exact q3q I1 hN hi hx r1 (fun s2 I2=>⟨_,H1,I2,q1⟩) hf
def tAug (i:Nat)(te:TE)(ti:TIp):TS:=fun D σ H=>∃x,σ[i]? =some (some x)/\te σ H fun y H1=>ti x y H1 fun z H2=>D.nx (σ.set i (some z)) H2
theorem qbr {i:Nat}{x:Str}{e:Expr}{te:TE}{op:Operator}{ti:TIp}{pos':Pos}(hN:X.N.Nodup)(hi:X.N[i]? =some x)(hx:Loc X.env.scope x)(he:PE X e te)(ho:PIp X op ti)(hf:X.fn x=true\/X.env.scope.names.lookup x=some .local:=by first|exact .inl rfl|exact .inr rfl|assumption):
  PS X (.AugAssign (.Name x pos') op e pos) (tAug i te ti):=by
 intro pins s σ H D I h
 obtain⟨v,e1,h⟩:=h
 obtain⟨m,hn,hl⟩:=I.loc
 have vis:Vis X.env.scope x:=by rcases hx with k|k;exact .inl k;exact .inr (.inl k)
 obtain⟨u,r,l⟩:=hl i x v hi e1 vis
 refine wpAny_AugAssign_Name ?_
 have go:wpAny (model X.prog X.w) X.A (eval e X.env) (fun w s₂=>wpAny (model X.prog X.w) X.A (inplaceOp op u w) (fun r s₃=>wpAny (model X.prog X.w) X.A (storeName X.env x r) (fun _=>SP X pins D .next) X.xe s₃) X.xe s₂) X.xe s:=by
  refine thn (he pins s σ H _ I h) fun w s1 ⟨y,H1,I1,r1,q1⟩=>?_
  refine thn (ho pins s1 σ H1 v y u w _ I1 r r1 q1) fun z s2 ⟨zv,H2,I2,r2,q2⟩=>?_
  exact q3q I2 hN hi hx r2 (fun s3 I3=>⟨_,H2,I3,q2⟩) hf
 rcases l with⟨hk,hm⟩|⟨hk,c,hc,hcell⟩
 ·exact wpAny_loadName_local I.ok.kind hk hn hm go
 ·rcases hk with hk|hk
  ·exact wpAny_loadName_cell I.ok.kind hk hc hcell go
  ·rcases hx with k|k
   ·have:X.env.scope.names.lookup x=some .free:=hk
    rw[k] at this;cases this
   ·have:X.env.scope.names.lookup x=some .free:=hk
    rw[k] at this;cases this
def tAugS (to ti te:TE)(tget:V->V->Hp->VK->Prop)(tip:TIp)(tset:TSet):TS:=fun D σ H=>to σ H fun o H1=>ti σ H1 fun i H2=>tget o i H2 fun x H3=>te σ H3 fun y H4=>tip x y H4 fun z H5=>tset o i z H5 fun H6=>D.nx σ H6
def PGet (X:Cx)(t:V->V->Hp->VK->Prop):Prop:=
 ∀(pins:List (Addr×Obj)) (s:Shared) (σ:St) (H:Hp) (o i:V) (ov iv:Value) (Q:VK),Inv X pins σ H s->RelV o ov->RelV i iv->t o i H Q->
  wpAny (model X.prog X.w) X.A (getItem ov iv) (EP X pins σ Q) X.xe s
theorem q8x {o i e:Expr}{to ti te:TE}{tget:V->V->Hp->VK->Prop}{tip:TIp}{tset:TSet}{op:Operator}{tpos:Pos}(ho:PE X o to)(hi:PE X i ti)(hg:PGet X tget)(he:PE X e te)(hp:PIp X op tip)(hs:PSet X tset)
  (ha:∀ov iv new,augStore i ov iv new=(do holding [new,ov,iv] (setItem ov iv new);release [new,ov,iv] [];pure .next):=by intros;rfl):PS X (.AugAssign (.Subscript o i tpos) op e pos) (tAugS to ti te tget tip tset):=by
 intro pins s σ H D I h
 refine wpAny_AugAssign_SubscriptAny (thn (ho pins s σ H _ I h) fun ov s1 ⟨x1,H1,I1,r1,q1⟩=>?_) ha
 refine thn (hi pins s1 σ H1 _ I1 q1) fun iv s2 ⟨x2,H2,I2,r2,q2⟩=>?_
 refine thn (hg pins s2 σ H2 x1 x2 ov iv _ I2 r1 r2 q2) fun old s3 ⟨x3,H3,I3,r3,q3⟩=>?_
 refine thn (he pins s3 σ H3 _ I3 q3) fun v s4 ⟨x4,H4,I4,r4,q4⟩=>?_
 refine thn (hp pins s4 σ H4 x3 x4 old v _ I4 r3 r4 q4) fun new s5 ⟨x5,H5,I5,r5,q5⟩=>?_
 exact thn (hs pins s5 σ H5 x1 x2 x5 ov iv new _ I5 r1 r2 r5 q5) fun _ s6 ⟨H6,I6,q6⟩=>⟨σ,H6,I6,q6⟩
def ipI (f:Int->Int->Int):TIp:=fun x y H Q=>∃i j,x= .int i/\y= .int j/\Q (.int (f i j)) H
theorem q97:PIp X .Add (ipI fun i j=>i+j):=by
 intro pins s σ H x y v u Q I r1 r2 h
 obtain⟨i,j,e1,e2,q⟩:=h
 subst e1;subst e2
 obtain⟨t,rfl⟩:=r1
 obtain⟨t',rfl⟩:=r2
 exact iadd_int ⟨.int _,H,I.tok _,⟨_,rfl⟩,q⟩
theorem ip_sub:PIp X .Sub (ipI fun i j=>i - j):=by
 intro pins s σ H x y v u Q I r1 r2 h
 obtain⟨i,j,e1,e2,q⟩:=h
 subst e1;subst e2
 obtain⟨t,rfl⟩:=r1
 obtain⟨t',rfl⟩:=r2
 exact isub_int ⟨.int _,H,I.tok _,⟨_,rfl⟩,q⟩
end
section
variable {X:Cx}{pos:Pos}
def qbe (c:TT)(tb:TS):TS:=fun D σ H=>∃W:Nat->St->Hp->Prop,(∃m,W m σ H)/\∀m σ H,W m σ H->
 c σ H fun b H1=>if b=true then∃N:St->Hp->Prop,(∀σ' H',N σ' H'->∃m',m'<m/\W m' σ' H')/\tb {D with nx:=N,ct:=N,bk:=D.nx} σ H1 else D.nx σ H1
theorem q4T {c:Expr}{body:List Stmt}{tc:TT}{tb:TS}(hp:PassesOwn (model X.prog X.w) X.A X.env X.xe)(hc:PT X c tc)(hb:PSs X body tb):PS X (.While c body [] pos) (qbe tc tb):=by
 intro pins s σ H D I h
 obtain⟨W,⟨m0,w0⟩,turn⟩:=h
 refine wpAny_While (codeAny_whileLoop (fun n s'=>∃σ' H',Inv X pins σ' H' s'/\W n σ' H') ?_ m0 ⟨σ,H,I,w0⟩)
 rintro n s1 ⟨σ1,H1,I1,w1⟩
 refine zbc hp (thn (hc pins s1 σ1 H1 _ I1 (turn n σ1 H1 w1)) fun b s2 ⟨H2,I2,q2⟩=>?_)
 cases b with
 |true=>
  obtain⟨N,hN,q2⟩:=q2
  rw[zi rfl]
  refine zbc hp (thn (hb pins s2 σ1 H2 _ I2 q2) fun f s3 q3=>?_)
  cases f with
  |next=>
   obtain⟨σ3,H3,I3,n3⟩:=q3
   obtain⟨m',hm,w3⟩:=hN σ3 H3 n3
   exact⟨m',hm,σ3,H3,I3,w3⟩
  |cont=>
   obtain⟨σ3,H3,I3,n3⟩:=q3
   obtain⟨m',hm,w3⟩:=hN σ3 H3 n3
   exact⟨m',hm,σ3,H3,I3,w3⟩
  |brk=>exact q3
  |ret v=>exact q3
 |false=>
  rw[zd zl]
  exact zbu ⟨σ1,H2,I2,q2⟩
end
structure It where
 go:Nat->Hp->Prop
 yld:Nat->Hp->V->Hp->Prop
 stop:Nat->Hp->Prop
def FpOk (X:Cx)(pins:List (Addr×Obj))(H:Hp)(b:Addr):Prop:=
 H b=none/\b≠X.env.locals/\b∉X.fs/\(b∈X.ex\/X.s₀.heap.objs.size<=b)/\(∀x c,X.env.cells.lookup x=some c->c≠b)/\∀p∈X.pn++pins,p.1≠b
theorem Inv.fpOk {X:Cx}{pins:List (Addr×Obj)}{σ:St}{H H':Hp}{s:Shared}{b:Addr}(I:Inv X pins σ H s)(hb:s.heap.objs.size<=b)(hn:H' b=none):FpOk X pins H' b:=by
 refine⟨hn,zcb (zT I.lt hb),I.nofs hb,.inr (zaf I.sz hb),fun x c e z=>?_,fun p hp z=>?_⟩
 ·obtain ⟨v,q⟩:=I.cell x c e
  exact absurd (zT q.lt (by rw[z];exact hb)) (zbs _)
 ·exact absurd (zT (zt (I.pin p hp).1) (by rw[z];exact hb)) (zbs _)
structure Turn (P:Program)(w:World)(K:W.Frag)(tg:Expr)(J:It)(fp:List Addr)(it:Addr)(tn:Nat->Heap->Prop):Prop where
 mem:it∈fp
 obj:∀i h,tn i h->∀b∈fp,∃o,h.get? b=some o/\∀v,o.data≠ .cell v
 keep:∀i h h',tn i h->(∀b∈fp,∀o,h.get? b=some o->h'.get? b=some o)->tn i h'
 item:∀(X:Cx),X.prog=P->X.w=w->X.K=K->X.calm=true->∀(i:Nat) (pins:List (Addr×Obj)) (s:Shared) (σ:St) (H:Hp) (E:Value->Shared->Prop),Inv X pins σ H s->(∀b∈fp,FpOk X pins H b)->tn i s.heap->J.go i H->
  wpAny (model P w) X.A (pyNext (.ref it)) (fun r s1=>∃u,r=some u/\
   wpAny (model P w) X.A (letOwnedTupleGo tg (.ref it) u) (fun _ s2=>∃x H',Inv X pins σ H' s2/\RelV x u/\J.yld i H x H'/\tn (i+1) s2.heap/\∀b∈fp,H' b=none) E s1) E s
 done:∀(X:Cx),X.prog=P->X.w=w->X.K=K->X.calm=true->∀(i:Nat) (pins:List (Addr×Obj)) (s:Shared) (σ:St) (H:Hp) (E:Value->Shared->Prop),Inv X pins σ H s->(∀b∈fp,FpOk X pins H b)->tn i s.heap->J.stop i H->
  wpAny (model P w) X.A (pyNext (.ref it)) (fun r s1=>r=none/\Inv X pins σ H s1) E s
 self:∀(A:Around) (i:Nat) (s:Shared) (Q:Value->Shared->Prop) (E:Value->Shared->Prop),tn i s.heap->Q (.ref it) s->wpAny (model P w) A (pyIter (.ref it)) Q E s
abbrev TI:=St->Hp->(It->Hp->Prop)->Prop
def PIE (X:Cx)(pins:List (Addr×Obj))(σ:St)(tg:Expr)(R:It->Hp->Prop)(itv:Value)(s2:Shared):Prop:=
 ∃(it:Addr) (fp:List Addr) (tn:Nat->Heap->Prop) (J:It) (H':Hp),itv= .ref it/\Inv X pins σ H' s2/\Turn X.prog X.w X.K tg J fp it tn/\tn 0 s2.heap/\(∀b∈fp,FpOk X pins H' b)/\R J H'
def PI (X:Cx)(tg iter:Expr)(wi:TI):Prop:=
 ∀(pins:List (Addr×Obj)) (s:Shared) (σ:St) (H:Hp) (R:It->Hp->Prop),Inv X pins σ H s->wi σ H R->
  wpAny (model X.prog X.w) X.A (eval iter X.env) (fun v s1=>wpAny (model X.prog X.w) X.A (pyIter v) (PIE X pins σ tg R) X.xe s1) X.xe s
theorem go_of {M:Model}{A:Around}{E:Value->Shared->Prop}{s:Shared}{tg:Expr}{it:Addr}{u:Value}{o:Obj}{n:String}{vs:Array Value}{Q:Unit->Shared->Prop}(ho:s.heap.get? it=some o)(hc:o.cls= .type n)(hd:o.data= .fields vs)
  (hn:["enumerate","zip","dict_itemiterator","dict_reverseitemiterator","odict_iterator","itertools.zip_longest","itertools.pairwise"].contains n=false)(hQ:Q () s):wpAny M A (letOwnedTupleGo tg (.ref it) u) Q E s:=by
 unfold letOwnedTupleGo
 cases tg<;>first
  |exact zc hQ
  |(cases u<;>first
    |exact zc hQ
    |(refine yD (wpAny_load ho ?_)
      rw[hc,hd]
      show wpAny M A (if (["enumerate","zip","dict_itemiterator","dict_reverseitemiterator","odict_iterator","itertools.zip_longest","itertools.pairwise"].contains n&&vs[0]? ==some (rawInt _))=true then _ else _) Q E s
      rw[zd (by intro h;rw[hn,zbF] at h;cases h)]
      exact zc hQ))
def Itl (K:W.Frag)(a:Addr):It:=
 ⟨fun i H=>∃xs x,SqL K H a xs/\xs[i]? =some x,fun i H x H'=>H'=H/\∀xs,SqL K H a xs->xs[i]? =some x,fun i H=>∃xs,SqL K H a xs/\xs.length<=i⟩
def Itt (K:W.Frag)(a:Addr):It:=
 ⟨fun i H=>∃xs x,SqT K H a xs/\xs[i]? =some x,fun i H x H'=>H'=H/\∀xs,SqT K H a xs->xs[i]? =some x,fun i H=>∃xs,SqT K H a xs/\xs.length<=i⟩
def Itr (lo:Int)(n:Nat):It:=⟨fun i _=>i<n,fun i H x H'=>H'=H/\x= .int (lo+i),fun i _=>n<=i⟩
theorem q82 {P:Program}{w:World}{K:W.Frag}{tg:Expr}(a it:Addr):Turn P w K tg (Itl K a) [it] it (fun i h=>h.IsListIter it a i) where
 mem:=by simp
 obj:=fun i h st b hb=>by
  have e:b=it:=by simpa using hb
  subst e
  obtain⟨o,e,c,d⟩:=st
  exact⟨o,e,fun v z=>by rw[d] at z;cases z⟩
 keep:=fun i h h' st k=>st.at fun o e=>k it (by simp) o e
 item:=by
  intro X hP hw hK hc i pins s σ H E I hf st hg
  subst hP hw hK
  obtain⟨xs,x,hq,hx⟩:=hg
  obtain⟨its,rv,p,hz⟩:=I.list hq
  obtain⟨u,hu,ru⟩:=rv.get hx
  obtain⟨f0,f1,f2,f3,f4,f5⟩:=hf it (by simp)
  refine wpAny_pyNext_list_item st p.isList (x:=u) (by simpa using hu) fun h' st' sb=>?_
  have I1:Inv X pins σ H {s with heap:=h'}:=I.turned (t':=s.toks) (fun b o hb e=>(sb.2 b hb).trans e) f0 f1 f3 f4 f5
  obtain⟨o,e,c,d⟩:=id st'
  exact⟨u,rfl,go_of (s:={s with heap:=h'}) e c d (by decide) ⟨x,H,I1,ru,⟨rfl,fun ys hy=>by rw[I.list_inj hy hq];exact hx⟩,st',fun b hb=>(hf b hb).1⟩⟩
 done:=by
  intro X hP hw hK hc i pins s σ H E I hf st hg
  subst hP hw hK
  obtain⟨xs,hq,hx⟩:=hg
  obtain⟨its,rv,p,hz⟩:=I.list hq
  obtain⟨f0,f1,f2,f3,f4,f5⟩:=hf it (by simp)
  have hl:=rv.length
  exact wpAny_pyNext_list_end (I.ok.hd hc) st p.isList (by simp;omega) fun h' eb=>⟨rfl,I.turned (t':=s.toks) (fun b o hb e=>eb b o hb e) f0 f1 f3 f4 f5⟩
 self:=fun _ _ _ _ _ st h=>wpAny_pyIter_listiter st h
theorem q7p {P:Program}{w:World}{K:W.Frag}{tg:Expr}(a it:Addr):Turn P w K tg (Itt K a) [it] it (fun i h=>h.IsTupleIter it a i) where
 mem:=by simp
 obj:=fun i h st b hb=>by
  have e:b=it:=by simpa using hb
  subst e
  obtain⟨o,e,c,d⟩:=st
  exact⟨o,e,fun v z=>by rw[d] at z;cases z⟩
 keep:=fun i h h' st k=>st.at fun o e=>k it (by simp) o e
 item:=by
  intro X hP hw hK hc i pins s σ H E I hf st hg
  subst hP hw hK
  obtain⟨xs,x,hq,hx⟩:=hg
  obtain⟨its,rv,p,hz⟩:=I.tuple hq
  obtain⟨u,hu,ru⟩:=rv.get hx
  obtain⟨f0,f1,f2,f3,f4,f5⟩:=hf it (by simp)
  refine wpAny_pyNext_tuple_item st (show s.heap.IsTuple a its.toArray from p) (x:=u) (by simpa using hu) fun h' st' sb=>?_
  have I1:Inv X pins σ H {s with heap:=h'}:=I.turned (t':=s.toks) (fun b o hb e=>(sb.2 b hb).trans e) f0 f1 f3 f4 f5
  obtain⟨o,e,c,d⟩:=id st'
  exact⟨u,rfl,go_of (s:={s with heap:=h'}) e c d (by decide) ⟨x,H,I1,ru,⟨rfl,fun ys hy=>by rw[I.tuple_inj hy hq];exact hx⟩,st',fun b hb=>(hf b hb).1⟩⟩
 done:=by
  intro X hP hw hK hc i pins s σ H E I hf st hg
  subst hP hw hK
  obtain⟨xs,hq,hx⟩:=hg
  obtain⟨its,rv,p,hz⟩:=I.tuple hq
  obtain⟨f0,f1,f2,f3,f4,f5⟩:=hf it (by simp)
  have hl:=rv.length
  exact wpAny_pyNext_tuple_end (I.ok.hd hc) st (show s.heap.IsTuple a its.toArray from p) (by simp;omega) fun h' eb=>⟨rfl,I.turned (t':=s.toks) (fun b o hb e=>eb b o hb e) f0 f1 f3 f4 f5⟩
 self:=fun _ _ _ _ _ st h=>wpAny_pyIter_tupleiter st h
theorem q7q {P:Program}{w:World}{K:W.Frag}{tg:Expr}(it:Addr)(lo:Int)(n:Nat):Turn P w K tg (Itr lo n) [it] it (fun i h=>IsRangeIter h it (lo+(i:Nat)*1) ((n:Int) - (i:Nat)) 1) where
 mem:=by simp
 obj:=fun i h st b hb=>by
  have e:b=it:=by simpa using hb
  subst e
  exact⟨_,st,fun v z=>by
   have z':Data.fields _=Data.cell v:=z
   cases z'⟩
 keep:=fun i h h' st k=>k it (by simp) _ st
 item:=by
  intro X hP hw hK hc i pins s σ H E I hf st hg
  subst hP hw hK
  obtain⟨f0,f1,f2,f3,f4,f5⟩:=hf it (by simp)
  have W:=Walks.range (prog:=X.prog) (w:=X.w) (I.ok.hd hc) it lo 1 n
  refine W.item i s _ _ hg st fun v h' tk hv st' kk=>?_
  obtain⟨t,rfl⟩:=hv
  have I1:Inv X pins σ H {s with heap:=h',toks:=tk}:=I.turned (fun b o hb e=>kk b o (by simpa using hb) e) f0 f1 f3 f4 f5
  refine⟨_,rfl,go_of (s:={s with heap:=h',toks:=tk}) (n:="range_iterator") st' rfl rfl (by decide) ⟨.int (lo+i),H,I1,⟨t,?_⟩,⟨rfl,rfl⟩,st',fun b hb=>(hf b hb).1⟩⟩
  rw[Int.mul_one]
 done:=by
  intro X hP hw hK hc i pins s σ H E I hf st hg
  subst hP hw hK
  obtain⟨f0,f1,f2,f3,f4,f5⟩:=hf it (by simp)
  exact wpAny_pyNext_range_end (I.ok.hd hc) st (by have:n<=i:=hg;omega) fun h' eb=>⟨rfl,I.turned (t':=s.toks) (fun b o hb e=>eb b o hb e) f0 f1 f3 f4 f5⟩
 self:=fun _ _ _ _ _ st h=>wpAny_pyIter_rangeiter st h
section
variable {X:Cx}{tg:Expr}
def qcV (K:W.Frag)(tl:TE):TI:=fun σ H R=>tl σ H fun x H1=>∃a,x= .ref a/\(∃xs,SqL K H1 a xs)/\R (Itl K a) H1
def iTup (K:W.Frag)(tl:TE):TI:=fun σ H R=>tl σ H fun x H1=>∃a,x= .ref a/\(∃xs,SqT K H1 a xs)/\R (Itt K a) H1
theorem qco {l:Expr}{tl:TE}(hl:PE X l tl):PI X tg l (qcV X.K tl):=by
 intro pins s σ H R I h
 refine thn (hl pins s σ H _ I h) fun v s1 ⟨x,H1,I1,r1,q1⟩=>?_
 obtain⟨a,e,⟨xs,hq⟩,q⟩:=q1
 subst e
 cases r1
 obtain⟨its,rv,p,hz⟩:=I1.list hq
 refine wpAny_pyIter_list p.isList ?_
 refine⟨s1.heap.objs.size,[s1.heap.objs.size],_,_,H1,rfl,I1.kept (t':=s1.toks) fun b o e=>zg _ e,q82 a _,⟨_,zB _ rfl,rfl,rfl⟩,fun b hb=>?_,q⟩
 have e:b=s1.heap.objs.size:=by simpa using hb
 subst e
 exact I1.fpOk (ze _) (I1.hok.fresh (ze _))
theorem pi_tup {l:Expr}{tl:TE}(hl:PE X l tl):PI X tg l (iTup X.K tl):=by
 intro pins s σ H R I h
 refine thn (hl pins s σ H _ I h) fun v s1 ⟨x,H1,I1,r1,q1⟩=>?_
 obtain⟨a,e,⟨xs,hq⟩,q⟩:=q1
 subst e
 cases r1
 obtain⟨its,rv,p,hz⟩:=I1.tuple hq
 refine zbR (show s1.heap.IsTuple a its.toArray from p) ?_
 refine⟨s1.heap.objs.size,[s1.heap.objs.size],_,_,H1,rfl,I1.kept (t':=s1.toks) fun b o e=>zg _ e,q7p a _,⟨_,zB _ rfl,rfl,rfl⟩,fun b hb=>?_,q⟩
 have e:b=s1.heap.objs.size:=by simpa using hb
 subst e
 exact I1.fpOk (ze _) (I1.hok.fresh (ze _))
theorem q6V {pins:List (Addr×Obj)}{σ:St}{H:Hp}{s:Shared}{R:It->Hp->Prop}{E:Value->Shared->Prop}{lo hi:Int}{t u v:Tok}{tk:Nat}(I:Inv X pins σ H s)(h1: -(2 ^ 62)<=lo)(h2:lo<2 ^ 62)(h3: -(2 ^ 62)<=hi)(h4:hi<2 ^ 62)
  (q:R (Itr lo (hi - lo).toNat) H):wpAny (model X.prog X.w) X.A (pyIter (.ref s.heap.objs.size)) (PIE X pins σ tg R) E {s with heap:=s.heap.push {cls:= .type "range",data:= .fields #[.int lo t,.int hi u,.int 1 v]},toks:=tk}:=by
 refine wpAny_pyIter_range (IsRange.new ..) (small_one h1 h2 h3 h4) ?_
 have I1:Inv X pins σ H {s with heap:=s.heap.push {cls:= .type "range",data:= .fields #[.int lo t,.int hi u,.int 1 v]},toks:=tk}:=I.kept fun b o e=>zg _ e
 refine⟨(s.heap.push {cls:= .type "range",data:= .fields #[.int lo t,.int hi u,.int 1 v]}).objs.size,[(s.heap.push {cls:= .type "range",data:= .fields #[.int lo t,.int hi u,.int 1 v]}).objs.size],_,_,H,rfl,
  I1.kept (t':=tk) fun b o e=>zg _ e,q7q _ lo (hi - lo).toNat,?_,fun b hb=>?_,q⟩
 ·have e1:lo+((0:Nat):Int)*1=lo:=by simp
  have e2:(((hi - lo).toNat:Nat):Int) - ((0:Nat):Int)=Builtin.Range.rangeSize lo hi 1:=by rw[rangeSize_one];split<;>omega
  show IsRangeIter _ _ (lo+((0:Nat):Int)*1) ((((hi - lo).toNat:Nat):Int) - ((0:Nat):Int)) 1
  rw[e1,e2]
  exact zB _ rfl
 ·have e:b=(s.heap.push {cls:= .type "range",data:= .fields #[.int lo t,.int hi u,.int 1 v]}).objs.size:=by simpa using hb
  subst e
  exact I1.fpOk (ze _) (I1.hok.fresh (ze _))
def iRng1 (ta:TA):TI:=fun σ H R=>ta σ H fun vs H1=>∃j:Int,vs=[.int j]/\ -(2 ^ 62)<=j/\j<2 ^ 62/\R (Itr 0 j.toNat) H1
def iRng2 (ta:TA):TI:=fun σ H R=>ta σ H fun vs H1=>∃i j:Int,vs=[.int i,.int j]/\(-(2 ^ 62)<=i/\i<2 ^ 62/\ -(2 ^ 62)<=j/\j<2 ^ 62)/\R (Itr i (j - i).toNat) H1
theorem q08 {a:Expr}{ta:TA}{p pos:Pos}(hg:Gl X "range")(hm:X.mg "range"=none)(ha:PA X [a] ta)(hs:starEach [a] X.env=[(false,eval a X.env)]:=by rfl):PI X tg (.Call (.Name "range" p) [a] [] pos) (iRng1 ta):=by
 intro pins s σ H R I h
 refine Call_ (q3Z I hg hm boot_range (zaK (thn (ha pos pins s σ H _ I h) fun us s1 ⟨vs,H1,I1,r1,q1⟩=>?_) hs rfl))
 obtain⟨j,e,q1,q2,q⟩:=q1
 subst e
 cases r1 with
 |cons r rr=>
  cases rr
  obtain⟨t,rfl⟩:=r
  exact call_range_1 (q6V I1 (by omega) (by omega) q1 q2 (by simpa using q))
theorem q8A {a b:Expr}{ta:TA}{p pos:Pos}(hg:Gl X "range")(hm:X.mg "range"=none)(ha:PA X [a,b] ta)(hs:starEach [a,b] X.env=[(false,eval a X.env),(false,eval b X.env)]:=by rfl)(hs2:starEach [b] X.env=[(false,eval b X.env)]:=by rfl):
  PI X tg (.Call (.Name "range" p) [a,b] [] pos) (iRng2 ta):=by
 intro pins s σ H R I h
 refine Call_ (q3Z I hg hm boot_range (zaK (thn (ha pos pins s σ H _ I h) fun us s1 ⟨vs,H1,I1,r1,q1⟩=>?_) (by rw[hs,hs2]) (by rw[hs2];rfl)))
 obtain⟨i,j,e,⟨q1,q2,q3,q4⟩,q⟩:=q1
 subst e
 cases r1 with
 |cons r rr=>
  cases rr with
  |cons r' rr=>
   cases rr
   obtain⟨t,rfl⟩:=r
   obtain⟨t',rfl⟩:=r'
   exact call_range_2 (q6V I1 q1 q2 q3 q4 q)
def tFor (wi:TI)(g:TG)(tb:TS):TS:=fun D σ H=>wi σ H fun J H1=>∃W:Nat->Nat->St->Hp->Prop,(∃m,W 0 m σ H1)/\∀i m σ H,W i m σ H->
 (J.stop i H/\D.nx σ H)\/(J.go i H/\∃N:St->Hp->Prop,(∀σ' H',N σ' H'->∃m',m'<m/\W (i+1) m' σ' H')/\∀x H',J.yld i H x H'->g x σ H' fun σ2 H2=>tb {D with nx:=N,ct:=N,bk:=D.nx} σ2 H2)
def q4r (fp:List Addr)(h:Heap):List (Addr×Obj):=fp.filterMap fun b=>(h.get? b).map fun o=>(b,o)
theorem q13 {fp:List Addr}{h:Heap}{b:Addr}{o:Obj}(hb:b∈fp)(e:h.get? b=some o):(b,o)∈q4r fp h:=zaE.mpr ⟨b,hb,by rw[e];rfl⟩
theorem q8R {fp:List Addr}{h:Heap}{p:Addr×Obj}(hp:p∈q4r fp h):p.1∈fp/\h.get? p.1=some p.2:=by
 obtain⟨b,hb,e⟩:=zaE.mp hp
 cases q:h.get? b with
 |none=>rw[q] at e;cases e
 |some o=>
  rw[q] at e
  have e':(b,o)=p:=zH e
  subst e'
  exact⟨hb,q⟩
theorem Inv.pinned {pins:List (Addr×Obj)}{σ:St}{H:Hp}{s:Shared}{fp:List Addr}(I:Inv X pins σ H s)(hf:∀b∈fp,FpOk X pins H b)(ho:∀b∈fp,∃o,s.heap.get? b=some o/\∀v,o.data≠ .cell v):Inv X (pins++q4r fp s.heap) σ H s:=
 I.pins_of fun p hp=>(zr.mp hp).elim (fun z=>I.pin p (zI _ z)) fun z=>by
  obtain⟨hb,e⟩:=q8R z
  obtain⟨f0,f1,f2,_⟩:=hf p.1 hb
  obtain⟨o,e',d⟩:=ho p.1 hb
  rw[e] at e';cases e'
  exact⟨e,f0,f1,f2,d⟩
theorem Inv.unpinned {pins pl:List (Addr×Obj)}{σ:St}{H:Hp}{s:Shared}(I:Inv X (pins++pl) σ H s):Inv X pins σ H s:=I.pins_of fun p hp=>I.pin p (zI _ (zY _ hp))
theorem q0u {iter:Expr}{body:List Stmt}{wi:TI}{g:TG}{tb:TS}{pos:Pos}(hp:PassesOwn (model X.prog X.w) X.A X.env X.xe)(hc:X.calm=true)(hi:PI X tg iter wi)(hg:PG X tg g)(hb:PSs X body tb)
  (hs:∀x,foldedSetIterable iter X.env x=pure x:=by intro _;rfl):PS X (.For tg iter body [] pos) (tFor wi g tb):=by
 intro pins s σ H D I h
 refine wpAny_For (thn (hi pins s σ H _ I h) fun v s1 h1=>thn h1 fun itv s2 h2=>?_) hs
 obtain⟨it,fp,tn,J,H2,e,I2,T,st2,f2,W,⟨m0,w0⟩,turn⟩:=h2
 subst e
 -- what stays true of the iterator's objects through the loop
 have stat:∀{H':Hp},(∀b∈fp,H' b=none)->∀b∈fp,FpOk X pins H' b:=fun hn b hb=>⟨hn b hb,(f2 b hb).2⟩
 refine codeAny_forLoop_any (fun n s'=>∃i σ' H',Inv X pins σ' H' s'/\tn i s'.heap/\(∀b∈fp,H' b=none)/\W i n σ' H') ?_ m0 ⟨0,σ,H2,I2,st2,fun b hb=>(f2 b hb).1,w0⟩
 rintro n s3 ⟨i,σ3,H3,I3,st3,fr3,w3⟩
 rcases turn i n σ3 H3 w3 with⟨stop,qn⟩|⟨go,N,hN,step⟩
 ·refine zbc hp (thn (T.done X rfl rfl rfl hc i pins s3 σ3 H3 X.xe I3 (stat fr3) st3 stop) fun r s4 ⟨hr,I4⟩=>?_)
  subst hr
  exact zbu ⟨σ3,H3,I4,qn⟩
 ·refine zbc hp (thn (T.item X rfl rfl rfl hc i pins s3 σ3 H3 X.xe I3 (stat fr3) st3 go) fun r s4 ⟨u,hr,h4⟩=>?_)
  subst hr
  refine zbc hp (thn h4 fun _ s5 ⟨x,H5,I5,r5,y5,st5,fr5⟩=>?_)
  have I5':=I5.pinned (stat fr5) (T.obj _ _ st5)
  refine zbc hp (thn (hg _ s5 σ3 H5 x u _ I5' r5 (step x H5 y5)) fun _ s6 ⟨σ6,H6,I6,q6⟩=>?_)
  refine zbc hp (thn (hb _ s6 σ6 H6 _ I6 q6) fun f s7 q7=>?_)
  have again:∀{σ7:St} {H7:Hp},Inv X (pins++q4r fp s5.heap) σ7 H7 s7->N σ7 H7->∃m,m<n/\∃i σ' H',Inv X pins σ' H' s7/\tn i s7.heap/\(∀b∈fp,H' b=none)/\W i m σ' H':=fun {σ7 H7} I7 n7=>by
   obtain⟨m',hm,w7⟩:=hN σ7 H7 n7
   refine⟨m',hm,i+1,σ7,H7,I7.unpinned,T.keep _ _ _ st5 fun b hb o e=>(I7.pin (b,o) (zI _ (zI _ (q13 hb e)))).1,fun b hb=>?_,w7⟩
   obtain⟨o,e,d⟩:=T.obj _ _ st5 b hb
   exact(I7.pin (b,o) (zI _ (zI _ (q13 hb e)))).2.1
  cases f with
  |next=>obtain⟨σ7,H7,I7,n7⟩:=q7;exact again I7 n7
  |cont=>obtain⟨σ7,H7,I7,n7⟩:=q7;exact again I7 n7
  |brk=>obtain⟨σ7,H7,I7,q7⟩:=q7;exact⟨σ7,H7,I7.unpinned,q7⟩
  |ret v=>obtain⟨x7,σ7,H7,I7,r7,q7⟩:=q7;exact⟨x7,σ7,H7,I7.unpinned,r7,q7⟩
end
abbrev R2:=V->V->Hp->VK->Prop
def OpR (X:Cx)(f:Value->Value->Sem Value)(r:R2):Prop:=
 ∀(pins:List (Addr×Obj)) (s:Shared) (σ:St) (H:Hp) (x y:V) (v u:Value) (Q:VK),Inv X pins σ H s->RelV x v->RelV y u->r x y H Q->
  wpAny (model X.prog X.w) X.A (f v u) (EP X pins σ Q) X.xe s
def q1j (X:Cx)(f:Value)(r:List V->Hp->VK->Prop):Prop:=
 ∀(pins:List (Addr×Obj)) (s:Shared) (σ:St) (H:Hp) (xs:List V) (us:List Value) (Q:VK),Inv X pins σ H s->Vals xs us->r xs H Q->
  wpAny (model X.prog X.w) X.A (call f us) (EP X pins σ Q) X.xe s
def tOp (r:R2)(ta tb:TE):TE:=fun σ H Q=>ta σ H fun x H1=>tb σ H1 fun y H2=>r x y H2 Q
def rI (C:Int->Int->Prop)(g:Int->Int->V):R2:=fun x y H Q=>∃i j,x= .int i/\y= .int j/\C i j/\Q (g i j) H
def rI0 (g:Int->Int->V):R2:=fun x y H Q=>∃i j,x= .int i/\y= .int j/\Q (g i j) H
section
variable {X:Cx}{a b c:Expr}{ta tb tc:TE}{pos:Pos}
theorem binT (ha:PE X a ta)(hb:PE X b tb){pins:List (Addr×Obj)}{s:Shared}{σ:St}{H:Hp}{R:V->V->Hp->Prop}(I:Inv X pins σ H s)
  (h:ta σ H fun x H1=>tb σ H1 fun y H2=>R x y H2){Q:Value->Shared->Prop}{f:Value->Value->Sem Value}
  (hf:∀v u s2 x y H2,Inv X pins σ H2 s2->RelV x v->RelV y u->R x y H2->wpAny (model X.prog X.w) X.A (f v u) Q X.xe s2):
  wpAny (model X.prog X.w) X.A (eval a X.env) (fun v s₁=>wpAny (model X.prog X.w) X.A (eval b X.env) (fun u s₂=>wpAny (model X.prog X.w) X.A (f v u) Q X.xe s₂) X.xe s₁) X.xe s:=by
 refine thn (ha pins s σ H _ I h) fun v s1 ⟨x,H1,I1,r1,q1⟩=>?_
 refine thn (hb pins s1 σ H1 _ I1 q1) fun u s2 ⟨y,H2,I2,r2,q2⟩=>?_
 exact hf v u s2 x y H2 I2 r1 r2 q2
theorem qm {op:Operator}{r:R2}(ho:OpR X (binaryOp op) r)(ha:PE X a ta)(hb:PE X b tb):PE X (.BinOp a op b pos) (tOp r ta tb):=by
 intro pins s σ H Q I h
 exact wpAny_BinOp (binT ha hb I h fun v u s2 x y H2 I2 rx ry q=>ho pins s2 σ H2 x y v u Q I2 rx ry q)
theorem opI {f:Value->Value->Sem Value}{C:Int->Int->Prop}{g:Int->Int->Int}
  (rule:∀(i j:Int) (t u:Tok) (s:Shared) (Q:Value->Shared->Prop) (E:Value->Shared->Prop),C i j->Q (.int (g i j) s.toks) {s with toks:=s.toks+1}->wpAny (model X.prog X.w) X.A (f (.int i t) (.int j u)) Q E s):
  OpR X f (rI C fun i j=> .int (g i j)):=by
 intro pins s σ H x y v u Q I rx ry h
 obtain⟨i,j,rfl,rfl,hc,q⟩:=h
 obtain⟨t,rfl⟩:=rx
 obtain⟨t',rfl⟩:=ry
 exact rule i j t t' s _ _ hc ⟨.int (g i j),H,I.tok _,⟨_,rfl⟩,q⟩
theorem opI0 {f:Value->Value->Sem Value}{g:Int->Int->Int}
  (rule:∀(i j:Int) (t u:Tok) (s:Shared) (Q:Value->Shared->Prop) (E:Value->Shared->Prop),Q (.int (g i j) s.toks) {s with toks:=s.toks+1}->wpAny (model X.prog X.w) X.A (f (.int i t) (.int j u)) Q E s):
  OpR X f (rI0 fun i j=> .int (g i j)):=by
 intro pins s σ H x y v u Q I rx ry h
 obtain⟨i,j,rfl,rfl,q⟩:=h
 obtain⟨t,rfl⟩:=rx
 obtain⟨t',rfl⟩:=ry
 exact rule i j t t' s _ _ ⟨.int (g i j),H,I.tok _,⟨_,rfl⟩,q⟩
theorem opB0 {f:Value->Value->Sem Value}{g:Int->Int->Bool}
  (rule:∀(i j:Int) (t u:Tok) (s:Shared) (Q:Value->Shared->Prop) (E:Value->Shared->Prop),Q (.bool (g i j)) s->wpAny (model X.prog X.w) X.A (f (.int i t) (.int j u)) Q E s):
  OpR X f (rI0 fun i j=> .bl (g i j)):=by
 intro pins s σ H x y v u Q I rx ry h
 obtain⟨i,j,rfl,rfl,q⟩:=h
 obtain⟨t,rfl⟩:=rx
 obtain⟨t',rfl⟩:=ry
 exact rule i j t t' s _ _ ⟨.bl (g i j),H,I,rfl,q⟩
def CDiv (i j:Int):Prop:=0<j/\j<1073741824
def CPow (i j:Int):Prop:=0<=j/\j<=1000000/\i.natAbs<2 ^ 64
def CMul (i j:Int):Prop:=(-(2 ^ 64)<i/\i<2 ^ 64)\/(-(2 ^ 64)<j/\j<2 ^ 64)
theorem CMul.ok {i j:Int}(h:CMul i j):IntMulOk i j:=by
 rcases h with⟨h1,h2⟩|⟨h1,h2⟩
 ·exact .of_left (intBits_le_64 h1 h2)
 ·exact .of_right (intBits_le_64 h1 h2)
theorem two_pow_nn (k:Nat):(0:Int)<=2 ^ k:=by
 rw[two_pow_cast]
 exact Int.natCast_nonneg _
theorem q03:OpR X (binaryOp .Add) (rI0 fun i j=> .int (i+j)):=opI0 fun _ _ _ _ _ _ _ q=>add_int q
theorem q2a:OpR X (binaryOp .Sub) (rI0 fun i j=> .int (i - j)):=opI0 fun _ _ _ _ _ _ _ q=>sub_int q
theorem q5U:OpR X (binaryOp .Mult) (rI CMul fun i j=> .int (i*j)):=opI fun _ _ _ _ _ _ _ hc q=>mul_int q hc.ok
theorem qV:OpR X (binaryOp .FloorDiv) (rI CDiv fun i j=> .int (i / j)):=opI fun i j _ _ _ _ _ hc q=>by
 have h1:(0:Int)<j:=hc.1
 have h2:j<1073741824:=hc.2
 exact floordiv_int (by omega) (by rw[zcu i (by omega)];exact q) (.inl (PyProof.noPylong_small (by omega)))
theorem qK:OpR X (binaryOp .Mod) (rI (fun _ j=>0<j) fun i j=> .int (i % j)):=opI fun i j _ _ _ _ _ hc q=>by
 have h1:(0:Int)<j:=hc
 exact mod_int' (by omega) (by rw[Int.fmod_eq_emod_of_nonneg i (by omega)];exact q)
theorem q72:OpR X (binaryOp .LShift) (rI CPow fun i j=> .int (i*2 ^ j.toNat)):=opI fun _ _ _ _ _ _ _ hc q=>lshift_int_small hc.1 hc.2.1 hc.2.2 q
theorem q4t:OpR X (binaryOp .RShift) (rI (fun _ j=>0<=j) fun i j=> .int (i / 2 ^ j.toNat)):=opI fun i j _ _ _ _ _ hc q=>
 rshift_int hc (by rw[zcu i (two_pow_nn _)];exact q)
theorem q4u:OpR X (binaryOp .BitAnd) (rI0 fun i j=> .int (Builtin.bitAnd i j)):=opI0 fun _ _ _ _ _ _ _ q=>and_int q
theorem op_or:OpR X (binaryOp .BitOr) (rI0 fun i j=> .int (Builtin.bitOr i j)):=opI0 fun _ _ _ _ _ _ _ q=>or_int q
theorem qby:OpR X (binaryOp .BitXor) (rI0 fun i j=> .int (Builtin.bitXor i j)):=opI0 fun _ _ _ _ _ _ _ q=>xor_int q
end
def scal:V->V->Bool
 | .non,.non=>true| .non,.int _=>true| .int _,.non=>true| .non,.bl _=>true| .bl _,.non=>true| .non,.str _=>true| .str _,.non=>true
 | .int _,.int _=>true| .bl _,.bl _=>true| .str _,.str _=>true| .byt _,.byt _=>true
 | .int _,.str _=>true| .str _,.int _=>true| .bl _,.str _=>true| .str _,.bl _=>true
 |_,_=>false
def rEq:R2:=fun x y H Q=>scal x y=true/\Q (.bl (decide (x=y))) H
def rNe:R2:=fun x y H Q=>scal x y=true/\Q (.bl (!decide (x=y))) H
theorem q9w {i j:Int}:decide (V.int i=V.int j)=(i==j):=by
 rw[zbd]
 simp
theorem qbJ {i j:Bool}:decide (V.bl i=V.bl j)=(i==j):=by
 rw[zbd]
 simp
theorem q9v {i j:Str}:decide (V.str i=V.str j)=(i==j):=by
 rw[zbd]
 simp
theorem q9x {i j:Array UInt8}:decide (V.byt i=V.byt j)=(i.toList==j.toList):=by
 rw[zbd]
 cases i
 cases j
 simp
section
variable {X:Cx}{a b c:Expr}{ta tb tc:TE}{pos:Pos}
theorem q05 {pins:List (Addr×Obj)}{σ:St}{H:Hp}{s:Shared}{Q:VK}{k k':Bool}(I:Inv X pins σ H s)(q:Q (.bl k) H)(e:k=k'):EP X pins σ Q (.bool k') s:=by
 subst e
 exact⟨.bl k,H,I,rfl,q⟩
theorem q0f:OpR X (compareOp .Eq) rEq:=by
 intro pins s σ H x y v u Q I rx ry h
 obtain⟨hs,q⟩:=h
 cases x with
 |non=>
  cases rx
  cases y with
  |non=>cases ry;exact PySem.EqNone.eq_none_none (q05 I q (by simp))
  |bl j=>cases ry;exact PySem.EqNone.eq_none_bool (q05 I q (by simp))
  |int j=>obtain⟨t',rfl⟩:=ry;exact PySem.EqNone.eq_none_int (q05 I q (by simp))
  |str j=>obtain⟨t',rfl⟩:=ry;exact PySem.EqNone.eq_none_str (q05 I q (by simp))
  |_=>exact absurd (show false=true from hs) zl
 |bl i=>
  cases rx
  cases y with
  |non=>cases ry;exact PySem.EqNone.eq_bool_none (q05 I q (by simp))
  |bl j=>cases ry;exact eq_bool (q05 I q qbJ)
  |str j=>obtain⟨t',rfl⟩:=ry;exact PySem.EqMixed.eq_bool_str (q05 I q (by simp))
  |_=>exact absurd (show false=true from hs) zl
 |int i=>
  obtain⟨t,rfl⟩:=rx
  cases y with
  |non=>cases ry;exact PySem.EqNone.eq_int_none (q05 I q (by simp))
  |int j=>obtain⟨t',rfl⟩:=ry;exact eq_int (q05 I q q9w)
  |str j=>obtain⟨t',rfl⟩:=ry;exact PySem.EqMixed.eq_int_str (q05 I q (by simp))
  |_=>exact absurd (show false=true from hs) zl
 |str i=>
  obtain⟨t,rfl⟩:=rx
  cases y with
  |non=>cases ry;exact PySem.EqNone.eq_str_none (q05 I q (by simp))
  |bl j=>cases ry;exact PySem.EqMixed.eq_str_bool (q05 I q (by simp))
  |int j=>obtain⟨t',rfl⟩:=ry;exact PySem.EqMixed.eq_str_int (q05 I q (by simp))
  |str j=>obtain⟨t',rfl⟩:=ry;exact eq_str (q05 I q q9v)
  |_=>exact absurd (show false=true from hs) zl
 |byt i=>
  obtain⟨t,rfl⟩:=rx
  cases y with
  |byt j=>obtain⟨t',rfl⟩:=ry;exact PySem.W.eq_bytes (q05 I q q9x)
  |_=>exact absurd (show false=true from hs) zl
 |_=>cases y<;>exact absurd (show false=true from hs) zl
theorem q5T:OpR X (compareOp .NotEq) rNe:=by
 intro pins s σ H x y v u Q I rx ry h
 obtain⟨hs,q⟩:=h
 cases x with
 |non=>
  cases rx
  cases y with
  |non=>cases ry;exact PySem.EqNone.ne_none_none (q05 I q (by simp))
  |bl j=>cases ry;exact PySem.EqNone.ne_none_bool (q05 I q (by simp))
  |int j=>obtain⟨t',rfl⟩:=ry;exact PySem.EqNone.ne_none_int (q05 I q (by simp))
  |str j=>obtain⟨t',rfl⟩:=ry;exact PySem.EqNone.ne_none_str (q05 I q (by simp))
  |_=>exact absurd (show false=true from hs) zl
 |bl i=>
  cases rx
  cases y with
  |non=>cases ry;exact PySem.EqNone.ne_bool_none (q05 I q (by simp))
  |bl j=>cases ry;exact ne_bool (q05 I q (zag not qbJ))
  |str j=>obtain⟨t',rfl⟩:=ry;exact PySem.EqMixed.ne_bool_str (q05 I q (by simp))
  |_=>exact absurd (show false=true from hs) zl
 |int i=>
  obtain⟨t,rfl⟩:=rx
  cases y with
  |non=>cases ry;exact PySem.EqNone.ne_int_none (q05 I q (by simp))
  |int j=>obtain⟨t',rfl⟩:=ry;exact ne_int (q05 I q (zag not q9w))
  |str j=>obtain⟨t',rfl⟩:=ry;exact PySem.EqMixed.ne_int_str (q05 I q (by simp))
  |_=>exact absurd (show false=true from hs) zl
 |str i=>
  obtain⟨t,rfl⟩:=rx
  cases y with
  |non=>cases ry;exact PySem.EqNone.ne_str_none (q05 I q (by simp))
  |bl j=>cases ry;exact PySem.EqMixed.ne_str_bool (q05 I q (by simp))
  |int j=>obtain⟨t',rfl⟩:=ry;exact PySem.EqMixed.ne_str_int (q05 I q (by simp))
  |str j=>obtain⟨t',rfl⟩:=ry;exact ne_str (q05 I q (zag not q9v))
  |_=>exact absurd (show false=true from hs) zl
 |byt i=>
  obtain⟨t,rfl⟩:=rx
  cases y with
  |byt j=>obtain⟨t',rfl⟩:=ry;exact PySem.W.ne_bytes (q05 I q (zag not q9x))
  |_=>exact absurd (show false=true from hs) zl
 |_=>cases y<;>exact absurd (show false=true from hs) zl
theorem q6v:OpR X (compareOp .Lt) (rI0 fun i j=> .bl (decide (i<j))):=opB0 fun _ _ _ _ _ _ _ q=>lt_int q
theorem qap:OpR X (compareOp .LtE) (rI0 fun i j=> .bl (decide (i<=j))):=opB0 fun _ _ _ _ _ _ _ q=>le_int q
theorem q3m:OpR X (compareOp .Gt) (rI0 fun i j=> .bl (decide (j<i))):=opB0 fun _ _ _ _ _ _ _ q=>gt_int q
theorem qcu:OpR X (compareOp .GtE) (rI0 fun i j=> .bl (decide (j<=i))):=opB0 fun _ _ _ _ _ _ _ q=>ge_int q
theorem qr (b:Expr){op:CmpOp}(h:op≠ .In:=by decide)(h2:op≠ .NotIn:=by decide):behindInMarks op b=false:=by
 have e1:(op==CmpOp.In)=false:=by cases op<;>first|rfl|exact absurd rfl h
 have e2:(op==CmpOp.NotIn)=false:=by cases op<;>first|rfl|exact absurd rfl h2
 cases b<;>simp[behindInMarks,e1,e2]
theorem qR {op:CmpOp}{r:R2}(ho:OpR X (compareOp op) r)(ha:PE X a ta)(hb:PE X b tb)(hm:behindInMarks op b=false):PE X (.Compare a [op] [b] pos) (tOp r ta tb):=by
 intro pins s σ H Q I h
 exact wpAny_Compare1 (binT ha hb I h fun v u s2 x y H2 I2 rx ry q=>ho pins s2 σ H2 x y v u Q I2 rx ry q) hm
def tTest (t:TE):TT:=fun σ H Q=>t σ H fun x H'=>∃k,x= .bl k/\Q k H'
theorem qv {op:CmpOp}{r:R2}(ho:OpR X (compareOp op) r)(ha:PE X a ta)(hb:PE X b tb)(hm:behindInMarks op b=false):PT X (.Compare a [op] [b] pos) (tTest (tOp r ta tb)):=by
 intro pins s σ H Q I h
 refine wpAny_isTrue_Compare1 (thn (ha pins s σ H _ I h) fun v s1 ⟨x,H1,I1,r1,q1⟩=>thn (hb pins s1 σ H1 _ I1 q1) fun u s2 ⟨y,H2,I2,r2,q2⟩=>
  thn (ho pins s2 σ H2 x y v u _ I2 r1 r2 q2) fun c s3 ⟨z,H3,I3,r3,k,e,q3⟩=>?_) hm
 subst e
 cases r3
 exact za3 ⟨H3,I3,q3⟩
def qbk (r r':R2)(ta tb tc:TE):TE:=fun σ H Q=>ta σ H fun x H1=>tb σ H1 fun y H2=>r x y H2 fun z H3=>∃k,z= .bl k/\
 (if k=true then tc σ H3 fun w' H4=>r' y w' H4 Q else Q (.bl false) H3)
theorem qao {op op':CmpOp}{r r':R2}(ho:OpR X (compareOp op) r)(ho':OpR X (compareOp op') r')(ha:PE X a ta)(hb:PE X b tb)(hc:PE X c tc)
  (hm:lastMarks [op,op'] [b,c]=false:=by with_unfolding_all rfl):PE X (.Compare a [op,op'] [b,c] pos) (qbk r r' ta tb tc):=by
 intro pins s σ H Q I h
 refine Compare_chain (thn (ha pins s σ H _ I h) fun v s1 ⟨x,H1,I1,r1,q1⟩=>chain_link (thn (hb pins s1 σ H1 _ I1 q1) fun u s2 ⟨y,H2,I2,r2,q2⟩=>
  thn (ho pins s2 σ H2 x y v u _ I2 r1 r2 q2) fun d s3 ⟨z,H3,I3,r3,k,e,q3⟩=>?_)) hm
 subst e
 cases r3
 refine za3 ?_
 cases k with
 |false=>exact ite_ff ⟨.bl false,H3,I3,rfl,q3⟩
 |true=>exact ite_tt (chain_last (thn (hc pins s3 σ H3 _ I3 q3) fun w' s4 ⟨z',H4,I4,r4,q4⟩=>ho' pins s4 σ H4 y z' u w' Q I4 r2 r4 q4))
theorem q5X:(sizeLine:Nat)<2 ^ 63:=by rw[sizeLine_eq];decide
theorem q3j {x:V}{us:List Value}(r:Vals [x] us):∃u,us=[u]/\RelV x u:=by
 cases r with
 |cons r1 r2=>cases r2;exact⟨_,rfl,r1⟩
theorem q9X {x y:V}{us:List Value}(r:Vals [x,y] us):∃u w',us=[u,w']/\RelV x u/\RelV y w':=by
 cases r with
 |cons r1 r2=>
  cases r2 with
  |cons r3 r4=>cases r4;exact⟨_,_,rfl,r1,r3⟩
theorem q9O (hc:X.calm=true):q1j X (.builtin "max") (fun xs H Q=>∃i j,xs=[.int i,.int j]/\Q (.int (if j>i then j else i)) H):=by
 intro pins s σ H xs us Q I r h
 obtain⟨i,j,rfl,q⟩:=h
 obtain⟨u,w',rfl,⟨t,rfl⟩,⟨t',rfl⟩⟩:=q9X r
 refine max_two_ints (I.ok.hd hc) fun h' tk k=>⟨_,H,I.kept k,?_,q⟩
 by_cases hj:j>i
 ·rw [zi hj,zi hj];exact⟨_,rfl⟩
 ·rw [zd hj,zd hj];exact⟨_,rfl⟩
theorem q9N (hc:X.calm=true):q1j X (.builtin "min") (fun xs H Q=>∃i j,xs=[.int i,.int j]/\Q (.int (if j<i then j else i)) H):=by
 intro pins s σ H xs us Q I r h
 obtain⟨i,j,rfl,q⟩:=h
 obtain⟨u,w',rfl,⟨t,rfl⟩,⟨t',rfl⟩⟩:=q9X r
 refine min_two_ints (I.ok.hd hc) fun h' tk k=>⟨_,H,I.kept k,?_,q⟩
 by_cases hj:j<i
 ·rw [zi hj,zi hj];exact⟨_,rfl⟩
 ·rw [zd hj,zd hj];exact⟨_,rfl⟩
theorem q9Q:q1j X (.type "int") (fun xs H Q=>(∃i,xs=[.int i]/\Q (.int i) H)\/∃k,xs=[.bl k]/\Q (.int (if k then 1 else 0)) H):=by
 intro pins s σ H xs us Q I r h
 rcases h with⟨i,rfl,q⟩|⟨k,rfl,q⟩
 ·obtain ⟨u,rfl,t,rfl⟩:=q3j r
  exact call_int_int ⟨.int i,H,I,⟨_,rfl⟩,q⟩
 ·obtain ⟨u,rfl,r1⟩:=q3j r
  cases r1
  exact call_int_bool ⟨.int (if k then 1 else 0),H,I.tok _,⟨_,rfl⟩,q⟩
end
structure ObjM (h:Heap)(x dx C:Addr)(mA:Str->Option Value):Prop where
 obj:h.get? x=some (PySem.W.instObj C dx)
 ns:h.Ns1 dx mA
 ne:dx≠x
theorem q8V {h:Heap}{dx:Addr}{mA:Str->Option Value}(n:h.Ns1 dx mA):∃od,h.get? dx=some od/\∀name,PySem.W.lookIn name od=some (mA name):=by
 obtain⟨o,es,ep,ho,hd,hk,_,hm⟩:=n
 refine⟨o,ho,fun name=>?_⟩
 have e:=hm name
 unfold nsFind findBy at e
 rw[<-Array.find?_toList] at e
 unfold PySem.W.lookIn
 rw[hd]
 dsimp only
 split
 ·rename_i y q
  rw[q] at e
  exact zag some e
 ·rename_i q
  rw[q] at e
  have a:es.toList.any (·.refKey)=false:=by
   rw[List.any_eq_false]
   intro y hy
   obtain⟨z,t,hkey⟩:=hk y (Array.mem_toList_iff.mp hy)
   simp[DictEntry.refKey,hkey]
  have a':¬es.toList.any (·.refKey)=true:=by rw[a];exact zl
  rw[zd a']
  exact zag some e
theorem ObjM.look {h:Heap}{x dx C:Addr}{mA:Str->Option Value}(I:ObjM h x dx C mA):∃od,PySem.W.InstAt h x (PySem.W.instObj C dx) C (some od)/\∀name,PySem.W.lookIn name od=some (mA name):=
 let ⟨od,ho,hl⟩:=q8V I.ns
 ⟨od,⟨I.obj,rfl,rfl,ho⟩,hl⟩
section
variable {prog:Program}{w:World}{A:Around}{E:Value->Shared->Prop}{s:Shared}{K:W.Frag}{x dx C f:Addr}{mA:Str->Option Value}{name:Str}{v:Value}
theorem qcX {expr:Bool}{Q:Value->Shared->Prop}(X:K.In s.heap)(I:ObjM s.heap x dx C mA)(hg:PySem.W.plainGet K C name=true)(hh:PySem.W.hasDictIn K C=true)
  (ha:PySem.W.findIn K (.ref C) name=some none)(hv:mA name=some v)(hv':PySem.W.handedIn v=true)(h:Q v {s with toks:=s.toks+1}):
  wpAny (model prog w) A (getAttr (.ref x) name expr) Q E s:=by
 obtain⟨od,J,hl⟩:=I.look
 exact PySem.W.get_value X J (zcl hg).1 (PySem.W.findObj_own hh ha rfl (by rw[hl,hv])) hv' h
theorem qaX {pl:Sem Bool}{Q:Value×List Value->Shared->Prop}(X:K.In s.heap)(I:ObjM s.heap x dx C mA)(hg:PySem.W.plainGet K C name=true)
  (hf:PySem.W.findIn K (.ref C) name=some (some (.ref f)))(ht:PySem.W.isFn K (.ref f)=true)(hv:mA name=none)(h:Q (.ref f,[.ref x]) s):
  wpAny (model prog w) A (getMethod (.ref x) name pl) Q E s:=by
 obtain⟨od,J,hl⟩:=I.look
 exact PySem.W.method_fn X J (zcl hg).1 (zcl hg).2 hf (beq_iff_eq.mp ht) (by show(PySem.W.lookIn name od).map (·.isSome)=some false;rw[hl,hv];rfl) h
theorem set_map {ns:List Str}{Q:Unit->Shared->Prop}(X:K.In s.heap)(I:ObjM s.heap x dx C mA)
  (hs:PySem.W.findIn K (.ref C) "__setattr__"=some (some (.builtin "object.__setattr__")))(hp:PySem.W.plainOver K C=true)(ht:PySem.W.takerIn K C name=some none)(hh:PySem.W.hasDictIn K C=true)
  (hw:PySem.Within mA ns)(hsz:ns.length<=sizeLine)
  (h:∀h',ObjM h' x dx C (fun y=>if y=name then some v else mA y)->Heap.SameBut dx s.heap h'->Q () {s with heap:=h',toks:=s.toks+2}):
  wpAny (model prog w) A (setAttr (.ref x) name v) Q E s:=by
 obtain⟨od,J,hl⟩:=I.look
 refine PySem.W.set_plain X J hs (PySem.W.osa_open (s:={s with toks:=s.toks+1}) (r:=none) X J hp ht fun b=>?_)
 obtain⟨cd,hc,hd'⟩:=PySem.W.any_some hh
 have hx:s.heap.get? x=some ⟨.ref C,some dx,.plain,#[]⟩:=I.obj
 refine yD (zc (yD (yD (wpAny_loadPart hx (yD (PySem.W.Looks.here (s:={s with toks:=s.toks+1}) (PySem.W.looks_clsIn X hc) ?_))))))
 rw[hd']
 refine zc (a:=some dx) (yD (zc (yD ?_)))
 refine wpAny_nsSet1 (s:={s with toks:=s.toks+1}) I.ns fun h' hn2 hs2=>?_
 obtain⟨oD,esD,epD,hoD,hdD,hcD⟩:=hn2.count (PySem.Within.cons name v hw)
 refine yD (wpAny_lookBehind hoD (by rw[hdD];exact pastItsLine_dict (zaf hcD (by rw[zac];omega))) ?_)
 exact zc (h _ ⟨(hs2.2 _ (Ne.symm I.ne)).trans I.obj,hn2,I.ne⟩ hs2)
theorem qaR {R:Result->Shared->Prop}{vs:List Value}{kw:List (Str×Value)}(X:K.In s.heap)(hm:PySem.W.makesIn K C=true)
  (hi:PySem.W.findIn K (.ref C) "__init__"=some (some (.ref f)))(hf:PySem.W.typeIn K (.ref f)=some (.type "function"))
  (h:codeAny (model prog w) (A.under (.builtin "type.__call__" ⟨.ref C::vs,kw⟩)) (.call (.ref f) ⟨.ref (s.heap.objs.size+1)::vs,kw⟩) (PySem.W.InitBack (s.heap.objs.size+1) R)
   {s with heap:=(s.heap.push PySem.W.emptyDict).push (PySem.W.instObj C s.heap.objs.size)}):
  codeAny (model prog w) A (.call (.ref C) ⟨vs,kw⟩) R s:=by
 obtain⟨hh,g,d,t,os⟩:=s
 exact PySem.W.make_core (PySem.W.makes_of X hm) (PySem.W.looks_findIn X hi) (fun self=>PySem.W.bind_fn X self hf) (.inl rfl) h
end
def putF (f:Str)(v:V):List (Str×V)->List (Str×V)
 |[]=>[(f,v)]
 |(g,x)::r=>if g=f then(g,v)::r else(g,x)::putF f v r
theorem qO (f g:Str)(v:V):∀fs:List (Str×V),(putF f v fs).lookup g=if g=f then some v else fs.lookup g
 |[]=>by
  show List.lookup g [(f,v)]=_
  by_cases h:g=f
  ·have hb:(g==f)=true:=beq_iff_eq.mpr h
   simp only[List.lookup,hb,if_pos h]
  ·have hb:(g==f)=false:=beq_eq_false_iff_ne.mpr h
   simp only[List.lookup,hb,if_neg h]
 |(k,x)::r=>by
  have ih:=qO f g v r
  rw[show putF f v ((k,x)::r)=(if k=f then(k,v)::r else(k,x)::putF f v r) from rfl]
  by_cases hk:k=f
  ·rw [zi hk]
   by_cases h:g=k
   ·have hb:(g==k)=true:=beq_iff_eq.mpr h
    simp only[List.lookup,hb,if_pos (h.trans hk)]
   ·have hb:(g==k)=false:=beq_eq_false_iff_ne.mpr h
    simp only[List.lookup,hb,if_neg (fun e:g=f=>h (e.trans hk.symm))]
  ·rw [zd hk]
   by_cases h:g=k
   ·have hb:(g==k)=true:=beq_iff_eq.mpr h
    simp only[List.lookup,hb,if_neg (fun e:g=f=>hk (h.symm.trans e))]
   ·have hb:(g==k)=false:=beq_eq_false_iff_ne.mpr h
    simp only[List.lookup,hb]
    exact ih
theorem q40 (f:Str)(v:V):∀fs:List (Str×V),f∈(putF f v fs).map (·.1)/\∀g,g∈fs.map (·.1)->g∈(putF f v fs).map (·.1)
 |[]=>⟨by simp[putF],fun g h=>by simp at h⟩
 |(k,x)::r=>by
  obtain⟨i1,i2⟩:=q40 f v r
  rw[show putF f v ((k,x)::r)=(if k=f then(k,v)::r else(k,x)::putF f v r) from rfl]
  by_cases hk:k=f
  ·rw [zi hk]
   subst hk
   exact⟨by simp,fun g h=>by simpa using h⟩
  ·rw [zd hk]
   refine⟨?_,fun g h=>?_⟩
   ·rw [zam]
    exact zw _ i1
   ·rw [zam] at h ⊢
    rcases zx.mp h with e|e
    ·exact zx.mpr (.inl e)
    ·exact zw _ (i2 g e)
theorem q3Y (f:Str)(v:V):∀fs:List (Str×V),(putF f v fs).length<=fs.length+1
 |[]=>by simp[putF]
 |(k,x)::r=>by
  have ih:=q3Y f v r
  rw[show putF f v ((k,x)::r)=(if k=f then(k,v)::r else(k,x)::putF f v r) from rfl]
  by_cases hk:k=f
  ·rw [zi hk,zac,zac];omega
  ·rw [zd hk,zac,zac];omega
theorem RelO.some_of {v:V}{o:Option Value}(r:RelO (some v) o):∃u,o=some u/\RelV v u:=by
 cases o with
 |none=>exact(show False from r).elim
 |some u=>exact⟨u,rfl,r⟩
theorem RelO.none_of {o:Option Value}(r:RelO none o):o=none:=by
 cases o with
 |none=>rfl
 |some u=>exact(show False from r).elim
theorem q9f {v:V}{u:Value}(r:RelV v u):PySem.W.handedIn u=true:=by
 cases v with
 |non=>cases(show u=Value.none from r);rfl
 |bl b=>cases(show u=Value.bool b from r);rfl
 |int i=>obtain⟨t,e⟩:=(show∃t,u=Value.int i t from r);cases e;rfl
 |str x=>obtain⟨t,e⟩:=(show∃t,u=Value.str x t from r);cases e;rfl
 |byt b=>obtain⟨t,e⟩:=(show∃t,u=Value.bytes b t from r);cases e;rfl
 |flt b=>obtain⟨t,e⟩:=(show∃t,u=Value.float b t from r);cases e;rfl
 |ref a=>cases(show u=Value.ref a from r);rfl
 |ty n=>cases(show u=Value.type n from r);rfl
section
variable {P:Program}{w:World}{H H':Hp}{h h':Heap}{a C dx:Addr}{fs fs':List (Str×V)}
theorem q4X (hok:HOk P w H h)(e:H a=some (.ins C dx fs)):∃mA,ObjM h a dx C mA/\(∀f,RelO (fs.lookup f) (mA f))/\PySem.Within mA (fs.map (·.1))/\fs.length<=1000/\H dx=some (.own a):=by
 obtain⟨d,z,ne,ob,mA,n,r,q⟩:=(show q0l P w H h a (.ins C dx fs) from hok a _ e)
 exact⟨mA,⟨ob,n,ne⟩,r,q,z,d⟩
end
structure Cls (K:W.Frag)(C:Addr):Prop where
 pg:PySem.W.plainGet K C Str.empty=true
 hd:PySem.W.hasDictIn K C=true
 po:PySem.W.plainOver K C=true
 sa:PySem.W.findIn K (.ref C) "__setattr__"=some (some (.builtin "object.__setattr__"))
theorem Cls.get {K:W.Frag}{C:Addr}(c:Cls K C)(f:Str):PySem.W.plainGet K C f=true:=c.pg
def qE (K:W.Frag)(C:Addr)(f:Str):Prop:=PySem.W.findIn K (.ref C) f=some none
theorem qE.taker {K:W.Frag}{C:Addr}{f:Str}(n:qE K C f):PySem.W.takerIn K C f=some none:=by
 unfold PySem.W.takerIn
 rw[show PySem.W.findIn K (.ref C) f=some none from n]
 rfl
structure Meth (K:W.Frag)(C:Addr)(m:Str)(f:Addr):Prop where
 at_:PySem.W.findIn K (.ref C) m=some (some (.ref f))
 fn:PySem.W.isFn K (.ref f)=true
 kp:PySem.W.keepIn K (.ref f)=true
section
variable {X:Cx}{pins:List (Addr×Obj)}{σ:St}{H:Hp}{s:Shared}{a C dx:Addr}{fs:List (Str×V)}{f:Str}{v:V}{A:Around}{E:Value->Shared->Prop}
theorem q7R {b:Bool}{Q:Value->Shared->Prop}(I:Inv X pins σ H s)(e:H a=some (.ins C dx fs))(c:Cls X.K C)(n:qE X.K C f)(l:fs.lookup f=some v)
  (h:∀u s',Inv X pins σ H s'->RelV v u->Q u s'):wpAny (model X.prog X.w) A (getAttr (.ref a) f b) Q E s:=by
 obtain⟨mA,O,r,_,_,_⟩:=q4X I.hok e
 obtain⟨u,hu,ru⟩:=RelO.some_of (v:=v) (o:=mA f) (by rw[<-l];exact r f)
 exact qcX I.kIn O (c.get f) c.hd n hu (q9f ru) (h u _ (I.tok _) ru)
theorem q4x {m:Str}{g:Addr}{pl:Sem Bool}{Q:Value×List Value->Shared->Prop}(I:Inv X pins σ H s)(e:H a=some (.ins C dx fs))(c:Cls X.K C)(k:Meth X.K C m g)(l:fs.lookup m=none)
  (h:Q (.ref g,[.ref a]) s):wpAny (model X.prog X.w) A (getMethod (.ref a) m pl) Q E s:=by
 obtain⟨mA,O,r,_,_,_⟩:=q4X I.hok e
 have hn:mA m=none:=RelO.none_of (by rw[<-l];exact r m)
 exact qaX I.kIn O (c.get m) k.at_ k.fn hn h
theorem q7v {y:V}{u:Value}{Q:Unit->Shared->Prop}(I:Inv X pins σ H s)(e:H a=some (.ins C dx fs))(c:Cls X.K C)(n:qE X.K C f)(hl:fs.length<1000)(ry:RelV y u)
  (h:∀s',Inv X pins σ (upd H a (.ins C dx (putF f y fs))) s'->Q () s'):wpAny (model X.prog X.w) A (setAttr (.ref a) f u) Q E s:=by
 obtain⟨mA,O,r,wi,_,ho⟩:=q4X I.hok e
 have hz:(fs.map (·.1)).length<=sizeLine:=by rw[yC,sizeLine_eq];omega
 refine set_map I.kIn O c.sa c.po n.taker c.hd wi hz fun h' O' sb=>h _ ?_
 have hd:∃o,h'.get? dx=some o:=let ⟨o,_,_,e',_⟩:=O'.ns;⟨o,e'⟩
 refine I.write (x:=a) (e:=dx) (by rw[e];exact True.intro) (.inr ho) (fun b q hb z=>(sb.2 b hb).trans z) hd ?_
 refine⟨by rw[qj O.ne];exact ho,?_,O.ne,O'.obj,_,O'.ns,fun g=>?_,fun g hg=>?_⟩
 ·have:=q3Y f y fs;omega
 ·show RelO ((putF f y fs).lookup g) (if g=f then some u else mA g)
  rw[qO]
  by_cases q:g=f
  ·rw [zi q,zi q];exact ry
  ·rw [zd q,zd q];exact r g
 ·by_cases q:g=f
  ·rw [q];exact(q40 f y fs).1
  ·refine (q40 f y fs).2 g (wi g fun z=>hg ?_)
   show(if g=f then some u else mA g)=none
   rw[zd q];exact z
theorem Inv.made (I:Inv X pins σ H s):Inv X pins σ (upd (upd H s.heap.objs.size (.own (s.heap.objs.size+1))) (s.heap.objs.size+1) (.ins C s.heap.objs.size []))
  {s with heap:=(s.heap.push PySem.W.emptyDict).push (PySem.W.instObj C s.heap.objs.size)}:=by
 have e1:(s.heap.push PySem.W.emptyDict).get? s.heap.objs.size=some PySem.W.emptyDict:=zB s.heap rfl
 have e2:((s.heap.push PySem.W.emptyDict).push (PySem.W.instObj C s.heap.objs.size)).get? (s.heap.objs.size+1)=some (PySem.W.instObj C s.heap.objs.size):=by
  have:=zB (s.heap.push PySem.W.emptyDict) (o:=PySem.W.instObj C s.heap.objs.size) rfl
  rwa [zbG] at this
 have e3:(s.heap.push PySem.W.emptyDict).Ns s.heap.objs.size (fun _=>none):=⟨PySem.W.emptyDict,#[],_,e1,rfl,(fun e he=>absurd he (by simp)),fun _=>rfl⟩
 have I1:=I.laid (a:=s.heap.objs.size) (o:= .own (s.heap.objs.size+1)) (h':=s.heap.push PySem.W.emptyDict) (t':=s.toks) (fun b u q=>zg _ q) (ze _) ⟨_,e1⟩
 refine I1.laid (a:=s.heap.objs.size+1) (o:= .ins C s.heap.objs.size []) (t':=s.toks) (fun b u q=>zg _ q) (Nat.le_of_eq (zbG _ _)) ?_
 have ne:s.heap.objs.size≠s.heap.objs.size+1:=zC (zb2 _)
 refine⟨by rw[qj ne,qd],zak _,ne,e2,fun _=>none,(Heap.Ns1.of_empty e3).at fun o q=>zg _ q,fun _=>True.intro,fun y hy=>absurd rfl hy⟩
theorem qdf {prog:Program}{w:World}{env:Env}{e:Expr}{f:Str}{pos:Pos}{s:Shared}{Q:Value->Shared->Prop}(hb:attributeBase e f env (eval e env)=eval e env)
  (h:wpAny (model prog w) A (eval e env) (fun o s₁=>wpAny (model prog w) A (getAttr o f true) Q E s₁) E s):wpAny (model prog w) A (eval (.Attribute e f pos) env) Q E s:=
 Attribute_any_ h (by rw[arm_eval_Attribute,hb])
end
def tFld (K:W.Frag)(ta:TE)(f:Str):TE:=fun σ H Q=>ta σ H fun x H1=>∃a C dx fs v,x= .ref a/\H1 a=some (.ins C dx fs)/\Cls K C/\qE K C f/\fs.lookup f=some v/\Q v H1
def sFld (K:W.Frag)(ta tv:TE)(f:Str):TS:=fun D σ H=>tv σ H fun y H1=>ta σ H1 fun x H2=>∃a C dx fs,x= .ref a/\H2 a=some (.ins C dx fs)/\Cls K C/\qE K C f/\fs.length<1000/\
 D.nx σ (upd H2 a (.ins C dx (putF f y fs)))
section
variable {X:Cx}{o e value:Expr}{f:Str}{pos pos' tpos:Pos}{ta tv:TE}
theorem pe_fld (he:PE X e ta)(hb:attributeBase e f X.env (eval e X.env)=eval e X.env):PE X (.Attribute e f pos) (tFld X.K ta f):=by
 intro pins s σ H Q I h
 refine qdf hb (thn (he pins s σ H _ I h) fun u s1 ⟨x,H1,I1,rx,a,C,dx,fs,v,ex,ea,c,n,l,q⟩=>?_)
 subst ex
 obtain rfl:u=Value.ref a:=rx
 exact q7R I1 ea c n l fun u' s2 I2 ru=>⟨v,H1,I2,ru,q⟩
theorem ps_fld (ha:PE X o ta)(hv:PE X value tv)(hs:swapsWith value (some (.Attribute o f pos')) pos.line X.env=pure false):PS X (.Assign [.Attribute o f pos'] value pos) (sFld X.K ta tv f):=by
 intro pins s σ H D I h
 refine plainObj_wpAny_Assign_Attribute (thn (hv pins s σ H _ I h) fun u s1 ⟨y,H1,I1,ry,q⟩=>thn (ha pins s1 σ H1 _ I1 q) fun ov s2 ⟨x,H2,I2,rx,a,C,dx,fs,ex,ea,c,n,l,q2⟩=>?_) hs
 subst ex
 obtain rfl:ov=Value.ref a:=rx
 exact q7v I2 ea c n l ry fun s3 I3=>⟨σ,_,I3,q2⟩
end
section
variable {X:Cx}{pins:List (Addr×Obj)}{σ:St}{H:Hp}{s:Shared}{A:Around}{E:Value->Shared->Prop}{Q:Value->Shared->Prop}{c:Value}{b:Bool}
inductive TyOf (K:W.Frag)(H:Hp):V->Value->Prop where
 |non:TyOf K H .non (.type "NoneType")
 |bl (x:Bool):TyOf K H (.bl x) (.type "bool")
 |int (i:Int):TyOf K H (.int i) (.type "int")
 |str (x:Str):TyOf K H (.str x) (.type "str")
 |flt (x:UInt64):TyOf K H (.flt x) (.type "float")
 |lst {a:Addr} {xs:List V} (e:H a=some (.lst xs)):TyOf K H (.ref a) (.type "list")
 |frz {a:Addr} {o:Obj} {xs:List V} (e:H a=some (.frz o (.lst xs))):TyOf K H (.ref a) (.type "list")
 |tup {a:Addr} {xs:List V} (e:H a=some (.tup xs)):TyOf K H (.ref a) (.type "tuple")
 |dK {a:Addr} {kvs:List (Key×V)} (e:H a=some (.dK kvs)):TyOf K H (.ref a) (.type "dict")
 |dT {a:Addr} {kvs:List (List Key×V)} (e:H a=some (.dT kvs)):TyOf K H (.ref a) (.type "dict")
 | ins {a C dx:Addr} {fs:List (Str×V)} (e:H a=some (.ins C dx fs)) (cl:Cls K C) (ha:PySem.W.findIn K (.ref C) "__class__"=some (some (.builtin "object.__class__")))
   (hn:PySem.W.specialIn K (.builtin "object.__class__") "__get__"=some (some (.builtin "getset_descriptor.__get__"))) (htk:PySem.W.takesIn K (.builtin "object.__class__")=some true)
   (hm:PySem.W.mroIn K C (.type "object")=some true):TyOf K H (.ref a) (.ref C)
theorem q96 {x:V}{u t:Value}(I:Inv X pins σ H s)(rx:RelV x u)(ty:TyOf X.K H x t)(e:PySem.W.kitOne X.K t c=some b)(h:∀tk,Q (.bool b) {s with toks:=tk}):
  wpAny (model X.prog X.w) A (call (.builtin "isinstance") [u,c]) Q E s:=by
 cases ty with
 |non=>cases(show u=Value.none from rx);exact zax PySem.W.kitx_none I.kIn True.intro e (fun z=>nomatch z) h
 |bl y=>cases(show u=Value.bool y from rx);exact zax PySem.W.kitx_bool I.kIn True.intro e (fun z=>nomatch z) h
 |int i=>obtain⟨t,q⟩:=(show∃t,u=Value.int i t from rx);cases q;exact zax PySem.W.kitx_int I.kIn True.intro e (fun z=>nomatch z) h
 |str y=>obtain⟨t,q⟩:=(show∃t,u=Value.str y t from rx);cases q;exact zax PySem.W.kitx_str I.kIn True.intro e (fun z=>nomatch z) h
 |flt y=>obtain⟨t,q⟩:=(show∃t,u=Value.float y t from rx);cases q;exact zax PySem.W.kitx_float I.kIn True.intro e (fun z=>nomatch z) h
 | @lst a xs ea=>
  cases(show u=Value.ref a from rx)
  obtain⟨_,_,n,_,h1⟩:=(show q0l X.prog X.w H s.heap a (.lst xs) from I.hok a _ ea)
  exact zax PySem.W.kitx_list I.kIn ⟨_,h1,rfl⟩ e (fun z=>nomatch z) h
 | @frz a ob xs ea=>
  cases(show u=Value.ref a from rx)
  obtain⟨_,_,_,n,_,h1⟩:=(show q0l X.prog X.w H s.heap a (.frz ob (.lst xs)) from I.hok a _ ea)
  exact zax PySem.W.kitx_list I.kIn ⟨_,h1,rfl⟩ e (fun z=>nomatch z) h
 | @tup a xs ea=>
  cases(show u=Value.ref a from rx)
  obtain⟨_,_,_,p⟩:=(show q0l X.prog X.w H s.heap a (.tup xs) from I.hok a _ ea)
  obtain⟨o,h1,h2,_⟩:=p
  exact zax PySem.W.kitx_tuple I.kIn ⟨o,h1,h2⟩ e (fun z=>nomatch z) h
 | @dK a kvs ea=>
  cases(show u=Value.ref a from rx)
  obtain⟨_,_,vs,_,p⟩:=(show q0l X.prog X.w H s.heap a (.dK kvs) from I.hok a _ ea)
  obtain⟨o,es,ep,h1,h2,_⟩:=p
  exact zax PySem.W.kitx_dict I.kIn ⟨o,h1,h2.1⟩ e (fun z=>nomatch z) h
 | @dT a kvs ea=>
  cases(show u=Value.ref a from rx)
  obtain⟨_,_,xs,_,o,es,ep,h1,h2,_⟩:=(show q0l X.prog X.w H s.heap a (.dT kvs) from I.hok a _ ea)
  exact zax PySem.W.kitx_dict I.kIn ⟨o,h1,h2.1⟩ e (fun z=>nomatch z) h
 | @ins a C dx fs ea cl ha hn htk hm=>
  cases(show u=Value.ref a from rx)
  obtain⟨mA,O,_⟩:=q4X I.hok ea
  obtain⟨od,J,_⟩:=O.look
  exact zax (PySem.W.kitx_own (cl.get _) cl.hd ha hn htk hm) I.kIn J e (fun z=>nomatch z) h
end
structure Room (k:Nat)(A:Around):Prop where
 hd:A.handled=none
 dp:A.depth+3*k+5<recursionLimit
 un:A.units+16*k+200<cLine
 gd:A.guards=some []
theorem Room.mono {j k:Nat}{A:Around}(r:Room k A)(h:j<=k):Room j A:=⟨r.hd,by have:=r.dp;omega,by have:=r.un;omega,r.gd⟩
theorem Room.deeper {k:Nat}{A:Around}(r:Room (k+1) A)(env:Env):Room k (A.deeper env):=
 ⟨r.hd,by have:=r.dp;show A.depth+1+3*k+5<_;omega,by have:=r.un;show A.units+3+16*k+200<_;omega,r.gd⟩
theorem q7N {A:Around}{C:Addr}{us:List Value}{kw:List (Str×Value)}:(A.under (.builtin "type.__call__" ⟨.ref C::us,kw⟩)).depth=A.depth+1:=by
 first|rfl|simp[Around.under,Code.weight,Code.isCreation,Code.isGuard,Code.isCaller,Code.frames,Code.isFrame,guardIds]
theorem q7M {A:Around}{C:Addr}{us:List Value}{kw:List (Str×Value)}:(A.under (.builtin "type.__call__" ⟨.ref C::us,kw⟩)).units=A.units+1:=by
 first|rfl|simp[Around.under,Code.cUnits,Code.frames,Code.isFrame]
theorem Room.make {k:Nat}{A:Around}(r:Room (k+1) A)(C:Addr)(us:List Value)(kw:List (Str×Value)):Room k (A.under (.builtin "type.__call__" ⟨.ref C::us,kw⟩)):=
 ⟨r.hd,by have:=r.dp;rw[q7N];omega,by have:=r.un;rw[q7M];omega,by simp[Around.under,Code.guards,Code.isGuard,guardIds,pushGuards,r.gd]⟩
theorem Room.depth {k:Nat}{A:Around}(r:Room k A):A.depth<recursionLimit:=by have:=r.dp;omega
theorem Room.units {k:Nat}{A:Around}(r:Room k A):A.units+64<cLine:=by have:=r.un;omega
def tNil:TA:=fun _ H Q=>Q [] H
def qc0 (ta:TE)(tr:TA):TA:=fun σ H Q=>ta σ H fun x H1=>tr σ H1 fun xs H2=>Q (x::xs) H2
section
variable {X:Cx}{e:Expr}{es:List Expr}{te:TE}{t:TA}{pos:Pos}
theorem qc:PA X [] tNil:=fun _ _ _ _ H Q I h=>Calls.spliced_nil ⟨[],H,I,.nil,h⟩
theorem qa (ha:PE X e te)(hr:PA X es t)(hs:starEach (e::es) X.env=(false,eval e X.env)::starEach es X.env:=by rfl):PA X (e::es) (qc0 te t):=by
 intro pos pins s σ H Q I h
 rw[hs]
 show wpAny _ _ (spliced ((false,eval e X.env)::backTo pos (starEach es X.env))) _ _ s
 refine Calls.spliced_cons (thn (ha pins s σ H _ I h) fun u s1 ⟨x,H1,I1,r1,q1⟩=>?_)
 exact thn (hr pos pins s1 σ H1 _ I1 q1) fun us s2 ⟨xs,H2,I2,r2,q2⟩=>⟨x::xs,H2,I2,.cons r1 r2,q2⟩
def tTup (t:TA):TE:=fun σ H Q=>t σ H fun xs H1=>xs.length<=sizeLine/\∀p,H1 p=none->Q (.ref p) (upd H1 p (.tup xs))
def tLst (t:TA):TE:=fun σ H Q=>t σ H fun xs H1=>xs.length<=sizeLine/\∀p,H1 p=none->Q (.ref p) (upd H1 p (.lst xs))
theorem qC {x1}(h:PA X es t):PE X (.Tuple es x1 pos) (tTup t):=by
 intro pins s σ H Q I hq
 refine wpAny_Tuple_spliced (thn (h pos pins s σ H _ I hq) fun us s1 ⟨xs,H1,I1,r,z,q⟩=>⟨by rw[<-r.length];exact z,?_⟩)
 have hf:H1 s1.heap.objs.size=none:=I1.hok.fresh (ze _)
 refine⟨.ref s1.heap.objs.size,upd H1 s1.heap.objs.size (.tup xs),I1.laid (t':=s1.toks) (fun b u e=>zg _ e) (ze _) ?_,rfl,q _ hf⟩
 exact⟨z,us,r,⟨_,zB _ rfl,rfl,_,rfl⟩⟩
theorem q0P (h:PA X es t):PE X (.List es pos) (tLst t):=by
 intro pins s σ H Q I hq
 refine wpAny_List_spliced (thn (h pos pins s σ H _ I hq) fun us s1 ⟨xs,H1,I1,r,z,q⟩=>⟨by rw[<-r.length];exact z,?_⟩)
 have hf:H1 s1.heap.objs.size=none:=I1.hok.fresh (ze _)
 refine⟨.ref s1.heap.objs.size,upd H1 s1.heap.objs.size (.lst xs),I1.laid (t':=s1.toks) (fun b u e=>zg _ e) (ze _) ?_,rfl,q _ hf⟩
 exact⟨z,us,0,r,zB _ rfl⟩
end
abbrev Sp:=List V->Hp->VK->XK->Prop
abbrev CXT:=List Env->Hp->Shared->XK->Value->Shared->Prop
structure Env0 (P:Program)(w:World)(K:W.Frag)(mg:Str->Option Value)(base:Heap)(A:Around)(outer:List Env)(s:Shared)(H:Hp):Prop where
 frames:A.frames=some outer
 mod:Mod K mg base
 bs:∀b o,base.get? b=some o->s.heap.get? b=some o/\H b=none
 bsz:base.objs.size<=s.heap.objs.size
 funs:s.heap.FunFrames base outer
 frf:∀b∈frs outer,H b=none
 hok:HOk P w H s.heap
 bare:AllBare s.gens
def CE (outer:List Env)(P:Program)(w:World)(H:Hp)(s:Shared)(Q:VK)(u:Value)(s':Shared):Prop:=
 ∃v H',s'.os=s.os/\AllBare s'.gens/\Un (frs outer) [] H H' s.heap s'.heap/\HOk P w H' s'.heap/\RelV v u/\Q v H'
def CR (CX:CXT)(outer:List Env)(P:Program)(w:World)(H:Hp)(s:Shared)(Q:VK)(E:XK)(r:Result)(s':Shared):Prop:=
 match r with
 | .ok (.ret u)=>CE outer P w H s Q u s'
 | .ok _=>False
 | .error e=>CX outer H s E e s'
structure FnOk (P:Program)(w:World)(K:W.Frag)(mg:Str->Option Value)(base:Heap)(CX:CXT)(k:Nat)(f:Addr)(fd:FuncData)(ps:List Str)(sp:Sp):Prop where
 len:∀vs H Q E,sp vs H Q E->vs.length=ps.length
 run:∀(A:Around) (outer:List Env) (s:Shared) (H:Hp) (args:Args) (us:List Value) (vs:List V) (Q:VK) (E:XK),Room k A->Env0 P w K mg base A outer s H->BindsTo s fd args (ps.zip us)->Vals vs us->sp vs H Q E->
  codeAny (model P w) A (.call (.ref f) args) (CR CX outer P w H s Q E) s
theorem Env0.make {P:Program}{w:World}{K:W.Frag}{mg:Str->Option Value}{base:Heap}{A:Around}{outer:List Env}{s:Shared}{H:Hp}(e:Env0 P w K mg base A outer s H)(C:Addr)(us:List Value)(kw:List (Str×Value)):
  Env0 P w K mg base (A.under (.builtin "type.__call__" ⟨.ref C::us,kw⟩)) outer s H:=⟨by first|exact e.frames|(simpa[Around.under,Code.envs,Code.isFrame,pushEnvs] using e.frames),e.mod,e.bs,e.bsz,e.funs,e.frf,e.hok,e.bare⟩
section
variable {X:Cx}{pins:List (Addr×Obj)}{σ:St}{H:Hp}{s s':Shared}
theorem Inv.env0 (I:Inv X pins σ H s):Env0 X.prog X.w X.K X.mg X.base X.A X.stack s H:=
 ⟨I.ok.frames,I.ok.mod,I.bs,zaf I.ok.bsz I.sz,I.stack,I.stkFree,I.hok,I.bare⟩
theorem Inv.after {Q:VK}{u:Value}(I:Inv X pins σ H s)(h:CE X.stack X.prog X.w H s Q u s'):EP X pins σ Q u s':=by
 obtain⟨v,H',os,bare,un,hok,r,q⟩:=h
 obtain⟨hh,g,d,t,os'⟩:=s'
 obtain rfl:os'=s.os:=os
 exact⟨v,H',I.call (h':=hh) (g':=g) (d':=d) (t':=t) (ch:=[]) un hok bare (fun b z=>absurd z (by simp)),r,q⟩
end
def q87 (sp:Sp)(dvs:List V)(E:XK)(t:TA):TE:=fun σ H Q=>t σ H fun vs H1=>sp (vs++dvs) H1 Q E
def q85 (C:Addr)(sp:Sp)(dvs:List V)(E:XK)(t:TA):TE:=fun σ H Q=>t σ H fun vs H1=>∀x dx,H1 x=none->H1 dx=none->dx≠x->
 sp (.ref x::(vs++dvs)) (upd (upd H1 dx (.own x)) x (.ins C dx [])) (fun v H2=>v= .non/\Q (.ref x) H2) E
def q1U (K:W.Frag)(fd:FuncData)(ps:List Str)(ds:List Value):Prop:=
 ∀(s:Shared) (us:List Value),K.In s.heap->(us++ds).length=ps.length->BindsTo s fd ⟨us,[]⟩ (ps.zip (us++ds))
theorem q1U.all {K:W.Frag}{fd:FuncData}{ps:List Str}(h:∀us:List Value,us.length=ps.length->bindArgs fd ⟨us,[]⟩=pure (ps.zip us)):q1U K fd ps []:=fun s us _ hl=>by
 rw[zM] at hl ⊢
 exact .of_eq (h us hl)
def q3i (CX:CXT)(X:Cx)(E:XK):Prop:=∀(pins:List (Addr×Obj)) (σ:St) (H:Hp) (s:Shared) (e:Value) (s':Shared),Inv X pins σ H s->CX X.stack H s E e s'->X.xe e s'
section
variable {X:Cx}{CX:CXT}{k:Nat}{f C:Addr}{fd:FuncData}{ps:List Str}{sp:Sp}{dvs:List V}{ds:List Value}{E:XK}{x m:Str}{p pos apos:Pos}{e o:Expr}{es:List Expr}{ta:TE}{t:TA}
theorem q6U {pins:List (Addr×Obj)}{σ:St}{H:Hp}{s:Shared}{Q:VK}{us:List Value}{vs:List V}(F:FnOk X.prog X.w X.K X.mg X.base CX k f fd ps sp)(hr:Room k X.A)(hb:q1U X.K fd ps ds)(hd:Vals dvs ds)(hx:q3i CX X E)
  (I:Inv X pins σ H s)(r:Vals vs us)(h:sp (vs++dvs) H Q E):wpAny (model X.prog X.w) X.A (call (.ref f) us) (EP X pins σ Q) X.xe s:=by
 have r2:Vals (vs++dvs) (us++ds):=r.append hd
 have hl:(us++ds).length=ps.length:=by rw[<-r2.length];exact F.len _ _ _ _ h
 refine wpAny_call (zcc (F.run X.A X.stack s H ⟨us,[]⟩ (us++ds) (vs++dvs) Q E hr I.env0 (hb s us I.kIn hl) r2 h) fun r s' hq=>?_)
 cases r with
 |error e=>exact hx pins σ H s e s' I hq
 |ok fl=>
  cases fl with
  |ret u=>exact I.after hq
  |next=>exact False.elim hq
  |brk=>exact False.elim hq
  |cont=>exact False.elim hq
theorem q8G (F:FnOk X.prog X.w X.K X.mg X.base CX k f fd ps sp)(hr:Room k X.A)(hg:Gl X x)(hm:X.mg x=some (.ref f))(hk:PySem.W.keepIn X.K (.ref f)=true)(hb:q1U X.K fd ps ds)(hd:Vals dvs ds)(hx:q3i CX X E)
  (ha:PA X (e::es) t)(hdb:(x==("__debug__":Str))=false:=by decide)(he:starEach (e::es) X.env=(false,eval e X.env)::starEach es X.env:=by rfl)(hpl:(backTo pos (starEach es X.env)).any (·.1)=false:=by rfl):
  PE X (.Call (.Name x p) (e::es) [] pos) (q87 sp dvs E t):=by
 intro pins s σ H Q I h
 refine zbb (q2b I hg hm ?_ hdb)
 refine zbv (h₀:=X.base) I.ok.mod.kin hk (thn (ha pos pins s σ H _ I h) fun us s1 ⟨vs,H1,I1,r,q⟩=>⟨I1.kIn,?_⟩) he hpl
 exact q6U F hr hb hd hx I1 r q
structure Mk (K:W.Frag)(C f:Addr):Prop where
 makes:PySem.W.makesIn K C=true
 init:PySem.W.findIn K (.ref C) "__init__"=some (some (.ref f))
 fn:PySem.W.isFn K (.ref f)=true
 kp:PySem.W.keepIn K (.ref C)=true
theorem q6T {pins:List (Addr×Obj)}{σ:St}{H:Hp}{s:Shared}{Q:VK}{us:List Value}{vs:List V}(M:Mk X.K C f)(F:FnOk X.prog X.w X.K X.mg X.base CX k f fd ps sp)(hr:Room (k+1) X.A)(hb:q1U X.K fd ps ds)(hd:Vals dvs ds)
  (hx:q3i CX X E)(I:Inv X pins σ H s)(r:Vals vs us)
  (h:∀x dx,H x=none->H dx=none->dx≠x->sp (.ref x::(vs++dvs)) (upd (upd H dx (.own x)) x (.ins C dx [])) (fun v H2=>v= .non/\Q (.ref x) H2) E):
  wpAny (model X.prog X.w) X.A (call (.ref C) us) (EP X pins σ Q) X.xe s:=by
 have hq:=h (s.heap.objs.size+1) s.heap.objs.size (I.hok.fresh (za9 _)) (I.hok.fresh (ze _)) (zC (zb2 _))
 have I2:=Inv.made (C:=C) I
 have r2:Vals (V.ref (s.heap.objs.size+1)::(vs++dvs)) (Value.ref (s.heap.objs.size+1)::(us++ds)):= .cons rfl (r.append hd)
 have hl:(Value.ref (s.heap.objs.size+1)::us++ds).length=ps.length:=by
  have e:=r2.length
  rw[F.len _ _ _ _ hq] at e
  exact e.symm
 refine wpAny_call (qaR (f:=f) I.kIn M.makes M.init (beq_iff_eq.mp M.fn) (zcc (F.run _ X.stack _ _ ⟨Value.ref (s.heap.objs.size+1)::us,[]⟩ (Value.ref (s.heap.objs.size+1)::(us++ds)) _ _ E (hr.make C us [])
  (I2.env0.make C us []) (hb _ (Value.ref (s.heap.objs.size+1)::us) I2.kIn hl) r2 hq) fun r s' hq'=>?_))
 cases r with
 |error e=>exact hx pins σ _ _ e s' I2 hq'
 |ok fl=>
  cases fl with
  |ret u=>
   obtain⟨v,H',I3,rv,ev,q3⟩:=I2.after hq'
   subst ev
   exact⟨rv,⟨V.ref (s.heap.objs.size+1),H',I3,rfl,q3⟩⟩
  |next=>exact False.elim hq'
  |brk=>exact False.elim hq'
  |cont=>exact False.elim hq'
theorem qcq (M:Mk X.K C f)(F:FnOk X.prog X.w X.K X.mg X.base CX k f fd ps sp)(hr:Room (k+1) X.A)(hg:Gl X x)(hm:X.mg x=some (.ref C))(hb:q1U X.K fd ps ds)(hd:Vals dvs ds)(hx:q3i CX X E)
  (ha:PA X (e::es) t)(hdb:(x==("__debug__":Str))=false:=by decide)(he:starEach (e::es) X.env=(false,eval e X.env)::starEach es X.env:=by rfl)(hpl:(backTo pos (starEach es X.env)).any (·.1)=false:=by rfl):
  PE X (.Call (.Name x p) (e::es) [] pos) (q85 C sp dvs E t):=by
 intro pins s σ H Q I h
 refine zbb (q2b I hg hm ?_ hdb)
 refine zbv (h₀:=X.base) I.ok.mod.kin M.kp (thn (ha pos pins s σ H _ I h) fun us s1 ⟨vs,H1,I1,r,q⟩=>⟨I1.kIn,?_⟩) he hpl
 exact q6T M F hr hb hd hx I1 r q
theorem qal (M:Mk X.K C f)(F:FnOk X.prog X.w X.K X.mg X.base CX k f fd ps sp)(hr:Room (k+1) X.A)(hg:Gl X x)(hm:X.mg x=some (.ref C))(hb:q1U X.K fd ps ds)(hd:Vals dvs ds)(hx:q3i CX X E)
  (hdb:(x==("__debug__":Str))=false:=by decide):PE X (.Call (.Name x p) [] [] pos) (q85 C sp dvs E tNil):=by
 intro pins s σ H Q I h
 refine zbb (q2b I hg hm ?_ hdb)
 exact PySem.W.callWith_K0 I.kIn M.kp (q6T (us:=[]) M F hr hb hd hx I .nil h)
end
structure FnScope (N P:List Str)(sc:Scope):Prop where
 kind:sc.kind= .function
 co:sc.isCoroutine=false
 gen:sc.isGenerator=false
 nd:N.Nodup
 pre:N.take P.length=P
 par:∀x∈P,sc.names.lookup x=some .local\/sc.names.lookup x=some .cell
 nofree:∀y∈sc.names,y.2≠ .free
theorem q6b {kindOf:Str->Option NameKind}{x:Str}:∀{binds:List (Str×Value)} {m:Str->Option Value},(∀v,(x,v)∉binds)->bindL kindOf binds m x=m x
 |[],_,_=>rfl
 |(n,v)::r,m,h=>by
  unfold bindL
  rw[q6b fun w hw=>h w (zw _ hw)]
  split
  ·have:x≠n:=by rintro rfl;exact h v zae
   simp[this]
  ·rfl
theorem q6d {kindOf:Str->Option NameKind}{x:Str}:∀{binds:List (Str×Value)} {m:Str->Option Value},(∀v,(x,v)∉binds)->bindC kindOf binds m x=m x
 |[],_,_=>rfl
 |(n,v)::r,m,h=>by
  unfold bindC
  rw[q6d fun w hw=>h w (zw _ hw)]
  split
  ·rfl
  ·have:x≠n:=by rintro rfl;exact h v zae
   simp[this]
theorem q6c {kindOf:Str->Option NameKind}{x:Str}{v:Value}:∀{P:List Str} {vs:List Value} {i:Nat} {m:Str->Option Value},P.Nodup->P[i]? =some x->vs[i]? =some v->kindOf x=some .local->
  bindL kindOf (P.zip vs) m x=some v
 |[],_,_,_,_,h,_,_=>by simp at h
 |_::_,[],_,_,_,_,h,_=>by simp at h
 |p::P,w::vs,0,m,nd,h1,h2,hk=>by
  simp at h1 h2;subst h1;subst h2
  show bindL kindOf ((p,w)::P.zip vs) m p=_
  unfold bindL
  rw[q6b fun v hv=>(zaZ.mp nd).1 (zcR hv).1,zi hk]
  simp
 |p::P,w::vs,i+1,m,nd,h1,h2,hk=>by
  show bindL kindOf ((p,w)::P.zip vs) m x=_
  unfold bindL
  exact q6c (i:=i) (zaZ.mp nd).2 (by simpa using h1) (by simpa using h2) hk
theorem q6e {kindOf:Str->Option NameKind}{x:Str}{v:Value}:∀{P:List Str} {vs:List Value} {i:Nat} {m:Str->Option Value},P.Nodup->P[i]? =some x->vs[i]? =some v->kindOf x≠some .local->
  bindC kindOf (P.zip vs) m x=some v
 |[],_,_,_,_,h,_,_=>by simp at h
 |_::_,[],_,_,_,_,h,_=>by simp at h
 |p::P,w::vs,0,m,nd,h1,h2,hk=>by
  simp at h1 h2;subst h1;subst h2
  show bindC kindOf ((p,w)::P.zip vs) m p=_
  unfold bindC
  rw[q6d fun v hv=>(zaZ.mp nd).1 (zcR hv).1,zd hk]
  simp
 |p::P,w::vs,i+1,m,nd,h1,h2,hk=>by
  show bindC kindOf ((p,w)::P.zip vs) m x=_
  unfold bindC
  exact q6e (i:=i) (zaZ.mp nd).2 (by simpa using h1) (by simpa using h2) hk
def start (N:List Str)(vs:List V):St:=vs.map some++List.replicate (N.length - vs.length) none
def cxOf (CX:CXT)(P:Program)(w:World)(K:W.Frag)(mg:Str->Option Value)(base:Heap)(N:List Str)(qual:Str)(scope:Scope)(f:Addr)(cd:Value)(A:Around)(outer:List Env)(s:Shared)(H:Hp)(E:XK):Cx where
 prog:=P
 w:=w
 K:=K
 mg:=mg
 base:=base
 A:=A.deeper (envOfC qual scope s.heap.objs.size f cd)
 N:=N
 s₀:=s
 H₀:=H
 env:=envOfC qual scope s.heap.objs.size f cd
 outer:=outer
 stack:=envOfC qual scope s.heap.objs.size f cd::outer
 ex:=[]
 calm:=true
 fn:=fun _=>true
 pn:=[]
 xe:=fun e s'=>wpAny (model P w) (A.deeper (envOfC qual scope s.heap.objs.size f cd)) (leaving (envOfC qual scope s.heap.objs.size f cd) e) (fun _ s''=>CX outer H s E e s'') (fun e' s''=>CX outer H s E e' s'') s'
theorem q7i {sc:Scope}{n:Nat}{x:Str}(h:sc.names.lookup x=some .cell):∃c,(cellsFrom n sc.names []).lookup x=some c:=by
 have q:=PySem.W.cellsFrom_some sc.names n [] (.inl h)
 exact Option.isSome_iff_exists.mp q
theorem q98 {CX:CXT}{P:Program}{w:World}{K:W.Frag}{mg:Str->Option Value}{base:Heap}{N ps:List Str}{qual:Str}{scope:Scope}{f:Addr}{cd:Value}{A:Around}{outer:List Env}{s s1:Shared}{H:Hp}{E:XK}{us:List Value}{vs:List V}
  (S:FnScope N ps scope)(hd:A.handled=none)(e0:Env0 P w K mg base A outer s H)(hl:vs.length=ps.length)(r:Vals vs us)
  (x:InCallC s s.heap.objs.size (bindL (envOfC qual scope s.heap.objs.size f cd).kindOf (ps.zip us) fun _=>none) (cellsFrom (s.heap.objs.size+1) scope.names []) (bindC (envOfC qual scope s.heap.objs.size f cd).kindOf (ps.zip us) fun _=>none) s1):
  Inv (cxOf CX P w K mg base N qual scope f cd A outer s H E) [] (start N vs) H s1:=by
 have hpl:ps.length<=N.length:=by have:=zag List.length S.pre;rw[zo] at this;omega
 obtain⟨h1,tk,rfl,hk⟩:=x.done
 have noA:∀b:Addr,b∉(cxOf CX P w K mg base N qual scope f cd A outer s H E).ex:=fun b z=>absurd (show b∈([]:List Addr) from z) (by simp)
 refine⟨⟨e0.mod,S.kind,rfl,rfl,ze _,fun y z c h1 h2=>?_,fun y hy=>?_,fun y c _ h=>?_,fun _=>hd,Around.frames_deeper e0.frames,.inr ⟨rfl,rfl⟩,fun b z=>absurd z (noA b),e0.bs,e0.bsz,fun b _ _=>noA b,fun b z=>absurd z (noA b),e0.funs,e0.frf⟩,
  rfl,e0.bare,Un.kept hk,⟨_,x.toInCall.ns,fun i y v h1 h2 h3=>?_⟩,fun y c h=>⟨_,x.cell y c h⟩,e0.hok.fresh (ze _),fun y c h=>?_,fun p hp=>absurd (show p∈([]:List (Addr×Obj)) from hp) (by simp),e0.hok.kept hk,?_⟩
 ·exact name_of_addr x.apart (zaN h1) (zaN h2)
 ·have hy:scope.names.lookup y=some .cell\/scope.names.lookup y=some .free:=hy
  rcases hy with hy|hy
  ·exact q7i hy
  ·exact absurd rfl (S.nofree _ (zaN hy))
 ·exact zca (x.above y c (zaN h))
 ·have hi:i<vs.length:=by
   unfold start at h2
   by_cases hi:i<vs.length
   ·exact hi
   ·rw [zS (by simpa using hi)] at h2
    rw[List.getElem?_replicate] at h2
    split at h2<;>cases h2
  have ha:vs[i]? =some v:=by
   unfold start at h2
   rw[zA (by simpa using hi),zJ] at h2
   cases e:vs[i]? with
   |none=>rw[e] at h2;cases h2
   |some a=>rw[e] at h2;cases h2;rfl
  obtain⟨u,hu,rv⟩:=r.get ha
  have hp:ps[i]? =some y:=by
   rw[<-S.pre,List.getElem?_take_of_lt (by omega)];exact h1
  have ndP:ps.Nodup:=by rw[<-S.pre];exact S.nd.sublist (z8 _ _)
  refine⟨u,rv,?_⟩
  rcases S.par y (zQ hp) with k|k
  ·exact .inl ⟨k,q6c ndP hp hu k⟩
  ·obtain ⟨c,e⟩:=q7i (n:=s.heap.objs.size+1) k
   refine .inr ⟨.inl k,c,e,?_⟩
   have q:=x.cell y c e
   rw[q6e ndP hp hu (by show scope.names.lookup y≠_;rw[k];decide)] at q
   exact q
 ·exact e0.hok.fresh (zca (x.above y c (zaN h)))
 ·unfold start
  show _=N.length
  rw[zm,yC,zb4]
  omega
theorem fn_of {CX:CXT}{P:Program}{w:World}{K:W.Frag}{mg:Str->Option Value}{base:Heap}{k:Nat}{f:Addr}{name qual:Str}{params:Arguments}{body:List Stmt}{scope:Scope}{dV kV doc pm cdv ct oc:Value}{an od:Option Addr}
  {osl:Array (Option Value)}{N ps:List Str}{sp:Sp}(lk:K.lookup f=some ⟨oc,od,.func (PySem.W.fnOf name qual params body scope dV kV doc pm an cdv ct),osl⟩)(hcd:PySem.W.codeIn K cdv qual=true)(S:FnScope N ps scope)
  (len:∀vs H Q E,sp vs H Q E->vs.length=ps.length)
  (hbody:∀(A:Around) (outer:List Env) (s:Shared) (H:Hp) (vs:List V) (Q:VK) (E:XK),Room k (A.deeper (envOfC qual scope s.heap.objs.size f cdv))->sp vs H Q E->
   ∃t,PSs (cxOf CX P w K mg base N qual scope f cdv A outer s H E) body t/\t {nx:=fun _ H'=>Q .non H',rt:=Q} (start N vs) H):
  FnOk P w K mg base CX (k+1) f (PySem.W.fnOf name qual params body scope dV kV doc pm an cdv ct) ps sp:=by
 refine⟨len,fun A outer s H args us vs Q E hr e0 hb r hsp=>?_⟩
 have hl:=len _ _ _ _ hsp
 have KX:K.In s.heap:=e0.mod.kin.keeps fun b o e=>(e0.bs b o e).1
 have lim:s.heap.NoLimit:=e0.mod.nolimit.keeps fun b o e=>(e0.bs b o e).1
 have hkind:∀y∈ps.zip us,scope.names.lookup y.1=some .local\/(scope.names.lookup y.1=some .cell/\((cellsFrom (s.heap.objs.size+1) scope.names []).lookup y.1).isSome=true):=fun⟨n,v⟩ hy=>by
  rcases S.par n (zcR hy).1 with q|q
  ·exact .inl q
  ·exact .inr ⟨q,PySem.W.cellsFrom_some _ _ _ (.inl q)⟩
 refine codeAny_call_function hr.depth (KX _ _ lk) rfl S.co S.gen rfl (PySem.W.codeRec_of KX hcd) (hb _ _ _ _ ?_)
 refine wpAny_newFunctionEnv_cells S.kind hkind fun env he s1 x=>?_
 subst he
 refine⟨lim.keeps x.toInCall.keep,codeAny_func ?_⟩
 obtain⟨t,ht,hq⟩:=hbody A outer s H vs Q E (hr.deeper _) hsp
 have I:Inv (cxOf CX P w K mg base N qual scope f cdv A outer s H E) [] (start N vs) H s1:=q98 S hr.hd e0 hl r x
 refine zZ (ht [] s1 (start N vs) H _ I hq) (fun fl s' hs=>?_) fun e s' hs=>hs
 have fin:∀{σ':St} {H':Hp} {v:V} {u:Value},Inv (cxOf CX P w K mg base N qual scope f cdv A outer s H E) [] σ' H' s'->RelV v u->Q v H'->CE outer P w H s Q u s':=
  fun {σ' H' v u} J rv q=>⟨v,H',J.os,J.bare,J.base,J.hok,rv,q⟩
 cases fl with
 |ret u=>
  obtain⟨v,σ',H',J,rv,q⟩:=hs
  exact fin J rv q
 |next=>
  obtain⟨σ',H',J,q⟩:=hs
  exact fin (v:=V.non) (u:=Value.none) J rfl q
 |brk=>
  obtain⟨_,_,_,q⟩:=hs
  exact False.elim q
 |cont=>
  obtain⟨_,_,_,q⟩:=hs
  exact False.elim q
section
variable {X:Cx}{x:Str}{p pos:Pos}{e:Expr}{es:List Expr}{t:TA}{id T:String}{r:List V->Hp->VK->Prop}
def tCB (r:List V->Hp->VK->Prop)(t:TA):TE:=fun σ H Q=>t σ H fun vs H1=>r vs H1 Q
theorem qy (hc:q1j X (.builtin id) r)(hg:Gl X x)(hm:X.mg x=none)(hv:bootBuiltins x=some (.builtin id))(ha:PA X (e::es) t)(hn:x≠"__name__":=by decide)(hdb:(x==("__debug__":Str))=false:=by decide)
  (he:starEach (e::es) X.env=(false,eval e X.env)::starEach es X.env:=by rfl)(hpl:(backTo pos (starEach es X.env)).any (·.1)=false:=by rfl):PE X (.Call (.Name x p) (e::es) [] pos) (tCB r t):=by
 intro pins s σ H Q I h
 refine zbb (q3Z I hg hm hv ?_ hn hdb)
 exact PyProof.Rows.callWith_builtin1 (thn (ha pos pins s σ H _ I h) fun us s1 ⟨vs,H1,I1,r1,q1⟩=>hc pins s1 σ H1 vs us Q I1 r1 q1) he hpl
theorem q0j (hc:q1j X (.type T) r)(hg:Gl X x)(hm:X.mg x=none)(hv:bootBuiltins x=some (.type T))(ha:PA X (e::es) t)(hn:x≠"__name__":=by decide)(hdb:(x==("__debug__":Str))=false:=by decide)
  (he:starEach (e::es) X.env=(false,eval e X.env)::starEach es X.env:=by rfl)(hpl:(backTo pos (starEach es X.env)).any (·.1)=false:=by rfl):PE X (.Call (.Name x p) (e::es) [] pos) (tCB r t):=by
 intro pins s σ H Q I h
 refine zbb (q3Z I hg hm hv ?_ hn hdb)
 exact zaK (thn (ha pos pins s σ H _ I h) fun us s1 ⟨vs,H1,I1,r1,q1⟩=>hc pins s1 σ H1 vs us Q I1 r1 q1) he hpl
end
end L2
namespace HT
open PySem PyProof.Rows
def q35:List Int->List Int->Bool
 |[],[]=>false
 |[],_::_=>true
 |_::_,[]=>false
 |x::xs,y::ys=>if x=y then q35 xs ys else decide (x<y)
theorem q4w (x y:Int)(xs ys:List Int):q35 (x::xs) (y::ys)=if x=y then q35 xs ys else decide (x<y):=rfl
theorem q4V:q35 [] []=false:=rfl
theorem q4l (y:Int)(ys:List Int):q35 [] (y::ys)=true:=rfl
theorem q4m (x:Int)(xs:List Int):q35 (x::xs) []=false:=rfl
theorem qb5 (A:Around)(s:Shared)(a:Int)(t:Tok)(c:Int)(u:Tok):∃e,SeqAt.EqAt A s (.int a t) (.int c u) e/\(e=true↔a=c):=
 ⟨(a==c),SeqAt.EqAt.int_int a t c u,by simp⟩
theorem qa5 (A:Around)(s:Shared)(a:Int)(t:Tok)(c:Int)(u:Tok)(prog:Program)(w:World)(E:Value->Shared->Prop)(Q:Value->Shared->Prop)(h:Q (.bool (decide (a<c))) s):
  wpAny (model prog w) A (richCompare .Lt (.int a t) (.int c u)) Q E s:=
 (PyProof.Rows.lt_int h:wpAny (model prog w) A (compareOp .Lt (.int a t) (.int c u)) Q E s)
section
open PySem.SeqAt
open PySem.AutoSeq1 (wpAny_loadPart')
open PySem.MeetsSeq PySem.MeetsSeq2 PySem.MeetsSeq3
theorem q4C (l b:Addr)(items items2:Array Value)(n n2:Nat)(dd dd2:Option Addr)(sl sl2:Array (Option Value))(ns ms:List Int)(hi:IntsAre items.toList ns)(hj:IntsAre items2.toList ms):
  Meets (Builtin.«tuple.__lt__» ⟨[.ref l,.ref b],[]⟩)
   (fun _ R s=>s.heap.get? l=some {cls:= .type "tuple",dict:=dd,data:= .seq items n,slots:=sl}/\s.heap.get? b=some {cls:= .type "tuple",dict:=dd2,data:= .seq items2 n2,slots:=sl2}/\
    R (.ok (.ret (.bool (q35 ns ms)))) s):=
 .of_wp fun prog w A R s h=>by
  obtain⟨hp,g,d,tk,os⟩:=s;obtain⟨hl,hb,h⟩:=h
  have f2:=AutoSeq1.sub_tuple_tuple
  have z1:items.size=ns.length:=by rw[<-hi.length];simp
  have z2:items2.size=ms.length:=by rw[<-hj.length];simp
  wp_walk using zbw hl,zbw hb,wpAny_forIn_list _ (fun rest b s'=>b.1=none/\s'=⟨hp,g,d,tk,os⟩/\∃(vs ws:List Value) (ns' ms':List Int),rest=vs.zip ws/\
   IntsAre vs ns'/\IntsAre ws ms'/\ns'.length+items2.size=ms'.length+items.size/\R (.ok (.ret (.bool (q35 ns' ms')))) ⟨hp,g,d,tk,os⟩) _
  case turn=>
   rintro⟨y,x⟩ rest b s' ⟨hb',rfl,vs,ws,ns',ms',hz,hvi,hwi,hlen,hR⟩
   cases hvi with
   |nil=>rw[List.zip_nil_left] at hz;cases hz
   |cons a t hvi'=>
    cases hwi with
    |nil=>rw[List.zip_nil_right] at hz;cases hz
    |cons c u hwi'=>
     rw[zcq] at hz
     injection hz with hyx hrest
     injection hyx with hy hx
     subst hy hx
     rw[q4w] at hR
     simp only[List.length_cons] at hlen
     obtain⟨e,he,hiff⟩:=qb5 A.in1 ⟨hp,g,d,tk,os⟩ a t c u
     refine yD (he prog w _ _ ?_)
     cases e with
     |true=>
      rw[zi (hiff.mp rfl)] at hR
      wp_walk
      exact⟨rfl,rfl,_,_,_,_,hrest,hvi',hwi',by omega,hR⟩
     |false=>
      rw[zd (fun q=>absurd (hiff.mpr q) zl)] at hR
      have hri:=qa5 A.in1 ⟨hp,g,d,tk,os⟩ a t c u prog w
      wp_walk using hri
      exact⟨_,rfl,by simpa using hR⟩
  case fin=>
   rintro⟨b1,b2⟩ s' ⟨hb',rfl,vs,ws,ns',ms',hz,hvi,hwi,hlen,hR⟩
   simp only at hb'
   subst hb'
   have hv:q35 ns' ms'=decide (items.size<items2.size):=by
    cases hvi with
    |nil=>
     cases hwi with
     |nil=>
      simp only[List.length_nil] at hlen
      rw[q4V]
      exact(zn (by omega)).symm
     |cons c u hw=>
      simp only[List.length_nil,List.length_cons] at hlen
      rw[q4l]
      exact(zu (by omega)).symm
    |cons a t hv=>
     cases hwi with
     |nil=>
      simp only[List.length_nil,List.length_cons] at hlen
      rw[q4m]
      exact(zn (by omega)).symm
     |cons c u hw=>
      rw[zcq] at hz
      cases hz
   rw[hv] at hR
   wp_walk
   exact⟨_,rfl,by simpa[Builtin.Tuple.tupleCompareSizes] using hR⟩
  case h=>
   exact⟨rfl,rfl,items.toList,items2.toList,ns,ms,rfl,hi,hj,by omega,h⟩
end
section
variable {prog:Program}{w:World}{A:Around}{E:Value->Shared->Prop}{s:Shared}
theorem q7O {l b:Addr}{items items2:Array Value}{ns ms:List Int}{Q:Value->Shared->Prop}(hl:IsTup s.heap l items)(hb:IsTup s.heap b items2)(hi:IntsAre items.toList ns)(hj:IntsAre items2.toList ms)
  (hu:A.units<cLine)(h:Q (.bool (q35 ns ms)) s):wpAny (model prog w) A (compareOp .Lt (.ref l) (.ref b)) Q E s:=by
 obtain⟨⟨cls,dd,data,sl⟩,ho,hc,n,hd⟩:=id hl
 obtain⟨⟨cls2,dd2,data2,sl2⟩,ho2,hc2,n2,hd2⟩:=id hb
 simp only at hc hd hc2 hd2
 subst hc hd hc2 hd2
 exact richCompare_meets_room (op:= .Lt) ⟨_,ho,rfl⟩ ⟨_,ho2,rfl⟩ PySem.F.slot_tuple_lt PySem.F.entry_tuple_lt (PySem.F.args_tuple_lt_2 _ _) (q4C l b items items2 n n2 dd dd2 sl sl2 ns ms hi hj)
  ⟨ho,ho2,show Value.bool (q35 ns ms)≠Value.notImplemented/\Q (.bool (q35 ns ms)) s from⟨(fun x=>nomatch x),h⟩⟩ hu
theorem qdd {t b:Addr}{vs ws:List Value}{Q:Value->Shared->Prop}(ht:IsTup s.heap t vs.toArray)(hb:IsTup s.heap b ws.toArray)(hv:vs≠[])
  (h1:ws=[]->Q (.ref t) s)(h2:ws≠[]->Q (.ref s.heap.objs.size) {s with heap:=s.heap.push {cls:= .type "tuple",data:= .seq (vs++ws).toArray}})
  (hsz:vs.length+ws.length<=sizeLine):wpAny (model prog w) A (binaryOp .Add (.ref t) (.ref b)) Q E s:=by
 obtain⟨⟨cls,dd,data,sl⟩,ho,hc,n,hd⟩:=id ht
 obtain⟨⟨cls2,dd2,data2,sl2⟩,ho2,hc2,n2,hd2⟩:=id hb
 simp only at hc hd hc2 hd2
 subst hc hd hc2 hd2
 have e:vs.toArray++ws.toArray=(vs++ws).toArray:=by simp
 by_cases hw:ws=[]
 ·exact concat_meets ⟨_,ho,rfl⟩ ⟨_,ho2,rfl⟩ noFill_tuple_add seq_tuple_add zbY zbU (zbS _ _)
   (tuple_addW1 t b vs.toArray ws.toArray n n2 dd dd2 sl sl2 (by simpa using hv) (by simp[hw])) ⟨ho,ho2,h1 hw⟩
 ·refine concat_meets ⟨_,ho,rfl⟩ ⟨_,ho2,rfl⟩ noFill_tuple_add seq_tuple_add zbY zbU (zbS _ _)
   (tuple_addW2 t b vs.toArray ws.toArray n n2 dd dd2 sl sl2 (by simpa using hv) (by simpa using hw) (by rw[List.size_toArray,List.size_toArray];exact hsz)) ⟨ho,ho2,?_⟩
  rw[e]
  exact h2 hw
def sIx (n d:Nat):Option Int->Nat
 |none=>d
 |some v=>if v<0 then(v+(n:Int)).toNat else min v.toNat n
theorem q8o (n d k:Nat):sIx n d (some (k:Int))=min k n:=by
 show(if (k:Int)<0 then((k:Int)+(n:Int)).toNat else min (k:Int).toNat n)=min k n
 rw[zd (by omega),zk]
theorem sIx_le (n d:Nat)(hd:d<=n)(o:Option Int):sIx n d o<=n:=by
 cases o with
 |none=>exact hd
 |some v=>
  show(if v<0 then(v+(n:Int)).toNat else min v.toNat n)<=n
  by_cases hv:v<0
  ·rw [zi hv];omega
  ·rw [zd hv];exact Nat.min_le_right _ _
theorem q9I (v:Int)(n d:Nat):(if v<0 then max (v+(n:Int)) 0 else min v (n:Int))=((sIx n d (some v):Nat):Int):=by
 show(if v<0 then max (v+(n:Int)) 0 else min v (n:Int))=(((if v<0 then(v+(n:Int)).toNat else min v.toNat n):Nat):Int)
 by_cases hv:v<0
 ·simp only[if_pos hv];omega
 ·simp only[if_neg hv];omega
theorem q7X (lo hi:Option Int)(n:Nat):Builtin.Slice.sliceAdjust lo hi 1 (n:Int)=(((sIx n 0 lo:Nat):Int),((sIx n n hi:Nat):Int)):=by
 have h1:¬((1:Int)<0):=by omega
 unfold Builtin.Slice.sliceAdjust
 simp only[h1,if_false]
 refine Prod.ext ?_ ?_
 ·cases lo with
  |none=>rfl
  |some v=>exact q9I v n 0
 ·cases hi with
  |none=>rfl
  |some v=>exact q9I v n n
theorem q7C (i j:Nat):Builtin.Slice.slicePlaces (i:Int) (j:Int) 1=j - i:=by
 unfold Builtin.Slice.slicePlaces
 have h1:(1:Int)>0:=by omega
 simp only[h1,if_true,Int.ediv_one]
 split<;>omega
theorem q4p {v:Value}{o:Option Int}{Q:Option Int->Shared->Prop}(p:IsPart v o)(h:Q o s):wpAny (model prog w) A (Builtin.Slice.slicePartIndex v) Q E s:=by
 cases p with
 |none=>exact slicePart_none h
 |int i t=>exact slicePart_int h
theorem q1V {sl:Addr}{vl vu:Value}{lo hi:Option Int}{n:Nat}{Q:Int×Int×Nat->Shared->Prop}(hs:s.heap.IsSliceOf sl vl vu .none)(pl:IsPart vl lo)(pu:IsPart vu hi)
  (h:Q (((sIx n 0 lo:Nat):Int),1,sIx n n hi - sIx n 0 lo) s):wpAny (model prog w) A (Builtin.Slice.sliceApplied (.ref sl) (pure (n:Int))) Q E s:=by
 obtain⟨os,hos,hcs,hds⟩:=id hs
 unfold Builtin.Slice.sliceApplied Builtin.Slice.sliceFields
 refine yD (yD (zau hos hds (x:=vl) rfl (yD (zau hos hds (x:=vu) rfl (yD (zau hos hds (x:= .none) rfl (zc ?_)))))))
 refine yD (slicePart_none ?_)
 show wpAny _ _ (if ((1:Int)==0)=true then _ else _) _ _ s
 rw[zd (by decide)]
 refine yD (q4p pl (yD (q4p pu (yD (zc ?_)))))
 show wpAny _ _ (match Builtin.Slice.sliceAdjust lo hi 1 (n:Int) with|(lo,hi)=>pure (lo,(1:Int),Builtin.Slice.slicePlaces lo hi 1)) _ _ s
 rw[q7X lo hi n]
 show wpAny _ _ (pure (((sIx n 0 lo:Nat):Int),(1:Int),Builtin.Slice.slicePlaces ((sIx n 0 lo:Nat):Int) ((sIx n n hi:Nat):Int) 1)) _ _ s
 rw[q7C]
 exact zc h
theorem qag (xs:Array Value)(i k:Nat):((List.range k).filterMap fun(m:Nat)=>xs[((i:Int)+(m:Int)*1).toNat]?).toArray=((xs.toList.drop i).take k).toArray:=by
 have e:(fun(m:Nat)=>xs[((i:Int)+(m:Int)*1).toNat]?)=fun m=>xs[i+m]? :=by
  funext m
  have:((i:Int)+(m:Int)*1).toNat=i+m:=by omega
  rw[this]
 rw[e]
 have:=pick_run xs i k
 rw[List.filterMap_map] at this
 have e2:((fun x=>xs[x]?) ∘ fun x=>i+x)=fun m=>xs[i+m]? :=rfl
 rw[e2] at this
 rw[this]
theorem q36 {t sl:Addr}{items:Array Value}{vl vu:Value}{lo hi:Option Int}{Q:Value->Shared->Prop}(ht:IsTup s.heap t items)(hs:s.heap.IsSliceOf sl vl vu .none)(pl:IsPart vl lo)(pu:IsPart vu hi)
  (hw:¬(sIx items.size 0 lo=0/\sIx items.size items.size hi=items.size))
  (h:Q (.ref s.heap.objs.size) {s with heap:=s.heap.push {cls:= .type "tuple",data:= .seq ((items.toList.drop (sIx items.size 0 lo)).take (sIx items.size items.size hi - sIx items.size 0 lo)).toArray}})
  (hsz:items.size<=sizeLine):wpAny (model prog w) A (getItem (.ref t) (.ref sl)) Q E s:=by
 have htake:sizeOk (.seq ((items.toList.drop (sIx items.size 0 lo)).take (sIx items.size items.size hi - sIx items.size 0 lo)).toArray):=by
  show((items.toList.drop (sIx items.size 0 lo)).take (sIx items.size items.size hi - sIx items.size 0 lo)).toArray.size<=sizeLine
  rw[zy,zo,zaF,zaa]
  omega
 have hj:sIx items.size items.size hi<=items.size:=sIx_le _ _ (ze _) hi
 obtain⟨os,hos,hcs,hds⟩:=id hs
 have hTs:s.TypeIs (.ref sl) "slice":=⟨os,hos,hcs⟩
 unfold getItem
 try with_reducible refine zaR ?_
 first|refine yD (zc ?_)|skip
 refine yD (wpAny_sequenceKey ht.typeIs (by decide) ?_)
 refine yD (zan (name:=Str.ofString "__getitem__") ht.typeIs zas
  (zap zas ht.typeIs entry_tuple_getitem ?_ (args_tuple_getitem _ _)))
 show wpAny _ _ (Builtin.Tuple.tupleItemsOf (.ref t) >>= _) _ _ s
 refine yD (tupleItemsOf_ ht ?_)
 refine yD (wpAny_typeOf hTs ?_)
 rw[zi (by decide)]
 refine yD (q1V hs pl pu ?_)
 have hno:¬((((sIx items.size 0 lo:Nat):Int)==0&&(1:Int)==1&&(sIx items.size items.size hi - sIx items.size 0 lo)==items.size)=true):=by
  intro q
  rw[zaT,zaT] at q
  have q1:((sIx items.size 0 lo:Nat):Int)=0:=eq_of_beq q.1.1
  have q2:sIx items.size items.size hi - sIx items.size 0 lo=items.size:=eq_of_beq q.2
  exact hw ⟨by omega,by omega⟩
 show wpAny _ _ (if (((sIx items.size 0 lo:Nat):Int)==0&&(1:Int)==1&&(sIx items.size items.size hi - sIx items.size 0 lo)==items.size)=true then _ else _) _ _ s
 rw[zd hno,qag]
 first
  |exact yD (m:=Builtin.Tuple.tupleExact _) (zad (zc ⟨_,rfl,zc h⟩) htake)
  |exact yD (m:=Builtin.Tuple.tupleExact _) (zad (yD (zc (zc ⟨_,rfl,zc h⟩))) htake)
  |exact yD (yD (m:=Builtin.Tuple.tupleExact _) (zad (zc (zc ⟨_,rfl,zc h⟩)) htake))
  |exact yD (yD (m:=Builtin.Tuple.tupleExact _) (zad (zc ⟨_,rfl,zc h⟩) htake))
end
end HT
namespace L2
open PySem PySem.Spec PyProof.Rows
abbrev TO:=St->Hp->(Option Int->Hp->Prop)->Prop
def PO (X:Cx)(e:Option Expr)(t:TO):Prop:=
 ∀(pins:List (Addr×Obj)) (s:Shared) (σ:St) (H:Hp) (Q:Option Int->Hp->Prop),Inv X pins σ H s->t σ H Q->
  wpAny (model X.prog X.w) X.A (evalPart e X.env) (fun u s'=>∃o H',Inv X pins σ H' s'/\IsPart u o/\Q o H') X.xe s
def q84:TO:=fun _ H Q=>Q none H
def tPart (t:TE):TO:=fun σ H Q=>t σ H fun x H1=>∃i,x= .int i/\Q (some i) H1
theorem q2i {ns:List Int}:∀{us:List Value},Vals (ns.map V.int) us->IntsAre us ns:=by
 induction ns with
 |nil=>intro us r;rw[List.map_nil] at r;cases r;exact .nil
 |cons n ns ih=>
  intro us r
  rw[zam] at r
  cases r with
  |cons r1 r2=>
   obtain⟨t,e⟩:=r1
   subst e
   exact .cons n t (ih r2)
section
variable {X:Cx}{e:Expr}{te:TE}{lo hi:Option Expr}{tl th:TO}{pos p2:Pos}
theorem q8z:PO X none q84:=by
 intro pins s σ H Q I h
 rw[evalPart_none]
 exact zc ⟨none,H,I,.none,h⟩
theorem q29 (h:PE X e te):PO X (some e) (tPart te):=by
 intro pins s σ H Q I hw
 rw[evalPart_some]
 refine thn (h pins s σ H _ I hw) fun u s1 ⟨x,H1,I1,r1,q1⟩=>?_
 obtain⟨i,rfl,q⟩:=q1
 obtain⟨t,rfl⟩:=r1
 exact⟨some i,H1,I1,.int i t,q⟩
def SlR (X:Cx)(r:V->Option Int->Option Int->Hp->VK->Prop):Prop:=
 ∀(pins:List (Addr×Obj)) (s:Shared) (σ:St) (H:Hp) (x:V) (v vl vu:Value) (lo hi:Option Int) (sl:Addr) (Q:VK),Inv X pins σ H s->RelV x v->s.heap.IsSliceOf sl vl vu .none->IsPart vl lo->IsPart vu hi->r x lo hi H Q->
  ∃T id,typeLookup (.type T) "__getitem__"=pure (some (.builtin id))/\s.TypeIs v T/\wpAny (model X.prog X.w) X.A (getItem v (.ref sl)) (EP X pins σ Q) X.xe s
def tSl (r:V->Option Int->Option Int->Hp->VK->Prop)(te:TE)(tl th:TO):TE:=fun σ H Q=>te σ H fun x H1=>tl σ H1 fun l H2=>th σ H2 fun u H3=>r x l u H3 Q
theorem q2P {r:V->Option Int->Option Int->Hp->VK->Prop}(hr:SlR X r)(he:PE X e te)(hl:PO X lo tl)(hu:PO X hi th):PE X (.Subscript e (.Slice lo hi none p2) pos) (tSl r te tl th):=by
 intro pins s σ H Q I h
 refine Subscript_ (thn (he pins s σ H _ I h) fun v s1 ⟨x,H1,I1,r1,q1⟩=>?_)
 refine wpAny_Slice (thn (hl pins s1 σ H1 _ I1 q1) fun vl s2 ⟨l,H2,I2,pl,q2⟩=>thn (hu pins s2 σ H2 _ I2 q2) fun vu s3 ⟨u,H3,I3,pu,q3⟩=>?_)
 rw[evalPart_none]
 refine zc ?_
 have I4:Inv X pins σ H3 {s3 with heap:=s3.heap.push {cls:= .type "slice",data:= .fields #[vl,vu,.none]}}:=I3.kept (t':=s3.toks) fun b ob q=>zg _ q
 obtain⟨T,id,hT,ht,hg⟩:=hr pins {s3 with heap:=s3.heap.push {cls:= .type "slice",data:= .fields #[vl,vu,.none]}} σ H3 x v vl vu l u s3.heap.objs.size Q I4 r1 (Heap.IsSliceOf.new ..) pl pu q3
 show wpAny (model X.prog X.w) X.A (subscriptTail e (.Slice lo hi none p2) v (.ref s3.heap.objs.size)) (EP X pins σ Q) X.xe {s3 with heap:=s3.heap.push {cls:= .type "slice",data:= .fields #[vl,vu,.none]}}
 exact tail_any (ops:=[.ref s3.heap.objs.size,v]) ht hT hg (by with_unfolding_all rfl)
def cutV (xs:List V)(lo hi:Option Int):List V:=(xs.drop (HT.sIx xs.length 0 lo)).take (HT.sIx xs.length xs.length hi - HT.sIx xs.length 0 lo)
theorem q47 (xs:List V)(lo hi:Option Int):(cutV xs lo hi).length<=xs.length:=by
 unfold cutV
 rw[zo,zaF]
 omega
def rSlT (K:W.Frag):V->Option Int->Option Int->Hp->VK->Prop:=fun x lo hi H Q=>∃a xs,x= .ref a/\SqT K H a xs/\
 ¬(HT.sIx xs.length 0 lo=0/\HT.sIx xs.length xs.length hi=xs.length)/\∀p,H p=none->Q (.ref p) (upd H p (.tup (cutV xs lo hi)))
theorem sl_tup:SlR X (rSlT X.K):=by
 intro pins s σ H x v vl vu lo hi sl Q I rx hs pl pu h
 obtain⟨a,xs,rfl,hx,hw,q⟩:=h
 cases rx
 obtain⟨its,r,ht,hz⟩:=I.tuple hx
 have hlen:its.toArray.size=xs.length:=by rw[zy];exact r.length.symm
 refine⟨"tuple",_,zas.lookup,ht.typeIs,?_⟩
 refine HT.q36 ht hs pl pu (by rw[hlen];exact hw) ?_ (by rw[hlen];exact hz)
 rw[hlen]
 refine⟨.ref s.heap.objs.size,_,I.laid (t':=s.toks) (o:= .tup (cutV xs lo hi)) (fun b ob q=>zg _ q) (ze _) ?_,rfl,q _ (I.hok.fresh (ze _))⟩
 exact⟨zaf (q47 xs lo hi) hz,_,(r.drop (HT.sIx xs.length 0 lo)).take (HT.sIx xs.length xs.length hi - HT.sIx xs.length 0 lo),IsTup.new _ _⟩
def rCatT (K:W.Frag):R2:=fun x y H Q=>∃a b xs ys,x= .ref a/\y= .ref b/\SqT K H a xs/\SqT K H b ys/\xs≠[]/\xs.length+ys.length<=sizeLine/\
 (ys=[]->Q (.ref a) H)/\(ys≠[]->∀p,H p=none->Q (.ref p) (upd H p (.tup (xs++ys))))
theorem Vals.nil_iff {xs:List V}{us:List Value}(r:Vals xs us):us=[]↔xs=[]:=by
 cases r with
 |nil=>simp
 |cons _ _=>simp
theorem q8M:OpR X (binaryOp .Add) (rCatT X.K):=by
 intro pins s σ H x y v u Q I rx ry h
 obtain⟨a,b,xs,ys,rfl,rfl,ha,hb,hx,hz,q1,q2⟩:=h
 cases rx
 cases ry
 obtain⟨its,r1,p1,_⟩:=I.tuple ha
 obtain⟨its2,r2,p2,_⟩:=I.tuple hb
 refine HT.qdd p1 p2 (fun z=>hx (r1.nil_iff.mp z)) (fun z=>⟨.ref a,H,I,rfl,q1 (r2.nil_iff.mp z)⟩) (fun z=>?_) (by rw[<-r1.length,<-r2.length];exact hz)
 refine⟨.ref s.heap.objs.size,_,I.laid (t':=s.toks) (o:= .tup (xs++ys)) (fun b ob q=>zg _ q) (ze _) ?_,rfl,q2 (fun w=>z (r2.nil_iff.mpr w)) _ (I.hok.fresh (ze _))⟩
 exact⟨by rw[zm];exact hz,_,r1.append r2,IsTup.new _ _⟩
end
def ixN (n:Nat)(i:Int):Option Nat:=if 0<=i then(if i<n then some i.toNat else none) else if -(n:Int)<=i then some (i+n).toNat else none
def atI {α:Type}(xs:List α)(i:Int):Option α:=(ixN xs.length i).bind fun j=>xs[j]?
theorem q95 {n:Nat}{i:Int}{j:Nat}(h:ixN n i=some j):seqIndex? i n=some j/\j<n/\ -(n:Int)<=i/\i<n:=by
 unfold ixN at h
 by_cases h0:0<=i
 ·rw [zi h0] at h
  by_cases h1:i<n
  ·rw [zi h1] at h
   have e:i.toNat=j:=zH h
   exact⟨by rw[seqIndex_of h0 h1,e],by omega,by omega,h1⟩
  ·rw [zd h1] at h;cases h
 ·rw [zd h0] at h
  by_cases h1: -(n:Int)<=i
  ·rw [zi h1] at h
   have e:(i+n).toNat=j:=zH h
   exact⟨by rw[seqIndex_neg (by omega) h1,e],by omega,h1,by omega⟩
  ·rw [zd h1] at h;cases h
theorem q6J {α:Type}{xs:List α}{i:Int}{v:α}(h:atI xs i=some v):∃j,seqIndex? i xs.length=some j/\xs[j]? =some v/\j<xs.length/\ -(xs.length:Int)<=i/\i<xs.length:=by
 unfold atI at h
 cases e:ixN xs.length i with
 |none=>rw[e] at h;cases h
 |some j=>
  rw[e] at h
  obtain⟨h1,h2,h3,h4⟩:=q95 e
  exact⟨j,h1,h,h2,h3,h4⟩
theorem q0n {α:Type}{xs:List α}{j:Nat}{v:α}(h:xs[j]? =some v):atI xs (j:Int)=some v:=by
 have hj:j<xs.length:=(yA h).1
 have e:ixN xs.length (j:Int)=some j:=by
  unfold ixN
  rw[zi (by omega),zi (by omega)];simp
 unfold atI;rw[e];exact h
def qdi (b:Expr):Prop:=∀o i,subscripted b false o i=operate [o,i] (getItem o i)
def IxR (X:Cx)(r:R2):Prop:=
 ∀(value slice:Expr) (pins:List (Addr×Obj)) (s:Shared) (σ:St) (H:Hp) (x y:V) (v u:Value) (Q:VK),Inv X pins σ H s->RelV x v->RelV y u->r x y H Q->
  subscripted slice false v u=operate [v,u] (getItem v u)->wpAny (model X.prog X.w) X.A (subscriptTail value slice v u) (EP X pins σ Q) X.xe s
def MtR (X:Cx)(id:String)(r:V->List V->Hp->VK->Prop):Prop:=
 ∀(pins:List (Addr×Obj)) (s:Shared) (σ:St) (H:Hp) (x:V) (xs:List V) (v:Value) (us:List Value) (Q:VK),Inv X pins σ H s->RelV x v->Vals xs us->r x xs H Q->
  wpAny (model X.prog X.w) X.A (call (.builtin id) (v::us)) (EP X pins σ Q) X.xe s
section
variable {X:Cx}{a b:Expr}{ta tb:TE}{pos:Pos}
theorem qk {r:R2}(hr:IxR X r)(ha:PE X a ta)(hb:PE X b tb)(hs:qdi b):PE X (.Subscript a b pos) (tOp r ta tb):=by
 intro pins s σ H Q I h
 exact Subscript_ (binT ha hb I h fun v u s2 x y H2 I2 rx ry q=>hr a b pins s2 σ H2 x y v u Q I2 rx ry q (hs _ _))
def rIxL (K:W.Frag):R2:=fun x y H Q=>∃p xs i v,x= .ref p/\y= .int i/\SqL K H p xs/\atI xs i=some v/\Q v H
def rIxT (K:W.Frag):R2:=fun x y H Q=>∃p xs i v,x= .ref p/\y= .int i/\SqT K H p xs/\atI xs i=some v/\Q v H
theorem qcT:IxR X (rIxL X.K):=by
 intro value slice pins s σ H x y v u Q I rx ry h hs
 obtain⟨p,xs,i,z,rfl,rfl,hq,he,q⟩:=h
 cases rx
 obtain⟨t,rfl⟩:=ry
 obtain⟨its,r,pl,hz⟩:=I.list hq
 obtain⟨j,h1,h2,h3,h4,h5⟩:=q6J he
 obtain⟨w,ew,rw'⟩:=r.get h2
 have hl:=r.length
 have hn:=q5X
 have fin:EP X pins σ Q w s:=⟨z,H,I,rw',q⟩
 by_cases h0:0<=i
 ·have hj:i.toNat=j:=by
   rw[seqIndex_of h0 h5] at h1
   exact zH h1
  exact item_listR pl.isList h0 (by omega) (by rw[hj];simpa using ew) fin hs
 ·have hj:(i+(its.toArray.size:Int)).toNat=j:=by
   rw[seqIndex_neg (by omega) h4] at h1
   rw[zy,<-hl]
   exact zH h1
  exact subscriptTail_builtinR (x:=w) pl.isList.typeIs slot_list_getitem.lookup
   (wpAny_getItem_list_neg (Q:=fun r s'=>r=w/\EP X pins σ Q r s') pl.isList (by omega) (by rw[zy]<;>omega) (by omega) (by rw[hj];simpa using ew) ⟨rfl,fin⟩) hs
theorem ix_tup:IxR X (rIxT X.K):=by
 intro value slice pins s σ H x y v u Q I rx ry h hs
 obtain⟨p,xs,i,z,rfl,rfl,hq,he,q⟩:=h
 cases rx
 obtain⟨t,rfl⟩:=ry
 obtain⟨its,r,pl,hz⟩:=I.tuple hq
 obtain⟨j,h1,h2,h3,h4,h5⟩:=q6J he
 obtain⟨w,ew,rw'⟩:=r.get h2
 have hl:=r.length
 have hn:=q5X
 have fin:EP X pins σ Q w s:=⟨z,H,I,rw',q⟩
 exact subscriptTail_builtinR (x:=w) pl.typeIs slot_tuple_getitem.lookup
  (getItem_tuple (j:=j) (Q:=fun r s'=>r=w/\EP X pins σ Q r s') pl (by omega) (by omega) (by rw[zy,<-hl];exact h1) (by simpa using ew) ⟨rfl,fin⟩) hs
theorem q7L (its:List Value)(n j:Nat)(u:Value):Obj.mapSeq (·.setIfInBounds j u) {cls:= .type "list",data:= .seq its.toArray n}={cls:= .type "list",data:= .seq (its.set j u).toArray n}:=by
 simp[Obj.mapSeq]
theorem Inv.lst {pins:List (Addr×Obj)}{σ:St}{H:Hp}{s:Shared}{p:Addr}{xs:List V}(I:Inv X pins σ H s)(h:H p=some (.lst xs)):
  ∃(its:List Value) (n:Nat),Vals xs its/\s.heap.get? p=some {cls:= .type "list",data:= .seq its.toArray n}/\xs.length<=sizeLine:=by
 obtain⟨z,its,n,r,e⟩:=I.hok p _ h
 exact⟨its,n,r,e,z⟩
theorem Inv.lstUpd {pins:List (Addr×Obj)}{σ:St}{H:Hp}{s:Shared}{p:Addr}{xs ys:List V}{its its':List Value}{n n':Nat}{f:Obj->Obj}(I:Inv X pins σ H s)(h:H p=some (.lst xs))
  (ho:s.heap.get? p=some {cls:= .type "list",data:= .seq its.toArray n})(hf:f {cls:= .type "list",data:= .seq its.toArray n}={cls:= .type "list",data:= .seq its'.toArray n'})(r:Vals ys its')(hz:ys.length<=sizeLine)(t:Nat):
  Inv X pins σ (upd H p (.lst ys)) {s with heap:=s.heap.update p f,toks:=t}:=by
 have e:(s.heap.update p f).get? p=some {cls:= .type "list",data:= .seq its'.toArray n'}:=by
  rw[zaC f ho (by rw[hf]<;>rfl),hf]
 refine I.write (x:=p) (e:=p) (by rw[h];trivial) (.inl rfl) (fun b u hb q=>(zaB _ _ (Ne.symm hb)).trans q) ⟨_,e⟩ ?_
 exact⟨hz,its',n',r,e⟩
def rSetL:V->V->V->Hp->(Hp->Prop)->Prop:=fun o i v H Q=>∃p xs k j,o= .ref p/\i= .int k/\H p=some (.lst xs)/\ixN xs.length k=some j/\Q (upd H p (.lst (xs.set j v)))
theorem q6Q:PSet X rSetL:=by
 intro pins s σ H o i v ov iv u Q I ro ri rv h
 obtain⟨p,xs,k,j,rfl,rfl,hp,hj,q⟩:=h
 cases ro
 obtain⟨t,rfl⟩:=ri
 obtain⟨its,n,r,ho,hz⟩:=I.lst hp
 obtain⟨h1,h2,h3,h4⟩:=q95 hj
 have hl:=r.length
 have hn:=q5X
 have I':Inv X pins σ (upd H p (.lst (xs.set j v))) {s with heap:=s.heap.update p (Obj.mapSeq (·.setIfInBounds j u))}:=
  I.lstUpd hp ho (q7L its n j u) (r.set rv j) (by rw[List.length_set];exact hz) s.toks
 by_cases h0:0<=k
 ·have hk:k.toNat=j:=by
   rw[seqIndex_of h0 h4] at h1
   exact zH h1
  exact PySem.W.ki_setAt ho h0 (by omega) (by rw[zy,<-hl];exact h4) (by rw[hk];exact⟨_,I',q⟩)
 ·have hk:(k+(its.toArray.size:Int)).toNat=j:=by
   rw[seqIndex_neg (by omega) h3] at h1
   rw[zy,<-hl]
   exact zH h1
  exact PySem.W.ki_setBack ho (by omega) (by rw[zy,<-hl];exact h3) (by omega) (by rw[hk];exact⟨_,I',q⟩)
theorem q5t (lo hi:Option Int)(n:Nat):(sliceBounds lo hi none n).1=((HT.sIx n 0 lo:Nat):Int)/\(sliceBounds lo hi none n).2.1=((HT.sIx n n hi:Nat):Int)/\(sliceBounds lo hi none n).2.2=1:=by
 refine⟨?_,?_,rfl⟩
 ·cases lo with
  |none=>simp[sliceBounds,HT.sIx]
  |some i=>
   simp only[sliceBounds,HT.sIx,Option.getD_none,show(1:Int)>0 by decide,if_true]
   by_cases h:i<0
   ·simp only[h,if_true]<;>omega
   ·simp only[h,if_false]<;>omega
 ·cases hi with
  |none=>simp[sliceBounds,HT.sIx]
  |some i=>
   simp only[sliceBounds,HT.sIx,Option.getD_none,show(1:Int)>0 by decide,if_true]
   by_cases h:i<0
   ·simp only[h,if_true]<;>omega
   ·simp only[h,if_false]<;>omega
theorem q4J (its:List Value)(lo hi:Option Int):slicePick its.toArray lo hi none=((its.drop (HT.sIx its.length 0 lo)).take (HT.sIx its.length its.length hi - HT.sIx its.length 0 lo)).toArray:=by
 obtain⟨h1,h2,h3⟩:=q5t lo hi its.toArray.size
 unfold slicePick
 rw[h1,h2,h3]
 simp only[sliceRange_one,pick_run,List.size_toArray]<;>rfl
def rSlL (K:W.Frag):V->Option Int->Option Int->Hp->VK->Prop:=fun x lo hi H Q=>∃a xs,x= .ref a/\SqL K H a xs/\∀p,H p=none->Q (.ref p) (upd H p (.lst (cutV xs lo hi)))
theorem qc8:SlR X (rSlL X.K):=by
 intro pins s σ H x v vl vu lo hi sl Q I rx hs pl pu h
 obtain⟨a,xs,rfl,hx,q⟩:=h
 cases rx
 obtain⟨its,r,ht,hz⟩:=I.list hx
 have hlen:=r.length
 refine⟨"list",_,slot_list_getitem.lookup,ht.isList.typeIs,?_⟩
 refine wpAny_getItem_list_slice ht.isList hs pl pu .none (by simp) ?_ (by rw[List.size_toArray]<;>omega)
 rw[q4J,<-hlen]
 refine⟨.ref s.heap.objs.size,_,I.laid (t':=s.toks) (o:= .lst (cutV xs lo hi)) (fun b ob q=>zg _ q) (ze _) ?_,rfl,q _ (I.hok.fresh (ze _))⟩
 exact⟨zaf (q47 xs lo hi) hz,_,0,(r.drop (HT.sIx xs.length 0 lo)).take (HT.sIx xs.length xs.length hi - HT.sIx xs.length 0 lo),zB _ rfl⟩
def q2D:V->Bool
 | .non=>true
 | .bl _=>true
 | .int _=>true
 | .str _=>true
 |_=>false
def eqV:V->V->Bool
 | .non,.non=>true
 | .bl a,.bl b=>a==b
 | .bl a,.int b=>(if a then 1 else 0)==b
 | .int a,.bl b=>a==(if b then 1 else 0)
 | .int a,.int b=>a==b
 | .str a,.str b=>a==b
 |_,_=>false
theorem q7d {A:Around}{s:Shared}{y x:V}{u v:Value}(ry:RelV y u)(rx:RelV x v)(fy:q2D y=true)(fx:q2D x=true):SeqAt.EqAt A s u v (eqV y x):=by
 cases y with
 |non=>
  cases ry
  cases x with
  |non=>cases rx;exact SeqAt.EqAt.same _
  |bl b=>cases rx;exact SeqAt.EqAt.none_bool b
  |int b=>obtain⟨t,rfl⟩:=rx;exact SeqAt.EqAt.none_int b t
  |str b=>obtain⟨t,rfl⟩:=rx;exact SeqAt.EqAt.none_str b t
  |_=>exact absurd (show false=true from fx) zl
 |bl a=>
  cases ry
  cases x with
  |non=>cases rx;exact SeqAt.EqAt.bool_none a
  |bl b=>cases rx;exact SeqAt.EqAt.bool_bool a b
  |int b=>obtain⟨t,rfl⟩:=rx;exact SeqAt.EqAt.bool_int a b t
  |str b=>obtain⟨t,rfl⟩:=rx;exact SeqAt.EqAt.bool_str a b t
  |_=>exact absurd (show false=true from fx) zl
 |int a=>
  obtain⟨t',rfl⟩:=ry
  cases x with
  |non=>cases rx;exact SeqAt.EqAt.int_none a t'
  |bl b=>cases rx;exact SeqAt.EqAt.int_bool a t' b
  |int b=>obtain⟨t,rfl⟩:=rx;exact SeqAt.EqAt.int_int a t' b t
  |str b=>obtain⟨t,rfl⟩:=rx;exact SeqAt.EqAt.int_str a t' b t
  |_=>exact absurd (show false=true from fx) zl
 |str a=>
  obtain⟨t',rfl⟩:=ry
  cases x with
  |non=>cases rx;exact SeqAt.EqAt.str_none a t'
  |bl b=>cases rx;exact SeqAt.EqAt.str_bool a t' b
  |int b=>obtain⟨t,rfl⟩:=rx;exact SeqAt.EqAt.str_int a t' b t
  |str b=>obtain⟨t,rfl⟩:=rx;exact SeqAt.EqAt.str_str a t' b t
  |_=>exact absurd (show false=true from fx) zl
 |_=>exact absurd (show false=true from fy) zl
theorem q68:q1j X (.builtin "len") (fun xs H Q=>∃p ys,xs=[.ref p]/\(SqL X.K H p ys\/SqT X.K H p ys)/\Q (.int ys.length) H):=by
 intro pins s σ H xs us Q I r h
 obtain⟨p,ys,rfl,hq,q⟩:=h
 obtain⟨u,rfl,rx⟩:=q3j r
 cases rx
 have hn:=q5X
 rcases hq with hq|hq
 ·obtain ⟨its,r',pl,hz⟩:=I.list hq
  have hlen:=r'.length
  exact Calls.call_len_list pl.isList (by simp only[List.size_toArray]<;>omega) ⟨.int ys.length,H,I.tok _,⟨s.toks+1,by rw[zy,hlen]⟩,q⟩
 ·obtain ⟨its,r',pl,hz⟩:=I.tuple hq
  have hlen:=r'.length
  exact len_tuple pl (by simp only[List.size_toArray]<;>omega) ⟨.int ys.length,H,I.tok _,⟨s.toks+1,by rw[zy,hlen]⟩,q⟩
theorem q67:q1j X (.type "list") (fun xs H Q=>∃p ys,xs=[.ref p]/\(SqL X.K H p ys\/SqT X.K H p ys)/\∀l,H l=none->Q (.ref l) (upd H l (.lst ys))):=by
 intro pins s σ H xs us Q I r h
 obtain⟨p,ys,rfl,hq,q⟩:=h
 obtain⟨u,rfl,rx⟩:=q3j r
 cases rx
 have fin:∀(its:List Value),Vals ys its->ys.length<=sizeLine->∀(h':Heap) (c':Nat),(∀b o',s.heap.get? b=some o'->h'.get? b=some o')->
   h'.get? s.heap.objs.size=some {cls:= .type "list",dict:=none,data:= .seq its.toArray c',slots:= #[]}->EP X pins σ Q (.ref s.heap.objs.size) {s with heap:=h'}:=fun its r' hz h' c' kp e=>
  ⟨.ref s.heap.objs.size,_,I.laid (t':=s.toks) kp (ze _) (show q0l X.prog X.w _ h' _ (.lst ys) from⟨hz,its,c',r',e⟩),rfl,q _ (I.hok.fresh (ze _))⟩
 rcases hq with hq|hq
 ·obtain ⟨its,r',pl,hz⟩:=I.list hq
  have hlen:=r'.length
  obtain⟨o,ho,hc,n,hd⟩:=pl.isList
  exact call_list_seq p (.inl rfl) ho hc hd (fun h' c' kp e=>fin its r' hz h' c' kp e) (by simp only[List.size_toArray]<;>omega)
 ·obtain ⟨its,r',pl,hz⟩:=I.tuple hq
  have hlen:=r'.length
  obtain⟨o,ho,hc,n,hd⟩:=pl
  exact call_list_seq p (.inr rfl) ho hc hd (fun h' c' kp e=>fin its r' hz h' c' kp e) (by simp only[List.size_toArray]<;>omega)
theorem q57:q1j X (.type "tuple") (fun xs H Q=>∃p ys,xs=[.ref p]/\((SqL X.K H p ys/\∀l,H l=none->Q (.ref l) (upd H l (.tup ys)))\/(SqT X.K H p ys/\Q (.ref p) H))):=by
 intro pins s σ H xs us Q I r h
 obtain⟨p,ys,rfl,h⟩:=h
 obtain⟨u,rfl,rx⟩:=q3j r
 cases rx
 rcases h with⟨hq,q⟩|⟨hq,q⟩
 ·obtain ⟨its,r',pl,hz⟩:=I.list hq
  have hlen:=r'.length
  refine call_tuple_list pl.isList (fun h' kp=>?_) (by simp only[List.size_toArray]<;>omega)
  have I1:Inv X pins σ H {s with heap:=h'}:=I.kept (t':=s.toks) kp
  have I2:Inv X pins σ (upd H h'.objs.size (.tup ys)) {s with heap:=h'.push {cls:= .type "tuple",data:= .seq its.toArray}}:=
   I1.laid (t':=s.toks) (fun b o e=>zg _ e) (ze _) (show q0l X.prog X.w _ _ _ (.tup ys) from⟨hz,its,r',IsTup.new _ _⟩)
  exact⟨.ref h'.objs.size,_,I2,rfl,q _ (I1.hok.fresh (ze _))⟩
 ·obtain ⟨its,r',pl,hz⟩:=I.tuple hq
  exact call_tuple_same pl ⟨.ref p,H,I,rfl,q⟩
def tyV (K:W.Frag)(T:String)(x:V)(H:Hp):Prop:=match x with
 | .str _=>T="str"
 | .int _=>T="int"
 | .ref p=>(T="list"/\∃xs,SqL K H p xs)\/(T="tuple"/\∃o,K.lookup p=some o/\o.cls= .type "tuple"/\o.dict=none)\/
   (T="dict"/\((∃kvs,H p=some (.dK kvs))\/∃kvs,H p=some (.dT kvs)))\/(T="set"/\∃S n,H p=some (.set S n))
 |_=>False
theorem qbd {pins:List (Addr×Obj)}{σ:St}{H:Hp}{s:Shared}{T:String}{x:V}{v:Value}(I:Inv X pins σ H s)(r:RelV x v)(ty:tyV X.K T x H):
  s.TypeIs v T/\∀a,v= .ref a->∃ob,s.heap.get? a=some ob/\ob.dict=none:=by
 cases x with
 |str z=>
  obtain⟨t,rfl⟩:=r
  cases(show T="str" from ty)
  exact⟨typeIs_str s z t,fun _ e=>nomatch e⟩
 |int i=>
  obtain⟨t,rfl⟩:=r
  cases(show T="int" from ty)
  exact⟨typeIs_int s i t,fun _ e=>nomatch e⟩
 |ref p=>
  cases r
  rcases ty with⟨rfl,xs,hq⟩|⟨rfl,o,hk,hc,hd⟩|⟨rfl,hk⟩|⟨rfl,S,n,hk⟩
  ·obtain ⟨its,_,pl,_⟩:=I.list hq
   refine⟨pl.isList.typeIs,fun a e=>?_⟩
   cases e
   obtain⟨o,n,e,c,hd,_⟩:=pl
   exact⟨o,e,hd⟩
  ·refine ⟨⟨o,I.kIn p o hk,hc⟩,fun a e=>?_⟩
   cases e
   exact⟨o,I.kIn _ o hk,hd⟩
  ·have z:∃o,s.heap.get? p=some o/\o.ExactDict:=by
    rcases hk with⟨kvs,hk⟩|⟨kvs,hk⟩
    ·obtain ⟨_,_,_,_,o,_,_,e,ex,_⟩:=I.hok p _ hk
     exact⟨o,e,ex⟩
    ·obtain ⟨_,_,_,_,o,_,_,e,ex,_⟩:=I.hok p _ hk
     exact⟨o,e,ex⟩
   obtain⟨o,e,ex⟩:=z
   refine⟨⟨o,e,ex.1⟩,fun a e2=>?_⟩
   cases e2
   exact⟨o,e,ex.2.1⟩
  ·obtain ⟨o,_,_,_,e,ex,_⟩:=I.hok p _ hk
   refine⟨⟨o,e,ex.1⟩,fun a e2=>?_⟩
   cases e2
   exact⟨o,e,ex.2.1⟩
 |_=>exact False.elim ty
def tBM0 (K:W.Frag)(T:String)(r:V->List V->Hp->VK->Prop)(to:TE):TE:=fun σ H Q=>to σ H fun x H1=>tyV K T x H1/\r x [] H1 Q
def tBM (K:W.Frag)(T:String)(r:V->List V->Hp->VK->Prop)(to:TE)(t:TA):TE:=fun σ H Q=>to σ H fun x H1=>tyV K T x H1/\t σ H1 fun xs H2=>r x xs H2 Q
variable {o e:Expr}{es:List Expr}{to:TE}{t:TA}{name:Str}{apos cpos:Pos}{T id:String}{r:V->List V->Hp->VK->Prop}
theorem qbx (pa:PlainAttrs T)(slot:Slot T name id)(hty:typeOf (.builtin id)=pure (.type "method_descriptor"))(hm:MtR X id r)(ho:PE X o to)
  (hbase:attributeBase o name X.env (eval o X.env)=eval o X.env:=by rfl)(hline:(apos.endLine==cpos.line)=true:=by rfl):PE X (.Call (.Attribute o name apos) [] [] cpos) (tBM0 X.K T r to):=by
 intro pins s σ H Q I h
 refine wpAny_Call_method0_late hbase hline (thn (ho pins s σ H _ I h) fun v s1 ⟨x,H1,I1,r1,ty,q1⟩=>?_)
 obtain⟨h1,h2⟩:=qbd I1 r1 ty
 exact⟨T,id,pa,slot,hty,h1,h2,zbB rfl (PySem.evalArgs_none (hm pins s1 σ H1 x [] v [] Q I1 r1 .nil q1))⟩
theorem q2A (pa:PlainAttrs T)(slot:Slot T name id)(hty:typeOf (.builtin id)=pure (.type "method_descriptor"))(hm:MtR X id r)(ho:PE X o to)(ha:PA X (e::es) t)
  (hbase:attributeBase o name X.env (eval o X.env)=eval o X.env:=by rfl)
  (hfew:((backTo cpos (starEach (e::es) X.env)).all (fun x=> !x.1)&&(backToKw cpos (keywordEach [] X.env)).all (fun x=>x.1.isSome)
   &&decide ((e::es).length+([]:List Keyword).length+(if ([]:List Keyword).isEmpty then 0 else 1)<30))=true:=by rfl)
  (hline:(apos.endLine==cpos.line)=true:=by rfl)(hs:starEach (e::es) X.env=(false,eval e X.env)::starEach es X.env:=by rfl)(hplain:(backTo cpos (starEach es X.env)).any (·.1)=false:=by rfl):
  PE X (.Call (.Attribute o name apos) (e::es) [] cpos) (tBM X.K T r to t):=by
 intro pins s σ H Q I h
 refine wpAny_Call_method_late hbase hfew hline rfl (thn (ho pins s σ H _ I h) fun v s1 ⟨x,H1,I1,r1,ty,q1⟩=>?_)
 obtain⟨h1,h2⟩:=qbd I1 r1 ty
 refine⟨T,id,pa,slot,hty,h1,h2,?_⟩
 have hA:=ha cpos pins s1 σ H1 _ I1 q1
 rw[hs] at hA ⊢
 refine zbB (by show(false||(backTo cpos (starEach es X.env)).any (·.1))=false;rw[hplain]<;>rfl) (zcd ?_)
 exact thn hA fun us s2 ⟨vs,H2,I2,r2,q2⟩=>hm pins s2 σ H2 x vs v us Q I2 r1 r2 q2
end
def MtM (X:Cx)(id:String)(r:V->List V->Hp->VK->Prop):Prop:=
 ∀(pins:List (Addr×Obj)) (s:Shared) (σ:St) (H:Hp) (x:V) (xs:List V) (v:Value) (us:List Value) (Q:VK),Inv X pins σ H s->RelV x v->Vals xs us->r x xs H Q->
  wpAny (model X.prog X.w) X.A (call (.builtin id) (v::us)) (EP X pins σ Q) X.xe s
theorem Vals.one:∀{x:V} {us:List Value},Vals [x] us->∃u,us=[u]/\RelV x u
 |_,_,.cons r .nil=>⟨_,rfl,r⟩
theorem Vals.zero:∀{us:List Value},Vals [] us->us=[]
 |_,.nil=>rfl
theorem Vals.dropLast {xs:List V}{us:List Value}(h:Vals xs us):Vals xs.dropLast us.dropLast:=by
 induction h with
 |nil=>exact .nil
 |cons r t ih=>
  cases t with
  |nil=>exact .nil
  |cons q t'=>exact .cons r ih
theorem Vals.rep {xs:List V}{us:List Value}(h:Vals xs us):∀k:Nat,Vals (List.replicate k xs).flatten (List.replicate k us).flatten
 |0=> .nil
 |k+1=>by
  rw[zbp,zbp,zbD,zbD]
  exact Vals.append h (Vals.rep h k)
theorem q7S {α:Type}(l:List α):l.eraseIdx (l.length - 1)=l.dropLast:=by
 induction l with
 |nil=>rfl
 |cons a r ih=>
  cases r with
  |nil=>rfl
  |cons b r=>
   have e:(a::b::r).length - 1=((b::r).length - 1)+1:=by
    have h1:(a::b::r).length=r.length+2:=rfl
    have h2:(b::r).length=r.length+1:=rfl
    omega
   rw[e,List.eraseIdx_cons_succ,ih]
   all_goals rfl
theorem q61 (its:List Value):∀(k:Nat) (acc:List Value),
  List.foldl (fun x1 x2=>x1++x2) acc.toArray (List.replicate k its.toArray)=(acc++(List.replicate k its).flatten).toArray
 |0,acc=>by simp
 |k+1,acc=>by
  have e:acc.toArray++its.toArray=(acc++its).toArray:=by simp
  have e2:(acc++its)++(List.replicate k its).flatten=acc++(List.replicate (k+1) its).flatten:=by
   rw[zbp,zbD,zq]
  rw[<-e2,<-q61 its k (acc++its),<-e,zbp,List.foldl_cons]
section
variable {X:Cx}{pins:List (Addr×Obj)}{σ:St}{H:Hp}{s:Shared}{l b:Addr}{xs ys zs:List V}
theorem Inv.lset {its its':List Value}{n:Nat}{f:Array Value->Array Value}{t':Nat}(I:Inv X pins σ H s)(hH:H l=some (.lst xs))
  (e:s.heap.get? l=some {cls:= .type "list",data:= .seq its.toArray n})(hf:f its.toArray=its'.toArray)(hv:Vals ys its')(hz:ys.length<=sizeLine):
  Inv X pins σ (upd H l (.lst ys)) {s with heap:=s.heap.update l (Obj.mapSeq f),toks:=t'}:=by
 have q:=PySem.IsL.update e f
 rw[hf] at q
 refine I.write (x:=l) (e:=l) (by rw[hH];exact trivial) (.inl rfl) (fun b' u hb hu=>(zaB s.heap (Obj.mapSeq f) (Ne.symm hb)).trans hu) ⟨_,q⟩ ?_
 exact⟨hz,its',_,hv,q⟩
theorem Inv.lnew {its:List Value}{t':Nat}(I:Inv X pins σ H s)(hv:Vals ys its)(hz:ys.length<=sizeLine):
  Inv X pins σ (upd H s.heap.objs.size (.lst ys)) {s with heap:=s.heap.push {cls:= .type "list",data:= .seq its.toArray},toks:=t'}:=
 I.laid (fun _ _ q=>zg _ q) (ze _) ⟨hz,its,0,hv,zB _ rfl⟩
theorem Inv.fresh (I:Inv X pins σ H s):H s.heap.objs.size=none:=I.hok.fresh (ze _)
theorem Inv.lstM (I:Inv X pins σ H s)(hH:H l=some (.lst xs)):xs.length<=sizeLine/\∃(its:List Value) (n:Nat),Vals xs its/\xs.length=its.length/\s.heap.get? l=some {cls:= .type "list",data:= .seq its.toArray n}:=by
 obtain⟨z,its,n,r,e⟩:=I.hok l _ hH
 exact⟨z,its,n,r,r.length,e⟩
theorem qaH {n:Nat}(h:n<=sizeLine):Builtin.List.listTooLong n=false:=by
 unfold Builtin.List.listTooLong
 exact zn (by omega)
end
section
variable {X:Cx}
def q8t:V->List V->Hp->VK->Prop:=fun x vs H Q=>∃l xs y,x= .ref l/\vs=[y]/\H l=some (.lst xs)/\xs.length<sizeLine/\Q .non (upd H l (.lst (xs++[y])))
theorem qS:MtM X "list.append" q8t:=by
 intro pins s σ H x vs v us Q I rx rv h
 obtain⟨l,xs,y,rfl,rfl,hH,hz,q⟩:=h
 cases rx
 obtain⟨u,rfl,ru⟩:=rv.one
 obtain⟨z,its,n,r,hl,e⟩:=I.lstM hH
 refine call_meets F.slot_list_append ⟨_,e,rfl⟩ F.entry_list_append (F.args_list_append_2 _ _) (PySem.list_append l its.toArray n u (by rw[zy];omega)) ⟨e,?_⟩
 refine⟨.non,_,I.lset (its':=its++[u]) hH e (by simp) (r.append (.cons ru .nil)) ?_,rfl,q⟩
 rw[zm,zb5]
 omega
def rPop:V->List V->Hp->VK->Prop:=fun x vs H Q=>∃l xs y,x= .ref l/\vs=[]/\H l=some (.lst xs)/\xs[xs.length - 1]? =some y/\Q y (upd H l (.lst xs.dropLast))
theorem mt_pop:MtM X "list.pop" rPop:=by
 intro pins s σ H x vs v us Q I rx rv h
 obtain⟨l,xs,y,rfl,rfl,hH,hy,q⟩:=h
 cases rx
 have hus:=rv.zero
 subst hus
 obtain⟨z,its,n,r,hl,e⟩:=I.lstM hH
 obtain⟨u,hu,ru⟩:=r.get hy
 have hy':its.toArray[its.toArray.size - 1]? =some u:=by
  show its.toArray[its.length - 1]? =some u
  rw[<-zbe,<-hl]
  exact hu
 refine call_meets F.slot_list_pop ⟨_,e,rfl⟩ F.entry_list_pop (F.args_list_pop_1 _) (MeetsSeq.list_pop_last l its.toArray n u hy' (by rw[zy];omega)) ⟨e,?_⟩
 refine⟨y,_,I.lset (its':=its.dropLast) hH e ?_ r.dropLast ?_,ru,q⟩
 ·show its.toArray.eraseIdxIfInBounds (its.toArray.size - 1)=its.dropLast.toArray
  rw[zy,List.eraseIdxIfInBounds_toArray,q7S]
 ·rw [List.length_dropLast]
  omega
def rClear:V->List V->Hp->VK->Prop:=fun x vs H Q=>∃l xs,x= .ref l/\vs=[]/\H l=some (.lst xs)/\Q .non (upd H l (.lst []))
theorem qaJ:MtM X "list.clear" rClear:=by
 intro pins s σ H x vs v us Q I rx rv h
 obtain⟨l,xs,rfl,rfl,hH,q⟩:=h
 cases rx
 have hus:=rv.zero
 subst hus
 obtain⟨z,its,n,r,hl,e⟩:=I.lstM hH
 refine call_meets F.slot_list_clear ⟨_,e,rfl⟩ F.entry_list_clear (F.args_list_clear_1 _) (AutoSeq1.list_clear_list_0 l its.toArray n (by rw[zy];omega)) ⟨e,?_⟩
 exact⟨.non,_,I.lset (its':=[]) (ys:=[]) hH e rfl .nil (zak _),rfl,q⟩
def rCat:R2:=fun x y H Q=>∃l b xs zs,x= .ref l/\y= .ref b/\H l=some (.lst xs)/\H b=some (.lst zs)/\xs.length+zs.length<=sizeLine/\∀p,H p=none->Q (.ref p) (upd H p (.lst (xs++zs)))
theorem q5V:OpR X (binaryOp .Add) rCat:=by
 intro pins s σ H x y v u Q I rx ry h
 obtain⟨l,b,xs,zs,rfl,rfl,hH,hB,hz,q⟩:=h
 cases rx
 cases ry
 obtain⟨z,its,n,r,hl,e⟩:=I.lstM hH
 obtain⟨z2,its2,n2,r2,hl2,e2⟩:=I.lstM hB
 refine PySem.P.add_list e e2 ?_ (by rw[zy,zy];omega)
 have ea:its.toArray++its2.toArray=(its++its2).toArray:=by simp
 rw[ea]
 exact⟨.ref _,_,I.lnew (t':=s.toks) (r.append r2) (by rw[zm];omega),rfl,q _ I.fresh⟩
def rRep:R2:=fun x y H Q=>∃l k xs,x= .ref l/\y= .int k/\H l=some (.lst xs)/\ -(2 ^ 63)<=k/\k<2 ^ 63/\xs.length*k.toNat<=sizeLine/\
 ∀p,H p=none->Q (.ref p) (upd H p (.lst (List.replicate k.toNat xs).flatten))
theorem qcO {α:Type}(xs:List α)(k:Nat):(List.replicate k xs).flatten.length=k*xs.length:=by
 induction k with
 |zero=>simp
 |succ k ih=>rw[zbp,zbD,zm,ih,Nat.succ_mul,Nat.add_comm]
theorem op_rep:OpR X (binaryOp .Mult) rRep:=by
 intro pins s σ H x y v u Q I rx ry h
 obtain⟨l,k,xs,rfl,rfl,hH,h1,h2,hz,q⟩:=h
 cases rx
 obtain⟨t,rfl⟩:=ry
 obtain⟨z,its,n,r,hl,e⟩:=I.lstM hH
 have hlen:its.toArray.size*k.toNat<=sizeLine:=by rw[zy,<-hl];exact hz
 have hcap:¬its.toArray.size*k.toNat>(2 ^ 63 - 1) / 8:=by
  have:(sizeLine:Nat)<=(2 ^ 63 - 1) / 8:=by decide
  omega
 have hfit:¬(!Builtin.List.listFitsIndex k)=true:=by
  rw[fitsIndex_both h1 h2]
  exact zl
 have hlong:¬Builtin.List.listTooLong (its.toArray.size*k.toNat)=true:=by
  rw[qaH hlen]
  exact zl
 have hnew:List.foldl (fun x1 x2=>x1++x2) #[] (List.replicate (if its.toArray.isEmpty=true then 0 else k.toNat) its.toArray)=(List.replicate k.toNat its).flatten.toArray:=by
  have f0:∀m:Nat,List.foldl (fun x1 x2=>x1++x2) #[] (List.replicate m its.toArray)=(List.replicate m its).flatten.toArray:=fun m=>by
   have:=q61 its m []
   rw[List.nil_append] at this
   exact this
  rw[f0]
  cases its with
  |nil=>simp
  |cons a r'=>rw[zd (by simp)]
 refine wpAny_binaryOp_repeat_ref (T:="list") (U:="int") (by decide) ⟨_,e,rfl⟩ (fun s'=>typeIs_int s' k t) noFill_list_mul F.fills_int_mul F.slot_int_rmul repeat_list F.slot_int_index.lookup
  (call_meets F.slot_int_rmul (typeIs_int s k t) F.entry_int_rmul (F.args_int_rmul_2 _ _) (int___rmul___int_list k t l its.toArray n)
   ⟨e,rfl,⟨_,e,rfl⟩,call_meets F.slot_list_mul ⟨_,e,rfl⟩ F.entry_list_mul (F.args_list_mul_2 _ _) (AutoListH.list___mul___list_int_3 l its.toArray n k t hfit hcap hlong) ⟨e,?_⟩⟩)
 rw[hnew]
 exact⟨.ref _,_,I.lnew (t':=s.toks) (r.rep k.toNat) (by rw[qcO,Nat.mul_comm];exact hz),rfl,q _ I.fresh⟩
end
end L2
namespace Att
open PySem PySem.W PySem.Calls PyProof.Rows
theorem q41 {P:Params}{h:Heap}:∀(ns:List Int) (vs:List Value),WellAll P h vs (ns.map WData.int)->IntsAre vs ns:=by
 intro ns
 induction ns with
 |nil=>
  intro vs w
  rw[List.map_nil] at w
  cases w
  exact .nil
 |cons n ns ih=>
  intro vs w
  rw[zam] at w
  cases w with
  |cons a b=>
   cases a
   exact .cons _ _ (ih _ b)
theorem q8k {l:OpenLaw}{n:Nat}(hn:l.most=some n){P:Params}{h:Heap}{args:List WData}{vals:List Value}
  (hpre:l.row.toRowW.claim.pre args=true)(hwl:WellAll P h vals args):
  ∃a vs ns,vals=[Value.ref a]/\args=[WData.list (ns.map WData.int)]/\h.get? a=some {cls:= .type "list",data:= .seq vs.toArray}/\IntsAre vs ns/\ns.length<=n:=by
 have hsh:WShape.hasAll [] args [.list .int]=true:=(pre_splitW hpre).1
 have hc:l.pre.holds [] {args:=args}=true:=(pre_splitW hpre).2
 obtain⟨d,r,rfl,h1,h2⟩:=hasAllW_cons hsh
 obtain rfl:=hasAllW_nil h2
 obtain⟨xs,rfl,h3⟩:=hasW_list h1
 obtain⟨ns,rfl⟩:=items_int h3
 have hlen:ns.length<=n:=by
  unfold OpenLaw.pre at hc
  have h4:(WTm.not (.lt (.lit (.int (n:Int))) (.len (.arg 0)))).holds [] {args:=[.list (ns.map .int)]}=true:=by
   have h4:=(holds_andW hc).1
   rw[hn] at h4
   exact h4
  have h5:=condW_of h4 (w_not (w_lt w_lit (w_len_list (w_arg rfl))))
  rw[yC] at h5
  refine Nat.le_of_not_lt fun q=>?_
  have q':(n:Int)<((ns.length:Nat):Int):=by omega
  first
   |(rw[zu q'] at h5;exact absurd h5 (by decide))
   |(simp at h5;omega)
 cases hwl with
 |cons w1 w2=>
  cases w2
  cases w1 with
  |list ho hall=>exact⟨_,_,ns,rfl,rfl,ho,q41 ns _ hall,hlen⟩
theorem q8y (l:OpenLaw)(args:List WData):l.row.toRowW.claim.post args (.bool true) args=true:=
 postW_of (r:=l.row.toRowW) (X:=(true==true))
  (show WShape.has [] (.bool true) .bool=true by first|rfl|decide|simp[WShape.has,WShape.arms,WShape.armsAll])
  (show(WTm.eq .res (.lit (.bool true))).value [] {args:=args,res:=some (.bool true),after:=args}=some (.bool (true==true)) from w_eq_bool (w_res rfl) w_lit) rfl
theorem q6I {l:OpenLaw}{n:Nat}{q:Program}{loose:List Str}{XP:(Str->Option Value)->Heap->Prop}{YP:World->Heap->Prop}{d:DefRec}
  (hn:l.most=some n)(hdf:d.params.defaults=[])
  (call:∀(w:World) (s₀ s₁:Shared) (mg mb:Str->Option Value) (fa:Addr) (o:Obj) (pm cd doc:Value) (a:Addr) (vs:List Value) (ns:List Int),
   Ground q loose [] XP w s₀ mg mb s₁.heap->YP w s₁.heap->
   s₁.heap.get? fa=some o->o.data= .func (docDef d.name d.params d.body d.scope pm cd doc)->s₁.heap.CodeRec cd d.name->mg d.name=some (.ref fa)->
   s₁.heap.get? a=some {cls:= .type "list",data:= .seq vs.toArray}->IntsAre vs ns->ns.length<=n->s₁.gens= #[]->
   codeAny (model l.prog w) callerA (.call (.ref fa) ⟨[.ref a],[]⟩) (fun r s'=>r= .ok (.ret (.bool true))/\OldK s₁.heap s'.heap/\s'.os=s₁.os/\AllBare s'.gens) s₁):
  WalkO q loose XP YP l.row.toRowW d [] (fun f vs=>PySem.call f vs):=by
 intro w s₀ s₁ mg mb G Y fa o pm cd doc dV kV ho hd hcd hD hmg hg args vals as hpre hlay hrd hwl hlo
 obtain rfl:dV= .none:=Dflts.none hD hdf
 obtain rfl:kV= .none:=Dflts.noKw hD
 obtain⟨a,vs,ns,rfl,rfl,hobj,hints,hlen⟩:=q8k hn hpre hwl
 refine enter_call (zcc (call w s₀ s₁ mg mb fa o pm cd doc a vs ns G Y ho (fd_plain hd) hcd hmg hobj hints hlen hg) fun r s' hq=>?_)
 obtain⟨rfl,h2,h3,h4⟩:=hq
 exact⟨.inl ⟨.bool true,.bool true,[],rfl,fun _=>rfl,.bool true,q8y l _,fun _=>⟨List.Pairwise.nil,fun _ hm=>(nomatch hm)⟩⟩,h2,h3,h4⟩
end Att
namespace L2
open PySem PySem.Spec PyProof.Rows
theorem q5p:∀{vs:List Value} {ns:List Int},IntsAre vs ns->Vals (ns.map V.int) vs
 |_,_,.nil=> .nil
 |_,_,.cons n t h=> .cons ⟨t,rfl⟩ (q5p h)
def Only (H:Hp):Prop:=∀b,H b=none\/∃o xs,H b=some (.frz o (.lst xs))
theorem qaT {P:Program}{w:World}{K:W.Frag}{mg mb:Str->Option Value}{CX:CXT}{k:Nat}{fa a:Addr}{fd:FuncData}{x:Str}{sp:Sp}{s₁:Shared}{vs:List Value}{ns:List Int}
  (KX:K.In s₁.heap)(hns:s₁.heap.Ns mainGlobals mg)(hb:s₁.heap.Ns builtinsNs mb)(hbb:∀x:Str,x≠"__name__"->mb x=bootBuiltins x)(hlim:s₁.heap.NoLimit)(hg:s₁.gens= #[])
  (ha:s₁.heap.get? a=some {cls:= .type "list",data:= .seq vs.toArray})(hi:IntsAre vs ns)(hl:ns.length<=sizeLine)(hr:Room k callerA)
  (F:∀base:Heap,K.In base->base.Ns mainGlobals mg->FnOk P w K mg base CX k fa fd [x] sp)(hbind:∀(s:Shared) (u:Value),BindsTo s fd ⟨[u],[]⟩ [(x,u)])
  (hsp:∀H:Hp,Only H->SqL K H a (ns.map V.int)->sp [.ref a] H (fun v _=>v= .bl true) fun _ _ _=>False)
  (hCX:∀H e s',CX [] H s₁ (fun _ _ _=>False) e s'->False):
  codeAny (model P w) callerA (.call (.ref fa) ⟨[.ref a],[]⟩) (fun r s'=>r= .ok (.ret (.bool true))/\OldK s₁.heap s'.heap/\s'.os=s₁.os/\AllBare s'.gens) s₁:=by
 have rv:=q5p hi
 have lenV:=hi.length
 -- from an abstract heap in which nothing but the script may be tracked
 have core:∀H:Hp,Only H->SqL K H a (ns.map V.int)->HOk P w H s₁.heap->(∀b,H b≠none->b=a)->(H a≠none->K.lookup a=none)->
   codeAny (model P w) callerA (.call (.ref fa) ⟨[.ref a],[]⟩) (fun r s'=>r= .ok (.ret (.bool true))/\OldK s₁.heap s'.heap/\s'.os=s₁.os/\AllBare s'.gens) s₁:=by
  intro H hO hS hok hA hK
  have base_of:∀{b:Addr} {o:Obj},s₁.heap.get? b=some o->H b=none->(hidT s₁.heap H).get? b=some o:=fun e n=>qaW e n
  have noA:∀{b:Addr} {o:Obj} {es:Array DictEntry} {ep:Nat},s₁.heap.get? b=some o->o.data= .dict es ep->H b=none:=fun {b o es ep} e d=>by
   cases q:H b with
   |none=>rfl
   |some u=>
    have e':b=a:=hA b (by rw[q];simp)
    subst e'
    rw[ha] at e;cases e
    have d':Data.seq vs.toArray _=Data.dict es ep:=d
    cases d'
  have nsK:∀{b:Addr} {m:Str->Option Value},s₁.heap.Ns b m->(hidT s₁.heap H).Ns b m:=fun {b m} ⟨o,es,ep,e,d,r⟩=>⟨o,es,ep,base_of e (noA e d),d,r⟩
  have hKb:K.In (hidT s₁.heap H):=fun b o e=>base_of (KX b o e) (by
   cases q:H b with
   |none=>rfl
   |some u=>
    have e':b=a:=hA b (by rw[q];simp)
    subst e'
    rw[hK (by rw[q];simp)] at e;cases e)
  have hM:Mod K mg (hidT s₁.heap H):=⟨hKb,nsK hns,⟨mb,nsK hb,hbb⟩,let ⟨mc,h1,h2⟩:=hlim;⟨mc,nsK h1,h2⟩⟩
  have e0:Env0 P w K mg (hidT s₁.heap H) callerA [] s₁ H:=⟨rfl,hM,fun b o e=>qcF e,Nat.le_of_eq (q9e _ _),trivial,fun b hb=>absurd (show b∈([]:List Addr) from hb) (by simp),hok,.of_eq hg⟩
  refine zcc ((F _ hKb (nsK hns)).run callerA [] s₁ H ⟨[.ref a],[]⟩ [.ref a] [.ref a] _ _ hr e0 (hbind s₁ (.ref a)) (.cons rfl .nil) (hsp H hO hS)) fun r s' h=>?_
  cases r with
  |error e=>exact(hCX H e s' h).elim
  |ok fl=>
   cases fl with
   |next=>exact False.elim h
   |brk=>exact False.elim h
   |cont=>exact False.elim h
   |ret u=>
    obtain⟨v,H',os,bare,un,hok',r',q⟩:=h
    have q':v= .bl true:=q
    subst q'
    obtain rfl:u=Value.bool true:=r'
    refine⟨rfl,OldK.of_keep fun b o e=>?_,os,bare⟩
    cases q:H b with
    |none=>exact un.keep b o e q (by intro z;exact absurd (show b∈([]:List Addr) from z) (by simp)) (by simp)
    |some u=>
     rcases hO b with z|⟨ob,xs,z⟩
     ·rw [q] at z;cases z
     ·have z2:=un.frzs b ob _ z
      obtain⟨e1,_⟩:=hok b _ z
      obtain⟨e2,_⟩:=hok' b _ z2
      rw[e] at e1;cases e1
      exact e2
 cases hk:K.lookup a with
 |some o=>
  -- the script is one of the module's own objects
  have e:=KX a o hk
  rw[ha] at e
  cases e
  refine core (fun _=>none) (fun _=> .inl rfl) (.inr ⟨_,vs.toArray,_,hk,rfl,rfl,rfl,by rw[zy,lenV];exact hl,by simpa using rv⟩) (fun b u z=>by have z':(none:Option HO)=some u:=z;cases z') (fun b z=>absurd rfl z) fun z=>absurd rfl z
 |none=>
  refine core (fun b=>if b=a then some (.frz {cls:= .type "list",data:= .seq vs.toArray} (.lst (ns.map V.int))) else none) (fun b=>?_) (.inl (.inr ⟨{cls:= .type "list",data:= .seq vs.toArray},zi rfl⟩)) (fun b u z=>?_) (fun b z=>?_) fun _=>hk
  ·by_cases hb:b=a
   ·exact .inr ⟨_,_,zi hb⟩
   ·exact .inl (zd hb)
  ·by_cases hb:b=a
   ·have z':=(zi hb).symm.trans z
    cases z'
    subst hb
    exact⟨ha,by rw[yC];exact hl,vs,_,rv,ha⟩
   ·have z':=(zd hb).symm.trans z
    cases z'
  ·by_cases hb:b=a
   ·exact hb
   ·exact absurd (zd hb) z
theorem qbT {l:PySem.W.OpenLaw}{n k:Nat}{q:Program}{loose:List Str}{XP:(Str->Option Value)->Heap->Prop}{YP:World->Heap->Prop}{d:DefRec}{K:Params->W.Frag}{CX:World->CXT}{sp:World->Sp}{x:Str}
  (hn:l.most=some n)(hn2:n<=sizeLine)(hdf:d.params.defaults=[])(hr:Room k callerA)
  (hY:∀(w:World) (h:Heap),YP w h->(K w.params).In h)
  (F:∀(w:World) (mg:Str->Option Value) (fa:Addr) (h:Heap),(K w.params).In h->h.Ns mainGlobals mg->mg d.name=some (.ref fa)->
   ∃fd:FuncData,(∀(s:Shared) (u:Value),BindsTo s fd ⟨[u],[]⟩ [(x,u)])/\
    ∀base:Heap,(K w.params).In base->base.Ns mainGlobals mg->FnOk l.prog w (K w.params) mg base (CX w) k fa fd [x] (sp w))
  (hsp:∀(w:World) (H:Hp) (a:Addr) (ns:List Int),ns.length<=n->Only H->SqL (K w.params) H a (ns.map V.int)->sp w [.ref a] H (fun v _=>v= .bl true) fun _ _ _=>False)
  (hCX:∀(w:World) (H:Hp) (s:Shared) (e:Value) (s':Shared),CX w [] H s (fun _ _ _=>False) e s'->False):
  PySem.W.WalkO q loose XP YP l.row.toRowW d [] (fun f vs=>PySem.call f vs):=by
 refine Att.q6I hn hdf fun w s₀ s₁ mg mb fa o pm cd doc a vs ns G Y ho hd hcd hmg hobj hints hlen hg=>?_
 have KX:=hY w _ Y
 obtain⟨fd,hb,hF⟩:=F w mg fa _ KX G.T.g hmg
 exact qaT KX G.T.g G.T.b G.T.builtins G.T.nolimit hg hobj hints (zaf hlen hn2) hr hF hb (fun H hO hS=>hsp w H a ns hlen hO hS) fun H e s'=>hCX w H s₁ e s'
def qI (s:Stmt)(j:Nat):Stmt:=match s with
 | .ClassDef _ _ _ body _ _ _ _ _ _ _=>body.getD j (.Pass ⟨0,0,0,0⟩)
 |_=> .Pass ⟨0,0,0,0⟩
def q0F (s:Stmt):Arguments:=match s with
 | .FunctionDef _ a _ _ _ _ _ _ _ _=>a
 |_=>{posonlyargs:=[],args:=[],vararg:=none,kwonlyargs:=[],kw_defaults:=[],kwarg:=none,defaults:=[]}
def q0e (s:Stmt):List Stmt:=match s with
 | .FunctionDef _ _ b _ _ _ _ _ _ _=>b
 |_=>[]
def qf (s:Stmt):Scope:=match s with
 | .FunctionDef _ _ _ _ _ _ sc _ _ _=>sc
 |_=>{kind:= .function,names:=[],isGenerator:=false,isCoroutine:=false}
abbrev CX0:CXT:=fun _ _ _ _ _ _=>False
abbrev E0:XK:=fun _ _ _=>False
theorem q7E {X:Cx}:q3i CX0 X E0:=fun _ _ _ _ _ _ _ h=>h.elim
structure Fun (K:W.Frag)(x qual:Str)(st:Stmt)(f:Addr)(fd:FuncData):Prop where
 ex:∃(oc:Value) (od:Option Addr) (kV doc pm:Value) (an:Option Addr) (cdv ct:Value) (osl:Array (Option Value)),
  fd=PySem.W.fnOf x qual (q0F st) (q0e st) (qf st) .none kV doc pm an cdv ct/\K.lookup f=some ⟨oc,od,.func fd,osl⟩/\PySem.W.codeIn K cdv qual=true
 kp:PySem.W.keepIn K (.ref f)=true
section
variable {P:Program}{w:World}{K:W.Frag}{mg:Str->Option Value}{base:Heap}
theorem Fun.ok {x qual:Str}{st:Stmt}{f:Addr}{fd:FuncData}{N ps:List Str}{k:Nat}{sp:Sp}(F:Fun K x qual st f fd)(S:FnScope N ps (qf st))(len:∀vs H Q E,sp vs H Q E->vs.length=ps.length)
  (hbody:∀(cdv:Value) (A:Around) (outer:List Env) (s:Shared) (H:Hp) (vs:List V) (Q:VK) (E:XK),Room k (A.deeper (envOfC qual (qf st) s.heap.objs.size f cdv))->sp vs H Q E->
   ∃t,PSs (cxOf CX0 P w K mg base N qual (qf st) f cdv A outer s H E).nox (q0e st) t/\t {nx:=fun _ H'=>Q .non H',rt:=Q} (start N vs) H):FnOk P w K mg base CX0 (k+1) f fd ps sp:=by
 obtain⟨oc,od,kV,doc,pm,an,cdv,ct,osl,rfl,lk,hcd⟩:=F.ex
 refine fn_of lk hcd S len fun A outer s H vs Q E hr hsp=>?_
 obtain⟨t,h,q⟩:=hbody cdv A outer s H vs Q E hr hsp
 exact⟨t,h.nox,q⟩
theorem Fun.binds {x qual:Str}{st:Stmt}{f:Addr}{fd:FuncData}{ps:List Str}(F:Fun K x qual st f fd)
  (h:∀(kV doc pm:Value) (an:Option Addr) (cdv ct:Value) (us:List Value),us.length=ps.length->bindArgs (PySem.W.fnOf x qual (q0F st) (q0e st) (qf st) .none kV doc pm an cdv ct) ⟨us,[]⟩=pure (ps.zip us)):q1U K fd ps []:=by
 obtain⟨oc,od,kV,doc,pm,an,cdv,ct,osl,rfl,lk,hcd⟩:=F.ex
 exact .all (h kV doc pm an cdv ct)
theorem q2T {x qual:Str}{st:Stmt}{f:Addr}{oc:Value}{od an:Option Addr}{osl:Array (Option Value)}{kV doc pm cdv ct:Value}(l:K.lookup f=some ⟨oc,od,.func (PySem.W.fnOf x qual (q0F st) (q0e st) (qf st) .none kV doc pm an cdv ct),osl⟩)
  (c:PySem.W.codeIn K cdv qual=true)(k:PySem.W.keepIn K (.ref f)=true):Fun K x qual st f (PySem.W.fnOf x qual (q0F st) (q0e st) (qf st) .none kV doc pm an cdv ct):=⟨⟨oc,od,kV,doc,pm,an,cdv,ct,osl,rfl,l,c⟩,k⟩
end
theorem qcW {A:Around}{k:Nat}(hr:Room k A):A.units+1<cLine:=zbT (Nat.add_le_add_left (by decide:1<=64) _) hr.units
section
variable {X:Cx}
theorem pv (i:Nat){x:Str}{pos:Pos}(hN:X.N[i]? =some x:=by rfl)(hv:Vis X.env.scope x:=by first|exact Or.inl rfl|exact Or.inr (Or.inl rfl)|exact Or.inr (Or.inr rfl))(hd:(x==("__debug__":Str))=false:=by decide)
  (hcd:(x==("__classdict__":Str))=false:=by decide):PE X (.Name x pos) (tVar i):=pe_var hN hv hd hcd
end
theorem iteF {A B:Prop}(h:B):if false=true then A else B:=by
 rw[zd zl]
 exact h
theorem iteT {A B:Prop}(h:A):if true=true then A else B:=by
 rw[zi rfl]
 exact h
theorem ite2 {c A B:Prop}[Decidable c](h1:c->A)(h2:¬c->B):if c then A else B:=by
 by_cases h:c
 ·rw [zi h]
  exact h1 h
 ·rw [zd h]
  exact h2 h
def Same (H H':Hp):Prop:=∀b o,H b=some o->H' b=some o
theorem Same.refl (H:Hp):Same H H:=fun _ _ h=>h
theorem Same.trans {H H1 H2:Hp}(a:Same H H1)(b:Same H1 H2):Same H H2:=fun c o h=>b c o (a c o h)
theorem Same.free {H H':Hp}(e:Same H H'){l:Addr}(h:H' l=Option.none):H l=Option.none:=by
 cases q:H l with
 |none=>rfl
 |some o=>
  rw[e l o q] at h
  cases h
theorem Same.seq {K:W.Frag}{H H':Hp}{a:Addr}{xs:List V}(e:Same H H')(h:SqL K H a xs):SqL K H' a xs:=by
 rcases h with(h|⟨o,h⟩)|h
 ·exact .inl (.inl (e _ _ h))
 ·exact .inl (.inr ⟨o,e _ _ h⟩)
 ·exact .inr h
end L2
set_option maxHeartbeats 4000000
namespace L2
open PySem PySem.Spec PyProof.Rows
theorem fls {α:Type}{M:Model}{A:Around}{t:Sem α}{Q:α->Shared->Prop}{E:Value->Shared->Prop}{s:Shared}(h:wpAny M A t Q (fun _ _=>False) s):wpAny M A t Q E s:=
 zZ h (fun _ _ q=>q) fun _ _ z=>z.elim
section
variable {prog:Program}{w:World}{A:Around}{R:Result->Shared->Prop}{s:Shared}
theorem q65 {elt target iter:Expr}{ifs:List Expr}{scope:Scope}{pos:Pos}{it acc:Value}{env:Env}(J:Nat->Shared->Prop)
  (turn:∀n s,J n s->wpAny (model prog w) A (pyNext it) (fun r s₁=>match r with
   |none=>R (.ok .next) s₁
   | some v=>wpAny (model prog w) A (letOwnedTupleGo target it v) (fun _ s₂=>wpAny (model prog w) A (assign target env v) (fun _ s₃=>
     wpAny (model prog w) A (forIn ifs true fun c r=>if r=true then do let ok<-isTrue c env (eval c env);pure (ForInStep.yield ok) else pure (ForInStep.yield r)) (fun ok s₄=>
      if ok=true then wpAny (model prog w) A (eval elt env) (fun x s₅=>
       wpAny (model prog w) A (call (.builtin "list.append") [acc,x]) (fun _ s₆=>∃m,m<n/\J m s₆) (fun _ _=>False) s₅) (fun _ _=>False) s₄
      else∃m,m<n/\J m s₄) (fun _ _=>False) s₃) (fun _ _=>False) s₂) (fun _ _=>False) s₁) (fun _ _=>False) s)
  (n:Nat)(h:J n s):
  codeAny (model prog w) A (.compLoop (.ListComp elt [⟨target,iter,ifs,0⟩] scope pos) 0 it acc env) R s:=by
 refine codeAny_loop rfl J (fun n s hI=>?_) n h
 show wpAny _ A ((compTurn (.ListComp elt [⟨target,iter,ifs,0⟩] scope pos) 0 it acc env).onRaise (fun x=>do noteFrame x env;theTreesLotGoes x)) _ _ s
 refine wpAny_noted (fls ?_)
 rw[compTurn_list]
 refine yD (zcv (yD (zZ (turn n s hI) (fun r s₁ h₁=>?_) fun _ _ h'=>h')))
 cases r with
 |none=>exact zc h₁
 |some v=>
  refine yD (zZ h₁ (fun _ s₂ h₂=>yD (zZ h₂ (fun _ s₃ h₃=>yD (zZ h₃ (fun ok s₄ h₄=>?_) fun _ _ h'=>h')) fun _ _ h'=>h')) fun _ _ h'=>h')
  cases ok with
  |false=>exact zc ⟨rfl,h₄⟩
  |true=>exact yD (yD (zZ h₄ (fun x s₅ h₅=>yD (zZ h₅ (fun _ s₆ h₆=>zc (zc ⟨rfl,h₆⟩)) fun _ _ h'=>h')) fun _ _ h'=>h'))
end
def clOf (scope:Scope)(env:Env):List (Str×Addr):=(scope.names.filter fun y=>y.2== .free).reverse.map fun y=>(y.1,(env.cells.lookup y.1).getD 0)
theorem q2c {scope:Scope}{env:Env}(h:∀y∈scope.names,y.2= .free->∃c,env.cells.lookup y.1=some c):closureFor scope env=pure (clOf scope env):=by
 unfold closureFor clOf
 have key:∀(l:List (Str×NameKind)) (cs:List (Str×Addr)),(∀y∈l,y.2= .free->∃c,env.cells.lookup y.1=some c)->
   (forIn l cs (fun x r=>match x with
    |(name,kind)=>if (kind==NameKind.free)=true then do let a<-cellOf env name;pure (ForInStep.yield ((name,a)::r)) else pure (ForInStep.yield r)):Sem (List (Str×Addr)))=
    pure ((l.filter fun y=>y.2== .free).reverse.map (fun y=>(y.1,(env.cells.lookup y.1).getD 0))++cs):=by
  intro l
  induction l with
  |nil=>intro cs _;rfl
  |cons y l ih=>
   intro cs hl
   obtain⟨n,k⟩:=y
   have ih':=fun cs=>ih cs fun y hy=>hl y (zw _ hy)
   rw[List.forIn_cons]
   by_cases hk:k= .free
   ·subst hk
    obtain⟨c,hc⟩:=hl (n,.free) zae rfl
    have e:cellOf env n=pure c:=by unfold cellOf;rw[hc]
    simp only[beq_self_eq_true,if_true,e,pure_bind]
    rw[ih']
    rw[List.filter_cons_of_pos (by rfl),List.reverse_cons,zR,zq]
    simp[hc]
   ·have hb:(k==NameKind.free)=false:=by simpa using hk
    simp only[hb,Bool.false_eq_true,if_false,pure_bind]
    rw[ih',List.filter_cons_of_neg (by simp[hb])]
 have:=key scope.names [] h
 rw[zM] at this
 first
  |exact this
  |(rw[this];rfl)
  |(simp only[bind_pure];exact this)
theorem q2u {f:Str->Addr}{x:Str}{c:Addr}:∀{l:List (Str×NameKind)},(l.map fun y=>(y.1,f y.1)).lookup x=some c->c=f x/\∃k,(x,k)∈l
 |[],h=>by simp at h
 |(n,k)::l,h=>by
  rw[zam,zaz] at h
  cases e:x==n with
  |true=>
   rw[e] at h
   have e':x=n:=by simpa using e
   subst e'
   exact⟨(zH h).symm,k,zae⟩
  |false=>
   rw[e] at h
   obtain⟨h1,k',h2⟩:=q2u h
   exact⟨h1,k',zw _ h2⟩
theorem q2v {f:Str->Addr}{x:Str}{k:NameKind}:∀{l:List (Str×NameKind)},(x,k)∈l->(l.map fun y=>(y.1,f y.1)).lookup x=some (f x)
 |[],h=>nomatch h
 |(n,k')::l,h=>by
  rw[zam,zaz]
  cases e:x==n with
  |true=>
   have e':x=n:=by simpa using e
   subst e'
   rfl
  |false=>
   rcases zx.mp h with q|q
   ·cases q
    simp at e
   ·exact q2v q
theorem q56 {scope:Scope}{env:Env}(h:∀y∈scope.names,y.2= .free->∃c,env.cells.lookup y.1=some c){x:Str}{c:Addr}(e:(clOf scope env).lookup x=some c):env.cells.lookup x=some c:=by
 obtain⟨h1,k,h2⟩:=q2u (f:=fun x=>(env.cells.lookup x).getD 0) e
 have h3:=zbt.mp (zaq.mp h2)
 obtain⟨c',hc⟩:=h (x,k) h3.1 (by simpa using h3.2)
 have hc':env.cells.lookup x=some c':=hc
 rw[hc'] at h1 ⊢
 rw[h1]
 rfl
theorem q7h {scope:Scope}{env:Env}{x:Str}(h:(x,NameKind.free)∈scope.names):(clOf scope env).lookup x=some ((env.cells.lookup x).getD 0):=
 q2v (f:=fun x=>(env.cells.lookup x).getD 0) (k:= .free) (zaq.mpr (zbt.mpr ⟨h,rfl⟩))
theorem q2o {scope:Scope}{env:Env}{x:Str}:(relabel scope env).names.lookup x=(scope.names.lookup x).map fun k=>if (k== .free&&env.scope.kind== .function&&env.kindOf x==some .cell)=true then .cell else k:=by
 unfold relabel
 show List.lookup x (scope.names.map _)=_
 induction scope.names with
 |nil=>rfl
 |cons y l ih=>
  obtain⟨n,k⟩:=y
  rw[zam]
  show List.lookup x ((if (k==NameKind.free&&env.scope.kind==ScopeKind.function&&env.kindOf n==some NameKind.cell)=true then(n,NameKind.cell) else(n,k))::_)=_
  cases e:x==n with
  |true=>
   have e':x=n:=by simpa using e
   subst e'
   by_cases hc:(k==NameKind.free&&env.scope.kind==ScopeKind.function&&env.kindOf x==some NameKind.cell)=true
   ·rw [zi hc,zaz,zaz,e]
    show some _=some (if _ then _ else _)
    rw[zi hc]
   ·rw [zd hc,zaz,zaz,e]
    show some _=some (if _ then _ else _)
    rw[zd hc]
  |false=>
   by_cases hc:(k==NameKind.free&&env.scope.kind==ScopeKind.function&&env.kindOf n==some NameKind.cell)=true
   ·rw [zi hc,zaz,zaz,e]
    exact ih
   ·rw [zd hc,zaz,zaz,e]
    exact ih
def q0v (X:Cx)(N:List Str)(scope:Scope)(C:Addr)(s:Shared)(H:Hp)(fp:List Addr):Cx where
 prog:=X.prog
 w:=X.w
 K:=X.K
 mg:=X.mg
 base:=X.base
 A:=X.A
 N:=N
 s₀:=s
 H₀:=H
 env:=compEnvC scope (clOf scope X.env) C X.env
 outer:=X.stack
 stack:=X.stack
 ex:=fp
 fn:=fun _=>false
 calm:=X.calm
 pn:=[]
 xe:=fun _ _=>False
def q2X (own:Nat)(caps:List Nat)(σ:St):St:=List.replicate own none++caps.map fun j=>(σ[j]?).getD none
structure CompOk (X:Cx)(N:List Str)(scope:Scope)(own:Nat)(caps:List Nat):Prop where
 kind:scope.kind= .function
 names:∀y∈scope.names,y.2= .local->scope.names.lookup y.1=some .local
 nocell:∀y∈scope.names,y.2≠ .cell
 free:∀y∈scope.names,y.2= .free->X.env.kindOf y.1=some .cell\/X.env.kindOf y.1=some .free
 len:N.length=own+caps.length
 cap:∀(i j:Nat) (x:Str),caps[i]? =some j->N[own+i]? =some x->X.N[j]? =some x/\scope.names.lookup x=some .free
theorem CompOk.cells {X:Cx}{N:List Str}{scope:Scope}{own:Nat}{caps:List Nat}(O:CompOk X N scope own caps)(ok:X.Ok):∀y∈scope.names,y.2= .free->∃c,X.env.cells.lookup y.1=some c:=
 fun y hy hf=>ok.has y.1 (O.free y hy hf)
section
variable {X:Cx}{pins:List (Addr×Obj)}{σ:St}{H:Hp}{s:Shared}{N:List Str}{scope:Scope}{own:Nat}{caps:List Nat}
theorem Inv.block {h₁:Heap}{tk:Nat}{fp:List Addr}(O:CompOk X N scope own caps)(I:Inv X pins σ H s)(hf:∀b∈fp,FpOk X pins H b)(hlt:∀b∈fp,b<s.heap.objs.size){m:Str->Option Value}(hns:h₁.Ns s.heap.objs.size m)
  (hk:∀b o,s.heap.get? b=some o->h₁.get? b=some o):Inv (q0v X N scope s.heap.objs.size s H fp) [] (q2X own caps σ) H {s with heap:=h₁,toks:=tk}:=by
 have hcl:=O.cells I.ok
 have sub:∀x c,(clOf scope X.env).lookup x=some c->X.env.cells.lookup x=some c:=fun x c e=>q56 hcl e
 have stk:∀b∈fp,b∉frs X.stack:=fun b hb z=>by
  obtain⟨_,f1,f2,_⟩:=hf b hb
  rcases zx.mp (I.stkSub b z) with q|q
  ·exact f1 q
  ·exact f2 q
 have nocl:∀x,(relabel scope X.env).names.lookup x=some .cell\/(relabel scope X.env).names.lookup x=some .free->(x,NameKind.free)∈scope.names:=fun x hx=>by
  rw[q2o] at hx
  cases e:scope.names.lookup x with
  |none=>rw[e] at hx;rcases hx with hx|hx<;>cases hx
  |some k=>
   have hm:=zaN e
   have hc:=O.nocell _ hm
   cases k with
   |free=>exact hm
   |cell=>exact absurd rfl hc
   |_=>rw[e] at hx;rcases hx with hx|hx<;>simp at hx
 have ok:(q0v X N scope s.heap.objs.size s H fp).Ok:=
  {mod:=I.ok.mod
   kind:=O.kind
   glob:=I.ok.glob
   blt:=I.ok.blt
   above:=ze _
   inj:=fun x y c h1 h2=>I.ok.inj x y c (sub x c h1) (sub y c h2)
   has:=fun x hx=>⟨_,q7h (nocl x hx)⟩
   cab:=fun x c h _=>by cases h
   hd:=I.ok.hd
   frames:=I.ok.frames
   stk:= .inl rfl
   exf:=fun b hb=>⟨zC (hlt b hb),fun x c e=>(hf b hb).2.2.2.2.1 x c (sub x c e)⟩
   bs:=I.bs
   bsz:=zaf I.ok.bsz I.sz
   noex:=fun b o e hb=>by
    rcases(hf b hb).2.2.2.1 with z|z
    ·exact I.ok.noex b o e z
    ·exact absurd (zT (zt e) (zaf I.ok.bsz z)) (zbs _)
   exfs:=stk
   funs:=I.stack
   frf:=I.stkFree}
 have hC:H s.heap.objs.size=none:=I.hok.fresh (ze _)
 refine⟨ok,rfl,I.bare,Un.kept hk,⟨m,hns,fun i x v h1 h2 h3=>?_⟩,fun x c e=>?_,hC,fun x c e=>I.freeC x c (sub x c e),fun p hp=>absurd (show p∈([]:List (Addr×Obj)) from hp) (by simp),I.hok.kept hk,?_⟩
 ·-- a name of the def
  have hi:own<=i:=by
   by_cases q:own<=i
   ·exact q
   ·unfold q2X at h2
    rw[zA (by simp;omega),List.getElem?_replicate] at h2
    split at h2<;>cases h2
  obtain⟨k,rfl⟩:∃k,i=own+k:=⟨i - own,by omega⟩
  unfold q2X at h2
  rw[zS (by simp),zb4,Nat.add_sub_cancel_left,zJ] at h2
  cases e:caps[k]? with
  |none=>rw[e] at h2;cases h2
  |some j=>
   rw[e] at h2
   have h2':(σ[j]?).getD none=some v:=zH h2
   obtain⟨e1,e2⟩:=O.cap k j x e h1
   have e3:=zaN e2
   have hkd:=O.free _ e3 rfl
   have h4:σ[j]? =some (some v):=by
    cases q:σ[j]? with
    |none=>rw[q] at h2';cases h2'
    |some o=>rw[q] at h2';rw[show o=some v from h2']
   have hvis:Vis X.env.scope x:= .inr hkd
   obtain⟨mo,_,hl⟩:=I.loc
   obtain⟨u,r,l⟩:=hl j x v e1 h4 hvis
   refine⟨u,r,.inr ⟨?_,?_⟩⟩
   ·show (relabel scope X.env).names.lookup x=some .cell\/(relabel scope X.env).names.lookup x=some .free
    rw[q2o,e2]
    show some (if _ then NameKind.cell else NameKind.free)=_\/some (if _ then NameKind.cell else NameKind.free)=_
    split
    ·exact .inl rfl
    ·exact .inr rfl
   ·rcases l with⟨q,_⟩|⟨_,c,hc,z⟩
    ·have hkd':X.env.kindOf x=some .cell\/X.env.kindOf x=some .free:=hkd
     rw[q] at hkd'
     rcases hkd' with hkd'|hkd'<;>cases hkd'
    ·refine ⟨c,?_,z.keeps hk⟩
     show(clOf scope X.env).lookup x=some c
     rw[q7h e3,hc]
     rfl
 ·obtain ⟨v,z⟩:=I.cell x c (sub x c e)
  exact⟨v,z.keeps hk⟩
 ·show (q2X own caps σ).length=N.length
  unfold q2X
  rw[zm,zb4,yC,O.len]
theorem Inv.blockEnd {fp:List Addr}{σ':St}{H':Hp}{s':Shared}(I:Inv X pins σ H s)(hf:∀b∈fp,FpOk X pins H b)(J:Inv (q0v X N scope s.heap.objs.size s H fp) [] σ' H' s'):Inv X pins σ H' s':=
 I.call' (ch:=fp) J.os J.base J.hok J.bare fun b hb=>⟨(hf b hb).2.2.2.1,(hf b hb).2.1,(hf b hb).2.2.2.2.1,(hf b hb).2.2.2.2.2⟩
theorem Inv.off {h':Heap}{C:Addr}(I:Inv X pins σ H s)(hC:H C=none)(hL:C≠X.env.locals)(h1:X.s₀.heap.objs.size<=C)(h2:∀x c,X.env.cells.lookup x=some c->c≠C)(h3:∀p∈X.pn++pins,p.1≠C)(sb:Heap.SameBut C s.heap h'):
  Inv X pins σ H {s with heap:=h'}:=
 I.turned (t':=s.toks) (it:=C) (fun b o hb e=>(sb.2 b hb).trans e) hC hL (.inr h1) h2 h3
end
def PIfs (X:Cx)(ifs:List Expr)(t:TT):Prop:=
 ∀(pins:List (Addr×Obj)) (s:Shared) (σ:St) (H:Hp) (Q:Bool->Hp->Prop),Inv X pins σ H s->t σ H Q->
  wpAny (model X.prog X.w) X.A (forIn ifs true fun c r=>if r=true then do let ok<-isTrue c X.env (eval c X.env);pure (ForInStep.yield ok) else pure (ForInStep.yield r)) (TP X pins σ Q) X.xe s
def tYes:TT:=fun _ H Q=>Q true H
theorem q1W {X:Cx}:PIfs X [] tYes:=fun _ _ _ H _ I h=>wpAny_tests_nil ⟨H,I,h⟩
theorem q4s {X:Cx}{c:Expr}{t:TT}(h:PT X c t):PIfs X [c] t:=fun pins s σ H Q I hw=>wpAny_tests_one (h pins s σ H Q I hw)
def q7t (wi:TI)(g:TG)(tc:TT)(te:TE)(own:Nat)(caps:List Nat):TE:=fun σ H Q=>wi σ H fun J H1=>∀D,H1 D=none->∃W:Nat->Nat->St->Hp->Prop,(∃m,W 0 m (q2X own caps σ) (upd H1 D (.lst [])))/\∀i m σ' H',W i m σ' H'->
 (J.stop i H'/\Q (.ref D) H')\/(J.go i H'/\∃N:St->Hp->Prop,(∀σ'' H'',N σ'' H''->∃m',m'<m/\W (i+1) m' σ'' H'')/\∀x H2,J.yld i H' x H2->g x σ' H2 fun σ3 H3=>tc σ3 H3 fun b H4=>
  if b=true then te σ3 H4 fun y H5=>∃ys,H5 D=some (.lst ys)/\ys.length<sizeLine/\N σ3 (upd H5 D (.lst (ys++[y]))) else N σ3 H4)
section
variable {X:Cx}{N:List Str}{scope:Scope}{own:Nat}{caps:List Nat}{tg iter elt:Expr}{ifs:List Expr}{wi:TI}{g:TG}{tc:TT}{te:TE}{pos:Pos}
theorem q7f {use:Option (Value->Sem Unit)}{QQ:Value->Shared->Prop}(O:CompOk X N scope own caps)(hc:X.calm=true)(hi:PI X tg iter wi)(hg:∀C s H fp,PG (q0v X N scope C s H fp) tg g)(ht:∀C s H fp,PIfs (q0v X N scope C s H fp) ifs tc)
  (he:∀C s H fp,PE (q0v X N scope C s H fp) elt te)(hs:∀x,foldedSetIterable iter X.env x=pure x)
  {pins:List (Addr×Obj)}{s:Shared}{σ:St}{H:Hp}{Q:VK}(I:Inv X pins σ H s)(h:q7t wi g tc te own caps σ H Q)
  (fin:∀D C H' s' m,Inv X pins σ H' s'->Q (.ref D) H'->s'.heap.Ns C m->H' C=none->C≠X.env.locals->X.s₀.heap.objs.size<=C->(∀x c,X.env.cells.lookup x=some c->c≠C)->(∀p∈X.pn++pins,p.1≠C)->
   compPost (model X.prog X.w) X.A X.xe use QQ (.ref D) C (.ok .next) s'):
  wpAny (model X.prog X.w) X.A (comprehension (.ListComp elt [⟨tg,iter,ifs,0⟩] scope pos) scope X.env (firstIterPos [⟨tg,iter,ifs,0⟩] pos) (newList []) false (eval iter X.env) use) QQ X.xe s:=by
 refine wpAny_comprehension_free (use:=use) rfl hs (q2c (O.cells I.ok)) O.kind O.names (thn (hi pins s σ H _ I h) fun v s1 h1=>thn h1 fun itv s2 h2=>?_)
 obtain⟨it,fp,tn,J,H2,e,I2,T,st2,f2,q⟩:=h2
 subst e
 refine zad (wpAny_newFunctionEnv O.nocell (by intro y hy;simp at hy) (fun h₁ hns hsb=>?_) O.kind)
 dsimp only at hns hsb ⊢
 have hD:H2 s2.heap.objs.size=none:=I2.hok.fresh (ze _)
 obtain⟨W,⟨m0,w0⟩,turn⟩:=q s2.heap.objs.size hD
 have I3:Inv X pins σ (upd H2 s2.heap.objs.size (.lst [])) {s2 with heap:=s2.heap.push {cls:= .type "list",dict:=none,data:= .seq ([]:List Value).toArray}}:=
  I2.lnew (its:=[]) (t':=s2.toks) .nil (zak _)
 generalize hs3:({s2 with heap:=s2.heap.push {cls:= .type "list",dict:=none,data:= .seq ([]:List Value).toArray}}:Shared)=s3 at I3
 have hsz3:s3.heap.objs.size=s2.heap.objs.size+1:=by rw[<-hs3];exact zbG ..
 have hns':h₁.Ns s3.heap.objs.size (fun x=>([]:List (Str×Value)).reverse.lookup x):=by rw[<-hs3];exact hns
 have hk:∀b o,s3.heap.get? b=some o->h₁.get? b=some o:=fun b o e=>by
  rw[<-hs3] at e
  exact hsb.extBut b o (zC (zt e)) (zg _ e)
 have f3:∀b∈fp,FpOk X pins (upd H2 s2.heap.objs.size (.lst [])) b:=fun b hb=>by
  obtain⟨o,ho,_⟩:=T.obj _ _ st2 b hb
  exact⟨by rw[qj (zC (zt ho))];exact(f2 b hb).1,(f2 b hb).2⟩
 have hlt:∀b∈fp,b<s3.heap.objs.size:=fun b hb=>by
  obtain⟨o,ho,_⟩:=T.obj _ _ st2 b hb
  rw[hsz3]
  exact zbE (zt ho)
 have st3:tn 0 h₁:=T.keep _ _ _ st2 fun b hb o e=>hk b o (by rw[<-hs3];exact zg _ e)
 have C3:∀tk,Inv (q0v X N scope s3.heap.objs.size s3 (upd H2 s2.heap.objs.size (.lst [])) fp) [] (q2X own caps σ) (upd H2 s2.heap.objs.size (.lst [])) {s3 with heap:=h₁,toks:=tk}:=fun tk=>I3.block O f3 hlt hns' hk
 have nf3:∀b∈fp,(upd H2 s2.heap.objs.size (.lst [])) b=none:=fun b hb=>(f3 b hb).1
 have hCL:s3.heap.objs.size≠X.env.locals:=zcb I3.lt
 have hC1:X.s₀.heap.objs.size<=s3.heap.objs.size:=I3.sz
 have hC2:∀x c,X.env.cells.lookup x=some c->c≠s3.heap.objs.size:=fun x c e=>by
  obtain⟨v,z⟩:=I3.cell x c e
  exact zC z.lt
 have hC3:∀p∈X.pn++pins,p.1≠s3.heap.objs.size:=fun p hp=>zC (zt (I3.pin p hp).1)
 have hst:∀{H':Hp},(∀b∈fp,H' b=none)->∀b∈fp,FpOk (q0v X N scope s3.heap.objs.size s3 (upd H2 s2.heap.objs.size (.lst [])) fp) [] H' b:=fun hn b hb=>by
  refine⟨hn b hb,zC (hlt b hb),fun z=>?_,.inl hb,fun x c e=>(f3 b hb).2.2.2.2.1 x c (q56 (O.cells I.ok) e),fun p hp=>absurd (show p∈([]:List (Addr×Obj)) from hp) (by simp)⟩
  exact(C3 0).ok.exfs b hb z
 have loop:∀s4:Shared,(∃tk,s4={s3 with heap:=h₁,toks:=tk})->
   codeAny (model X.prog X.w) X.A (.compLoop (.ListComp elt [⟨tg,iter,ifs,0⟩] scope pos) 0 (.ref it) (.ref s2.heap.objs.size) (compEnvC scope (clOf scope X.env) s3.heap.objs.size X.env))
    (compPost (model X.prog X.w) X.A X.xe use QQ (.ref s2.heap.objs.size) s3.heap.objs.size) s4:=by
  rintro s4 ⟨tk,rfl⟩
  refine q65 (fun n s'=>∃i σ' H',Inv (q0v X N scope s3.heap.objs.size s3 (upd H2 s2.heap.objs.size (.lst [])) fp) [] σ' H' s'/\tn i s'.heap/\(∀b∈fp,H' b=none)/\W i n σ' H') ?_ m0 ⟨0,_,_,C3 tk,st3,nf3,w0⟩
  rintro n s5 ⟨i,σ5,H5,I5,st5,fr5,w5⟩
  rcases turn i n σ5 H5 w5 with⟨stop,qn⟩|⟨go,NN,hN,step⟩
  ·refine thn (T.done (q0v X N scope s3.heap.objs.size s3 (upd H2 s2.heap.objs.size (.lst [])) fp) rfl rfl rfl hc i [] s5 σ5 H5 _ I5 (hst fr5) st5 stop) fun r s6 ⟨hr,I6⟩=>?_
   subst hr
   obtain⟨m6,hn6,_⟩:=id I6.loc
   exact fin _ _ H5 s6 m6 (I3.blockEnd f3 I6) qn hn6 I6.free hCL hC1 hC2 hC3
  ·refine thn (T.item (q0v X N scope s3.heap.objs.size s3 (upd H2 s2.heap.objs.size (.lst [])) fp) rfl rfl rfl hc i [] s5 σ5 H5 _ I5 (hst fr5) st5 go) fun r s6 ⟨u,hr,h6⟩=>?_
   subst hr
   refine thn h6 fun _ s7 ⟨x,H7,I7,r7,y7,st7,fr7⟩=>?_
   have I7':=I7.pinned (hst fr7) (T.obj _ _ st7)
   refine thn (hg _ _ _ _ _ s7 σ5 H7 x u _ I7' r7 (step x H7 y7)) fun _ s8 ⟨σ8,H8,I8,q8⟩=>?_
   refine thn (ht _ _ _ _ _ s8 σ8 H8 _ I8 q8) fun ok s9 ⟨H9,I9,q9⟩=>?_
   have again:∀{s10:Shared} {σ10:St} {H10:Hp},Inv (q0v X N scope s3.heap.objs.size s3 (upd H2 s2.heap.objs.size (.lst [])) fp) ([]++q4r fp s7.heap) σ10 H10 s10->NN σ10 H10->
     ∃m,m<n/\∃i σ' H',Inv (q0v X N scope s3.heap.objs.size s3 (upd H2 s2.heap.objs.size (.lst [])) fp) [] σ' H' s10/\tn i s10.heap/\(∀b∈fp,H' b=none)/\W i m σ' H':=fun {s10 σ10 H10} I10 n10=>by
    obtain⟨m',hm,w10⟩:=hN σ10 H10 n10
    refine⟨m',hm,i+1,σ10,H10,I10.unpinned,T.keep _ _ _ st7 fun b hb o e=>(I10.pin (b,o) (zI _ (zI _ (q13 hb e)))).1,fun b hb=>?_,w10⟩
    obtain⟨o,e,d⟩:=T.obj _ _ st7 b hb
    exact(I10.pin (b,o) (zI _ (zI _ (q13 hb e)))).2.1
   cases ok with
   |false=>
    rw[zd zl] at q9 ⊢
    exact again I9 q9
   |true=>
    rw[zi rfl] at q9 ⊢
    refine thn (he _ _ _ _ _ s9 σ8 H9 _ I9 q9) fun y s10 ⟨vy,H10,I10,r10,ys,hys,hyl,q10⟩=>?_
    refine thn (qS (X:=q0v X N scope s3.heap.objs.size s3 (upd H2 s2.heap.objs.size (.lst [])) fp) _ s10 σ8 H10 (.ref s2.heap.objs.size) [vy] (.ref s2.heap.objs.size) [y] (fun _ H11=>NN σ8 H11) I10 rfl (.cons r10 .nil) ⟨_,ys,vy,rfl,rfl,hys,hyl,q10⟩) fun _ s11 ⟨_,H11,I11,_,q11⟩=>?_
    exact again I11 q11
 subst hs3
 exact codeAny_compStart_list (loop _ ⟨_,rfl⟩) (T.self _ _ _ _ _ st3 (loop _ ⟨_,rfl⟩))
theorem q1P (O:CompOk X N scope own caps)(hc:X.calm=true)(hi:PI X tg iter wi)(hg:∀C s H fp,PG (q0v X N scope C s H fp) tg g)(ht:∀C s H fp,PIfs (q0v X N scope C s H fp) ifs tc)
  (he:∀C s H fp,PE (q0v X N scope C s H fp) elt te)(hs:∀x,foldedSetIterable iter X.env x=pure x:=by intro _;rfl):PE X (.ListComp elt [⟨tg,iter,ifs,0⟩] scope pos) (q7t wi g tc te own caps):=by
 intro pins s σ H Q I h
 rw[eval_ListComp]
 refine q7f (use:=none) O hc hi hg ht he hs I h fun D C H' s' m I' q hn h0 h1 h2 h3 h4=>?_
 exact⟨m,hn,fun h' sb=>⟨.ref D,H',I'.off h0 h1 h2 h3 h4 sb,rfl,q⟩⟩
theorem q28 {i:Nat}{y:Str}{py spos:Pos}(hN:X.N.Nodup)(hi':X.N[i]? =some y)(hy:X.env.scope.names.lookup y=some .local)(O:CompOk X N scope own caps)(hc:X.calm=true)(hi:PI X tg iter wi)(hg:∀C s H fp,PG (q0v X N scope C s H fp) tg g)
  (ht:∀C s H fp,PIfs (q0v X N scope C s H fp) ifs tc)(he:∀C s H fp,PE (q0v X N scope C s H fp) elt te)
  (hsw:swapsWith (.ListComp elt [⟨tg,iter,ifs,0⟩] scope pos) (some (.Name y py)) spos.line X.env=pure true:=by rfl)(hs:∀x,foldedSetIterable iter X.env x=pure x:=by intro _;rfl):
  PS X (.Assign [.Name y py] (.ListComp elt [⟨tg,iter,ifs,0⟩] scope pos) spos) (tAsg (q7t wi g tc te own caps) (qaZ i)):=by
 intro pins s σ H D I h
 rw[exec_Assign_Name_used _ _ _ _ hsw]
 refine yD (zcv (yD ?_))
 show wpAny _ _ (do let _<-comprehension (.ListComp elt [⟨tg,iter,ifs,0⟩] scope pos) scope X.env _ (newList []) false (eval iter X.env) (some (assign (.Name y py) X.env))) _ _ s
 refine yD (zZ (q7f (use:=some (assign (.Name y py) X.env)) (QQ:=fun _ s'=>SP X pins D .next s') O hc hi hg ht he hs I h fun L C H' s' m I' q hn h0 h1 h2 h3 h4=>?_) (fun _ s' hq=>zc (zc hq)) fun _ _ e=>e)
 refine wpAny_assign_Name (q5s I' hN hi' (.inl hy) (v:= .ref L) rfl (fun s2 I2 ⟨a,sb,ha⟩=>?_) (.inr hy))
 have hac:C≠a:=by
  rcases ha with ha|ha
  ·rw [ha];exact h1
  ·exact (h3 _ _ ha).symm
 exact⟨m,hn.sameBut sb hac,fun h' sb'=>⟨_,H',I2.off h0 h1 h2 h3 h4 sb',q⟩⟩
end
end L2
namespace PySem
open Sem (wp)
section
variable {prog:Program}{w:World}{A:Around}{E:Value->Shared->Prop}{s:Shared}
theorem q7J {I T:Addr}{k:Nat}{vals:Array Value}{y:Value}{Q:Value->Shared->Prop}(st:s.heap.IsTupleIter I T k)(tp:s.heap.IsTuple T vals)(hy:vals[k]? =some y)
  (hQ:∀h',h'.IsTupleIter I T (k+1)->Heap.SameBut I s.heap h'->Q y {s with heap:=h'}):wpAny (model prog w) A (Builtin.SmallTypes.nextOf (.ref I)) Q E s:=by
 obtain⟨oI,eI,cI,dI⟩:=id st
 obtain⟨oT,eT,_,nT,dT⟩:=tp
 unfold Builtin.SmallTypes.nextOf
 refine yD (zan (name:=Str.ofString "__next__") st.typeIs zbf (zap zbf st.typeIs zcr ?_ (zcm _)))
 show wpAny _ _ (field (.ref I) 0 >>= _) _ _ s
 refine yD (zau eI dI (x:= .ref T) rfl ?_)
 show wpAny _ _ (if (Value.ref T==Value.none)=true then _ else _) _ _ s
 rw[zd (show¬((Value.ref T==Value.none)=true) from zl)]
 show wpAny _ _ (field (.ref I) 1 >>= _) _ _ s
 refine yD (zau eI dI (x:= .int k 0) rfl ?_)
 show wpAny _ _ (seqItems? (.ref T) >>= _) _ _ s
 refine yD (wpAny_seqItems eT dT ?_)
 simp only[Int.toNat_natCast,hy]
 refine yD (zaU eI dI (by simp) (zc ⟨y,rfl,zc (hQ _ ?_ (za7 ..))⟩))
 exact⟨_,zaC _ eI (zaV (zaG dI _)),(zcD ..).trans cI,by rw[zaG dI];simp[rawInt]⟩
theorem q2t {I T:Addr}{k:Nat}{vals:Array Value}{Q:Value->Shared->Prop}(hh:A.handled=none)(st:s.heap.IsTupleIter I T k)(tp:s.heap.IsTuple T vals)(hy:vals[k]? =none)
  (hE:∀h' e,Heap.ExtBut I s.heap h'->(∃o,h'.get? e=some o/\o.cls= .type "StopIteration")->E (.ref e) {s with heap:=h'}):wpAny (model prog w) A (Builtin.SmallTypes.nextOf (.ref I)) Q E s:=by
 obtain⟨oI,eI,cI,dI⟩:=id st
 obtain⟨oT,eT,_,nT,dT⟩:=tp
 unfold Builtin.SmallTypes.nextOf
 refine yD (zan (name:=Str.ofString "__next__") st.typeIs zbf (zap zbf st.typeIs zcr ?_ (zcm _)))
 show wpAny _ _ (field (.ref I) 0 >>= _) _ _ s
 refine yD (zau eI dI (x:= .ref T) rfl ?_)
 show wpAny _ _ (if (Value.ref T==Value.none)=true then _ else _) _ _ s
 rw[zd (show¬((Value.ref T==Value.none)=true) from zl)]
 show wpAny _ _ (field (.ref I) 1 >>= _) _ _ s
 refine yD (zau eI dI (x:= .int k 0) rfl ?_)
 show wpAny _ _ (seqItems? (.ref T) >>= _) _ _ s
 refine yD (wpAny_seqItems eT dT ?_)
 simp only[Int.toNat_natCast,hy]
 refine yD (zbj (yD (zaU eI dI (by simp) ?_)))
 show wpAny _ _ (newExc (.type "StopIteration") [] >>= _) _ _ _
 refine yD ?_
 simp only[newExc,newTuple]
 refine yD (zad ?_ (by size_fits))
 refine yD (m:=firstArgMember _ _) (wpAny_of_eq (a:=Value.none) (by first|rfl|(simp only[firstArgMember];rfl)) ?_)
 refine zad ?_ (by size_fits)
 simp only[raiseNew]
 refine yD (wpAny_handled ?_)
 first|rw[show A.in1.handled=none from hh]|rw[hh]
 refine yD (zc (wpAny_throw ?_))
 exact hE _ _ (((za7 ..).extBut.push _).push _) ⟨_,zB _ rfl,rfl⟩
end
theorem Heap.IsTuple.at2 {h h':Heap}{a:Addr}{vals:Array Value}(x:h.IsTuple a vals)(e:∀o,h.get? a=some o->h'.get? a=some o):h'.IsTuple a vals:=let ⟨o,q,r⟩:=x;⟨o,e o q,r⟩
theorem Heap.IsTupleIter.at2 {h h':Heap}{a t:Addr}{i:Nat}(x:h.IsTupleIter a t i)(e:∀o,h.get? a=some o->h'.get? a=some o):h'.IsTupleIter a t i:=let ⟨o,q,r⟩:=x;⟨o,e o q,r⟩
theorem Draws.tup {prog:Program}{w:World}{A:Around}(hh:A.handled=none)(I T:Addr)(hne:T≠I)(vals:Array Value):
  Draws prog w A I [I,T] vals.size (fun i v=>vals[i]? =some v) (fun i h=>h.IsTupleIter I T i/\h.IsTuple T vals) where
 live:=fun _ _ st=>let ⟨o,ho,_⟩:=st.1;⟨o,ho⟩
 frame:=fun _ _ _ st hk=>⟨st.1.at2 fun o e=>hk I (by simp) o e,st.2.at2 fun o e=>hk T (by simp) o e⟩
 item:=fun i s Q E hi st hQ=>q7J st.1 st.2 (y:=vals[i]) (by simp[hi]) fun h' st' sb=>hQ _ h' s.toks (by simp[hi]) ⟨st',st.2.extBut sb.extBut hne⟩ sb
 done:=fun s Q E st hE=>q2t hh st.1 st.2 (by simp) hE
section
open AutoSeq1 (wpAny_loadPart')
theorem q3U (l:Addr)(items:Array Value)(n:Nat)(dct:Option Addr)(sl:Array (Option Value)):
  Meets (Builtin.«enumerate.__new__» ⟨[.type "enumerate",.ref l],[]⟩) (fun _ R s=>s.heap.get? l=some {cls:= .type "tuple",dict:=dct,data:= .seq items n,slots:=sl}/\
   R (.ok (.ret (.ref (s.heap.push {cls:= .type "tuple_iterator",data:= .fields #[.ref l,.int 0 0]}).objs.size)))
    {s with heap:=(s.heap.push {cls:= .type "tuple_iterator",data:= .fields #[.ref l,.int 0 0]}).push {cls:= .type "enumerate",data:= .fields #[.none,.bool false,.ref s.heap.objs.size,rawInt 0,.none,.none]}}):=
 .of_wp fun prog w A R s h=>by
  obtain⟨hp,g,d,tk,os⟩:=s;obtain⟨hl,h⟩:=h
  have hsub:=sub_enumerate
  have hL:Heap.IsTuple (Shared.heap ⟨hp,g,d,tk,os⟩) l items:=⟨_,hl,rfl,n,rfl⟩
  wp_walk using zbw hl
  refine wpAny_stack_any fun st=>zc ?_
  split
  ·rename_i c _ _ _ _ _
   cases(c==Value.type "enumerate")
   ·wp_walk using zbw hl,zbR hL
    exact⟨_,rfl,h⟩
   ·wp_walk using zbw hl,zbR hL
    exact⟨_,rfl,h⟩
  ·wp_walk using zbw hl,zbR hL
   exact⟨_,rfl,h⟩
variable {prog:Program}{w:World}{A:Around}{E:Value->Shared->Prop}{s:Shared}
theorem q48 {l:Addr}{items:Array Value}{Q:Value->Shared->Prop}(hL:s.heap.IsTuple l items)
  (h:∀h',IsEnum h' (s.heap.objs.size+1) s.heap.objs.size 0 .none->h'.IsTupleIter s.heap.objs.size l 0->h'.objs.size=s.heap.objs.size+2->
   (∀b o,s.heap.get? b=some o->h'.get? b=some o)->Q (.ref (s.heap.objs.size+1)) {s with heap:=h'}):
  wpAny (model prog w) A (call (.type "enumerate") [.ref l]) Q E s:=by
 obtain⟨⟨c,dct,dt,sl⟩,hl,hc,n,hd⟩:=hL
 replace hc:c= .type "tuple":=hc
 replace hd:dt= .seq items n:=hd
 subst hc hd
 refine callType_new F.called_enumerate (by decide) (F.typeCall_enumerate_1 _) (F.newCall_enumerate_1 _) (fun obj=>F.args_object_init_2 obj _) F.entry_enumerate_new (q3U l items n dct sl) ⟨hl,?_⟩
 have hz:(s.heap.push {cls:= .type "tuple_iterator",data:= .fields #[.ref l,.int 0 0]}).objs.size=s.heap.objs.size+1:=zbG ..
 show _/\_
 rw[hz]
 have he:IsEnum ((s.heap.push {cls:= .type "tuple_iterator",data:= .fields #[.ref l,.int 0 0]}).push
   {cls:= .type "enumerate",data:= .fields #[.none,.bool false,.ref s.heap.objs.size,rawInt 0,.none,.none]}) (s.heap.objs.size+1) s.heap.objs.size 0 .none:=by
  have q:=zB (s.heap.push {cls:= .type "tuple_iterator",data:= .fields #[.ref l,.int 0 0]})
   (o:={cls:= .type "enumerate",data:= .fields #[.none,.bool false,.ref s.heap.objs.size,rawInt 0,.none,.none]}) rfl
  rw[hz] at q;exact q
 refine⟨⟨_,he,rfl⟩,h _ he ⟨_,zg _ (zB _ rfl),rfl,rfl⟩ (by rw[zbG,hz]) fun b o x=>zg _ (zg _ x)⟩
end
end PySem
namespace L2
open PySem PySem.Spec PyProof.Rows
section
variable {X:Cx}{pins:List (Addr×Obj)}{σ:St}{H:Hp}{s:Shared}
theorem Inv.turnedL {h':Heap}{t':Nat}{ch:List Addr}(I:Inv X pins σ H s)(hf:∀b∈ch,FpOk X pins H b)(k:∀b o,b∉ch->s.heap.get? b=some o->h'.get? b=some o):Inv X pins σ H {s with heap:=h',toks:=t'}:=by
 have nit:∀b u,H b=some u->b∉ch:=fun b u e z=>by rw[(hf b z).1] at e;cases e
 refine I.step (g':=s.gens) (d':=s.drawn) (ch:=ch) (fun b hb=>⟨(hf b hb).2.2.2.1,(hf b hb).2.1,(hf b hb).2.2.2.2.1,(hf b hb).2.2.2.2.2⟩) (fun b o _ _ hc e _=>k b o hc e) (fun b o _ _ hc e _=>⟨o.slots,k b o hc e⟩) (fun _ _ _ _ n=>n)
  (fun b o hc e=>⟨o,k b o hc e⟩) (fun _ _ e=>e) (fun _ _ _ e=>e) (fun b ps e=>⟨#[],by rw[e];simp⟩) (fun m hm=>?_) (fun b u e=>?_) I.bare
 ·obtain ⟨o,es,ep,ho,r⟩:=hm
  exact⟨o,es,ep,k _ o (fun z=>(hf _ z).2.1 rfl) ho,r⟩
 ·refine (I.hok b u e).stay (fun c v hc q=>k c v ?_ q) (fun _ q=>q) fun _ _ q=>q
  rcases hc with z|z
  ·rw [z];exact nit b u e
  ·exact nit c _ z
theorem Inv.track {a:Addr}{o:HO}(I:Inv X pins σ H s)(ha:X.s₀.heap.objs.size<=a)(hn:H a=none)(hL:a≠X.env.locals)(hc:∀x c,X.env.cells.lookup x=some c->c≠a)(hp:∀p∈X.pn++pins,p.1≠a)
  (new:q0l X.prog X.w (upd H a o) s.heap a o):Inv X pins σ (upd H a o) s:=by
 have ne:∀b ob,X.s₀.heap.get? b=some ob->b≠a:=fun b ob e=>zC (zT (zt e) ha)
 refine⟨I.ok,I.os,I.bare,⟨I.base.keep,I.base.slot,fun b ob e n hx=>by rw[qj (ne b ob e)];exact I.base.free b ob e n hx,I.base.there,fun b xs e=>?_,fun b ob u e=>?_,fun b ps e=>?_⟩,I.loc,I.cell,by rw[qj hL.symm];exact I.free,
  fun x c e=>by rw[qj (hc x c e)];exact I.freeC x c e,fun p hpp=>?_,fun b u e=>?_,I.len⟩
 ·have q:=I.base.tups b xs e
  rw[qj (qu q hn)];exact q
 ·have q:=I.base.frzs b ob u e
  rw[qj (qu q hn)];exact q
 ·obtain ⟨more,q⟩:=I.base.tbls b ps e
  exact⟨more,by rw[qj (qu q hn)];exact q⟩
 ·obtain ⟨e1,n1,r⟩:=I.pin p hpp
  exact⟨e1,by rw[qj (hp p hpp)];exact n1,r⟩
 ·by_cases hb:b=a
  ·subst hb;rw[qd] at e;cases e;exact new
  ·rw [qj hb] at e
   exact(I.hok b u e).stay (fun c v _ q=>q) (fun c q=>by rw[qj (qu q hn)];exact q) fun c xs q=>by rw[qj (qu q hn)];exact q
theorem Inv.yields {h':Heap}{t':Nat}{ch:List Addr}{T:Addr}{xs:List V}{vals:List Value}(I:Inv X pins σ H s)(hf:∀b∈ch,FpOk X pins H b)(k:∀b o,b∉ch->s.heap.get? b=some o->h'.get? b=some o)
  (hT:s.heap.objs.size<=T)(tp:h'.IsTuple T vals.toArray)(r:Vals xs vals)(hz:xs.length<=sizeLine):Inv X pins σ (upd H T (.tup xs)) {s with heap:=h',toks:=t'}:=by
 have f:FpOk X pins H T:=I.fpOk hT (I.hok.fresh hT)
 have I1:Inv X pins σ H {s with heap:=h',toks:=t'}:=I.turnedL hf k
 exact I1.track (zaf I.sz hT) f.1 f.2.1 f.2.2.2.2.1 f.2.2.2.2.2 ⟨hz,vals,r,tp⟩
theorem q9h {ch:List Addr}{T:Addr}{o:HO}(hf:∀b∈ch,FpOk X pins H b)(hT:∀b∈ch,b≠T):∀b∈ch,FpOk X pins (upd H T o) b:=fun b hb=>⟨by rw[qj (hT b hb)];exact(hf b hb).1,(hf b hb).2⟩
end
def Ite (Sq:Hp->List V->Prop):It:=
 ⟨fun i H=>∃xs x,Sq H xs/\xs[i]? =some x,fun i H y H'=>∃T,H T=none/\y= .ref T/\∀xs x,Sq H xs->xs[i]? =some x->H'=upd H T (.tup [.int i,x]),fun i H=>∃xs,Sq H xs/\xs.length<=i⟩
theorem q7s {P:Program}{w:World}{K:W.Frag}{elts:List Expr}{k:Nat}{tp:Pos}(a e it:Addr)(hei:e≠it):Turn P w K (.Tuple elts k tp) (Ite fun H xs=>SqL K H a xs) [e,it] e (fun i h=>(∃old,IsEnum h e it i old)/\h.IsListIter it a i) where
 mem:=by simp
 obj:=fun i h st b hb=>by
  obtain⟨⟨old,q⟩,o,q2,c,d⟩:=st
  rcases zx.mp hb with rfl|hb
  ·exact ⟨_,q,fun v z=>by cases z⟩
  ·rw [zp.mp hb]
   exact⟨o,q2,fun v z=>by rw[d] at z;cases z⟩
 keep:=fun i h h' st kk=>⟨⟨st.1.choose,kk e (by simp) _ st.1.choose_spec⟩,st.2.at fun o q=>kk it (by simp) o q⟩
 item:=by
  intro X hP hw hK hc i pins s σ H E I hf st hg
  subst hP hw hK
  obtain⟨xs,x,hq,hx⟩:=hg
  obtain⟨⟨old,he⟩,hit⟩:=st
  obtain⟨its,rv,p,hz⟩:=I.list hq
  obtain⟨u,hu,ru⟩:=rv.get hx
  have hlen:=rv.length
  have hi:i<its.toArray.size:=by rw[zy];exact(yA hu).1
  have hai:a≠it:=fun z=>by
   obtain⟨o,q,c,d⟩:=hit
   obtain⟨o',q',c',_⟩:=p.isList
   rw[z] at q';rw[q] at q';cases q';rw[c] at c';simp at c'
  have hae:e≠a:=fun z=>by
   obtain⟨o',q',c',_⟩:=p.isList
   rw[<-z,he] at q';cases q';simp at c'
  refine wpAny_pyNext_enum_itemD (Draws.list (A:=X.A.in1) (I.ok.hd hc) it a hai its.toArray) he ⟨hit,p.isList⟩ hi hei (by simp[hei,hae]) fun y h' tk hy ho st' hT hsz hk=>?_
  have hyu:y=u:=by
   have:its[i]? =some y:=by simpa using hy
   rw[hu] at this;exact(zH this).symm
  subst hyu
  have ne:∀b∈[e,it],b≠s.heap.objs.size:=fun b hb=>by
   rcases zx.mp hb with rfl|hb
   ·exact zC (zt he)
   ·rw [zp.mp hb];obtain⟨o,q,_⟩:=hit;exact zC (zt q)
  have kk:∀b o,b∉[e,it]->s.heap.get? b=some o->h'.get? b=some o:=fun b o hb q=>hk b o (fun z=>hb (by simp[z])) (fun z=>hb (by simp[z])) q
  have I1:Inv X pins σ (upd H s.heap.objs.size (.tup [.int i,x])) {s with heap:=h',toks:=tk+1}:=I.yields (vals:=[.int i tk,y]) hf kk (ze _) ⟨_,hT,rfl,_,rfl⟩ (.cons ⟨tk,rfl⟩ (.cons ru .nil)) (by show 2<=sizeLine;decide)
  have hf1:=q9h (o:= .tup [.int i,x]) hf ne
  refine⟨_,rfl,zcw ho fun h'' he'' sb=>?_⟩
  have I2:Inv X pins σ (upd H s.heap.objs.size (.tup [.int i,x])) {s with heap:=h'',toks:=tk+1}:=I1.turnedL (t':=tk+1) hf1 fun b o hb q=>(sb.2 b fun z=>hb (by simp[z])).trans q
  refine⟨.ref s.heap.objs.size,_,I2,rfl,⟨_,I.hok.fresh (ze _),rfl,fun ys y' hy' hx'=>?_⟩,⟨⟨_,by simpa using he''⟩,st'.1.at fun o q=>(sb.2 it hei.symm).trans q⟩,fun b hb=>(hf1 b hb).1⟩
  have:=I.list_inj hy' hq
  subst this
  rw[hx] at hx'
  rw[zH hx']
 done:=by
  intro X hP hw hK hc i pins s σ H E I hf st hg
  subst hP hw hK
  obtain⟨xs,hq,hx⟩:=hg
  obtain⟨⟨old,he⟩,hit⟩:=st
  obtain⟨its,rv,p,hz⟩:=I.list hq
  have hlen:=rv.length
  have hai:a≠it:=fun z=>by
   obtain⟨o,q,c,d⟩:=hit
   obtain⟨o',q',c',_⟩:=p.isList
   rw[z] at q';rw[q] at q';cases q';rw[c] at c';simp at c'
  have D:Draws X.prog X.w X.A.in1 it [it,a] i (fun _ _=>False) (fun k h=>k=i/\h.IsListIter it a i/\h.IsList a its.toArray):=
   {live:=fun _ _ st=>let ⟨o,ho,_⟩:=st.2.1;⟨o,ho⟩
    frame:=fun _ _ _ st hk=>⟨st.1,st.2.1.at fun o q=>hk it (by simp) o q,st.2.2.at fun o q=>hk a (by simp) o q⟩
    item:=fun k s Q E hk st _=>absurd st.1 (zC hk)
    done:=fun s Q E st hE=>wpAny_nextOf_list_end (I.ok.hd hc) st.2.1 st.2.2 (by simp;omega) hE}
  refine wpAny_pyNext_enum_endD D he ⟨rfl,hit,p.isList⟩ fun h' eb=>⟨rfl,I.turnedL (t':=s.toks) (ch:=[e,it]) hf fun b o hb q=>eb b o (fun z=>hb (by simp[z])) q⟩
 self:=fun _ _ _ _ _ st h=>zbW st.1.choose_spec h
theorem q7r {P:Program}{w:World}{K:W.Frag}{elts:List Expr}{k:Nat}{tp:Pos}(a e it:Addr)(hei:e≠it):Turn P w K (.Tuple elts k tp) (Ite fun H xs=>SqT K H a xs) [e,it] e (fun i h=>(∃old,IsEnum h e it i old)/\h.IsTupleIter it a i) where
 mem:=by simp
 obj:=fun i h st b hb=>by
  obtain⟨⟨old,q⟩,o,q2,c,d⟩:=st
  rcases zx.mp hb with rfl|hb
  ·exact ⟨_,q,fun v z=>by cases z⟩
  ·rw [zp.mp hb]
   exact⟨o,q2,fun v z=>by rw[d] at z;cases z⟩
 keep:=fun i h h' st kk=>⟨⟨st.1.choose,kk e (by simp) _ st.1.choose_spec⟩,st.2.at2 fun o q=>kk it (by simp) o q⟩
 item:=by
  intro X hP hw hK hc i pins s σ H E I hf st hg
  subst hP hw hK
  obtain⟨xs,x,hq,hx⟩:=hg
  obtain⟨⟨old,he⟩,hit⟩:=st
  obtain⟨its,rv,p,hz⟩:=I.tuple hq
  have p:s.heap.IsTuple a its.toArray:=p
  obtain⟨u,hu,ru⟩:=rv.get hx
  have hlen:=rv.length
  have hi:i<its.toArray.size:=by rw[zy];exact(yA hu).1
  have hai:a≠it:=fun z=>by
   obtain⟨o,q,c,d⟩:=hit
   obtain⟨o',q',c',_⟩:=p
   rw[z] at q';rw[q] at q';cases q';rw[c] at c';simp at c'
  have hae:e≠a:=fun z=>by
   obtain⟨o',q',c',_⟩:=p
   rw[<-z,he] at q';cases q';simp at c'
  refine wpAny_pyNext_enum_itemD (Draws.tup (A:=X.A.in1) (I.ok.hd hc) it a hai its.toArray) he ⟨hit,p⟩ hi hei (by simp[hei,hae]) fun y h' tk hy ho st' hT hsz hk=>?_
  have hyu:y=u:=by
   have:its[i]? =some y:=by simpa using hy
   rw[hu] at this;exact(zH this).symm
  subst hyu
  have ne:∀b∈[e,it],b≠s.heap.objs.size:=fun b hb=>by
   rcases zx.mp hb with rfl|hb
   ·exact zC (zt he)
   ·rw [zp.mp hb];obtain⟨o,q,_⟩:=hit;exact zC (zt q)
  have kk:∀b o,b∉[e,it]->s.heap.get? b=some o->h'.get? b=some o:=fun b o hb q=>hk b o (fun z=>hb (by simp[z])) (fun z=>hb (by simp[z])) q
  have I1:Inv X pins σ (upd H s.heap.objs.size (.tup [.int i,x])) {s with heap:=h',toks:=tk+1}:=I.yields (vals:=[.int i tk,y]) hf kk (ze _) ⟨_,hT,rfl,_,rfl⟩ (.cons ⟨tk,rfl⟩ (.cons ru .nil)) (by show 2<=sizeLine;decide)
  have hf1:=q9h (o:= .tup [.int i,x]) hf ne
  refine⟨_,rfl,zcw ho fun h'' he'' sb=>?_⟩
  have I2:Inv X pins σ (upd H s.heap.objs.size (.tup [.int i,x])) {s with heap:=h'',toks:=tk+1}:=I1.turnedL (t':=tk+1) hf1 fun b o hb q=>(sb.2 b fun z=>hb (by simp[z])).trans q
  refine⟨.ref s.heap.objs.size,_,I2,rfl,⟨_,I.hok.fresh (ze _),rfl,fun ys y' hy' hx'=>?_⟩,⟨⟨_,by simpa using he''⟩,st'.1.at2 fun o q=>(sb.2 it hei.symm).trans q⟩,fun b hb=>(hf1 b hb).1⟩
  have:=I.tuple_inj hy' hq
  subst this
  rw[hx] at hx'
  rw[zH hx']
 done:=by
  intro X hP hw hK hc i pins s σ H E I hf st hg
  subst hP hw hK
  obtain⟨xs,hq,hx⟩:=hg
  obtain⟨⟨old,he⟩,hit⟩:=st
  obtain⟨its,rv,p,hz⟩:=I.tuple hq
  have p:s.heap.IsTuple a its.toArray:=p
  have hlen:=rv.length
  have D:Draws X.prog X.w X.A.in1 it [it,a] i (fun _ _=>False) (fun k h=>k=i/\h.IsTupleIter it a i/\h.IsTuple a its.toArray):=
   {live:=fun _ _ st=>let ⟨o,ho,_⟩:=st.2.1;⟨o,ho⟩
    frame:=fun _ _ _ st hk=>⟨st.1,st.2.1.at2 fun o q=>hk it (by simp) o q,st.2.2.at2 fun o q=>hk a (by simp) o q⟩
    item:=fun k s Q E hk st _=>absurd st.1 (zC hk)
    done:=fun s Q E st hE=>q2t (I.ok.hd hc) st.2.1 st.2.2 (by simp;omega) hE}
  refine wpAny_pyNext_enum_endD D he ⟨rfl,hit,p⟩ fun h' eb=>⟨rfl,I.turnedL (t':=s.toks) (ch:=[e,it]) hf fun b o hb q=>eb b o (fun z=>hb (by simp[z])) q⟩
 self:=fun _ _ _ _ _ st h=>zbW st.1.choose_spec h
theorem q2x:bootBuiltins "enumerate"=some (.type "enumerate"):=by walk_at "k"
section
variable {X:Cx}{elts:List Expr}{k:Nat}{tp:Pos}
def q9b (K:W.Frag)(ta:TA):TI:=fun σ H R=>ta σ H fun vs H1=>∃a,vs=[.ref a]/\(∃xs,SqL K H1 a xs)/\R (Ite fun H xs=>SqL K H a xs) H1
def q9a (K:W.Frag)(ta:TA):TI:=fun σ H R=>ta σ H fun vs H1=>∃a,vs=[.ref a]/\(∃xs,SqT K H1 a xs)/\R (Ite fun H xs=>SqT K H a xs) H1
theorem qai {a:Expr}{ta:TA}{p pos:Pos}(hg:Gl X "enumerate")(hm:X.mg "enumerate"=none)(ha:PA X [a] ta)(hs:starEach [a] X.env=[(false,eval a X.env)]:=by rfl):PI X (.Tuple elts k tp) (.Call (.Name "enumerate" p) [a] [] pos) (q9b X.K ta):=by
 intro pins s σ H R I h
 refine Call_ (q3Z I hg hm q2x (zaK (thn (ha pos pins s σ H _ I h) fun us s1 ⟨vs,H1,I1,r1,q1⟩=>?_) hs rfl))
 obtain⟨l,e,⟨xs,hq⟩,q⟩:=q1
 subst e
 obtain⟨u,rfl,rx⟩:=q3j r1
 cases rx
 obtain⟨its,rv,pl,hz⟩:=I1.list hq
 refine call_enumerate_list pl.isList fun h' he hit hsz hk=>zbW he ?_
 refine⟨_,[s1.heap.objs.size+1,s1.heap.objs.size],_,_,H1,rfl,I1.kept (t':=s1.toks) hk,q7s l _ _ (Nat.succ_ne_self _),⟨⟨_,he⟩,hit⟩,fun b hb=>?_,q⟩
 rcases zx.mp hb with rfl|hb
 ·exact I1.fpOk (za9 _) (I1.hok.fresh (za9 _))
 ·rw [zp.mp hb];exact I1.fpOk (ze _) (I1.hok.fresh (ze _))
theorem qah {a:Expr}{ta:TA}{p pos:Pos}(hg:Gl X "enumerate")(hm:X.mg "enumerate"=none)(ha:PA X [a] ta)(hs:starEach [a] X.env=[(false,eval a X.env)]:=by rfl):PI X (.Tuple elts k tp) (.Call (.Name "enumerate" p) [a] [] pos) (q9a X.K ta):=by
 intro pins s σ H R I h
 refine Call_ (q3Z I hg hm q2x (zaK (thn (ha pos pins s σ H _ I h) fun us s1 ⟨vs,H1,I1,r1,q1⟩=>?_) hs rfl))
 obtain⟨l,e,⟨xs,hq⟩,q⟩:=q1
 subst e
 obtain⟨u,rfl,rx⟩:=q3j r1
 cases rx
 obtain⟨its,rv,pl,hz⟩:=I1.tuple hq
 refine q48 (show s1.heap.IsTuple l its.toArray from pl) fun h' he hit hsz hk=>zbW he ?_
 refine⟨_,[s1.heap.objs.size+1,s1.heap.objs.size],_,_,H1,rfl,I1.kept (t':=s1.toks) hk,q7r l _ _ (Nat.succ_ne_self _),⟨⟨_,he⟩,hit⟩,fun b hb=>?_,q⟩
 rcases zx.mp hb with rfl|hb
 ·exact I1.fpOk (za9 _) (I1.hok.fresh (za9 _))
 ·rw [zp.mp hb];exact I1.fpOk (ze _) (I1.hok.fresh (ze _))
end
end L2
namespace PySem
open Sem (wp)
end PySem
namespace L2
open PySem PySem.Spec PyProof.Rows
section
variable {X:Cx}
def rIsiT (K:W.Frag):List V->Hp->VK->Prop:=fun xs H Q=>∃x n t b,xs=[x,.ty n]/\TyOf K H x t/\PySem.W.kitOne K t (.type n)=some b/\Q (.bl b) H
theorem q9P:q1j X (.builtin "isinstance") (rIsiT X.K):=by
 intro pins s σ H xs us Q I r h
 obtain⟨x,n,t,b,rfl,ty,e,q⟩:=h
 obtain⟨u,v,rfl,rx,ry⟩:=q9X r
 cases ry
 exact q96 I rx ty e fun tk=>⟨.bl b,H,I.tok _,rfl,q⟩
end
end L2
namespace HT
open PySem PyProof.Rows
section
variable {prog:Program}{w:World}{A:Around}{E:Value->Shared->Prop}{s:Shared}
theorem q37 {t sl:Addr}{items:Array Value}{vl vu:Value}{lo hi:Option Int}{Q:Value->Shared->Prop}(ht:IsTup s.heap t items)(hs:s.heap.IsSliceOf sl vl vu .none)(pl:IsPart vl lo)(pu:IsPart vu hi)
  (hw:sIx items.size 0 lo=0/\sIx items.size items.size hi=items.size)(h:Q (.ref t) s):wpAny (model prog w) A (getItem (.ref t) (.ref sl)) Q E s:=by
 obtain⟨os,hos,hcs,hds⟩:=id hs
 have hTs:s.TypeIs (.ref sl) "slice":=⟨os,hos,hcs⟩
 unfold getItem
 try with_reducible refine zaR ?_
 first|refine yD (zc ?_)|skip
 refine yD (wpAny_sequenceKey ht.typeIs (by decide) ?_)
 refine yD (zan (name:=Str.ofString "__getitem__") ht.typeIs zas (zap zas ht.typeIs entry_tuple_getitem ?_ (args_tuple_getitem _ _)))
 show wpAny _ _ (Builtin.Tuple.tupleItemsOf (.ref t) >>= _) _ _ s
 refine yD (tupleItemsOf_ ht (yD (wpAny_typeOf hTs ?_)))
 rw[zi (by decide)]
 refine yD (q1V hs pl pu ?_)
 have yes:(((sIx items.size 0 lo:Nat):Int)==0&&(1:Int)==1&&(sIx items.size items.size hi - sIx items.size 0 lo)==items.size)=true:=by
  rw[hw.1,hw.2];simp
 show wpAny _ _ (if (((sIx items.size 0 lo:Nat):Int)==0&&(1:Int)==1&&(sIx items.size items.size hi - sIx items.size 0 lo)==items.size)=true then _ else _) _ _ s
 rw[zi yes]
 refine yD (m:=Builtin.Tuple.tupleIsExact _) ?_
 unfold Builtin.Tuple.tupleIsExact
 refine yD (wpAny_typeOf ht.typeIs (zc ?_))
 simp only[beq_self_eq_true,if_true]
 first
  |exact yD (zbj (zc ⟨_,rfl,zc h⟩))
  |exact yD (zbj (yD (zc (zc ⟨_,rfl,zc h⟩))))
  |exact yD (zbj (yD (zc ⟨_,rfl,zc h⟩)))
  |(trace_state;fail)
end
end HT
namespace L2
open PySem PySem.Spec PyProof.Rows
section
variable {X:Cx}
def rSlTA (K:W.Frag):V->Option Int->Option Int->Hp->VK->Prop:=fun x lo hi H Q=>∃a xs,x= .ref a/\SqT K H a xs/\(cutV xs lo hi=xs->Q (.ref a) H)/\∀p,H p=none->Q (.ref p) (upd H p (.tup (cutV xs lo hi)))
theorem qc7:SlR X (rSlTA X.K):=by
 intro pins s σ H x v vl vu lo hi sl Q I rx hs pl pu h
 obtain⟨a,xs,rfl,hx,h1,h2⟩:=h
 by_cases hw:HT.sIx xs.length 0 lo=0/\HT.sIx xs.length xs.length hi=xs.length
 ·have e:cutV xs lo hi=xs:=by unfold cutV;rw[hw.1,hw.2];simp
  cases rx
  obtain⟨its,r,ht,hz⟩:=I.tuple hx
  have hlen:its.toArray.size=xs.length:=by rw[zy];exact r.length.symm
  exact⟨"tuple",_,zas.lookup,ht.typeIs,HT.q37 ht hs pl pu (by rw[hlen];exact hw) ⟨.ref a,H,I,rfl,h1 e⟩⟩
 ·exact sl_tup pins s σ H (.ref a) v vl vu lo hi sl Q I rx hs pl pu ⟨a,xs,rfl,hx,hw,h2⟩
end
theorem q54 {J:It}{g:TG}{tc:TT}{te:TE}{R:Hp->Prop}{σ:St}{H:Hp}{D:Addr}(n:Nat)(Pv:Nat->St->Hp->Prop)(h0:Pv 0 σ H)
  (go:∀i σ H,i<n->Pv i σ H->J.go i H/\∀x H',J.yld i H x H'->g x σ H' fun σ3 H3=>tc σ3 H3 fun b H4=>
   if b=true then te σ3 H4 fun y H5=>∃ys,H5 D=some (.lst ys)/\ys.length<sizeLine/\Pv (i+1) σ3 (upd H5 D (.lst (ys++[y]))) else Pv (i+1) σ3 H4)(stop:∀σ H,Pv n σ H->J.stop n H/\R H):
  ∃W:Nat->Nat->St->Hp->Prop,(∃m,W 0 m σ H)/\∀i m σ H,W i m σ H->
   (J.stop i H/\R H)\/(J.go i H/\∃N:St->Hp->Prop,(∀σ' H',N σ' H'->∃m',m'<m/\W (i+1) m' σ' H')/\∀x H',J.yld i H x H'->g x σ H' fun σ3 H3=>tc σ3 H3 fun b H4=>
    if b=true then te σ3 H4 fun y H5=>∃ys,H5 D=some (.lst ys)/\ys.length<sizeLine/\N σ3 (upd H5 D (.lst (ys++[y]))) else N σ3 H4):=by
 refine⟨fun i m σ H=>m=n - i/\i<=n/\Pv i σ H,⟨n,by simp,zak _,h0⟩,?_⟩
 rintro i m σ H ⟨rfl,hi,p⟩
 by_cases hlt:i<n
 ·obtain ⟨q1,q2⟩:=go i σ H hlt p
  exact .inr ⟨q1,Pv (i+1),fun σ' H' p'=>⟨n - (i+1),by omega,rfl,hlt,p'⟩,q2⟩
 ·have e:i=n:=by omega
  subst e
  exact .inl (stop σ H p)
theorem Same.upd {H:Hp}{a:Addr}{o:HO}(h:H a=none):Same H (upd H a o):=fun b u e=>by rw[qj (qu e h)];exact e
theorem Same.put {H H':Hp}{a:Addr}{o:HO}(e:Same H H')(h:H a=none):Same H (L2.upd H' a o):=fun b u q=>by rw[qj (qu q h)];exact e b u q
def isFun:ScopeKind->Bool
 | .function=>true
 |_=>false
theorem qaV {k:ScopeKind}(h:isFun k=true):k= .function:=by
 cases k<;>first|rfl|cases h
def q9C (Nx:List Str)(scx:Scope)(N:List Str)(scope:Scope)(own:Nat)(caps:List Nat):Bool:=
 isFun scope.kind&&scope.names.all (fun y=>(y.2 != .local||scope.names.lookup y.1==some .local)&&y.2 != .cell&&(y.2 != .free||scx.names.lookup y.1==some .cell||scx.names.lookup y.1==some .free))&&
  N.length==own+caps.length&&(caps.zip (N.drop own)).all fun p=>decide (Nx[p.1]? =some p.2)&&scope.names.lookup p.2==some .free
theorem q0G {X:Cx}{N:List Str}{scope:Scope}{own:Nat}{caps:List Nat}(Nx:List Str)(scx:Scope)(h:q9C Nx scx N scope own caps=true)(hN:X.N=Nx:=by rfl)(hs:X.env.scope=scx:=by rfl):CompOk X N scope own caps:=by
 unfold q9C at h
 simp only[Bool.and_eq_true,List.all_eq_true] at h
 obtain⟨⟨⟨h1,h2⟩,h3⟩,h4⟩:=h
 refine⟨qaV h1,fun y hy hl=>?_,fun y hy hc=>?_,fun y hy hf=>?_,by simpa using h3,fun i j x e1 e2=>?_⟩
 ·have:=(h2 y hy).1.1
  simpa[hl] using this
 ·have:=(h2 y hy).1.2
  simp[hc] at this
 ·have:=(h2 y hy).2
  show X.env.scope.names.lookup y.1=some .cell\/X.env.scope.names.lookup y.1=some .free
  rw[hs]
  simpa[hf] using this
 ·have hm:(j,x)∈caps.zip (N.drop own):=by
   have e3:(N.drop own)[i]? =some x:=by rw[List.getElem?_drop];exact e2
   exact List.mem_iff_getElem?.mpr ⟨i,by rw[List.getElem?_zip_eq_some];exact⟨e1,e3⟩⟩
  have:=h4 _ hm
  rw[hN]
  exact⟨za4 this.1,by simpa using this.2⟩
structure Cal (P:Program)(w:World)(K:W.Frag)(mg:Str->Option Value)(base:Heap)(k:Nat)(x:Str)(ps:List Str)(sp:Sp):Prop where
 ex:∃f fd,FnOk P w K mg base CX0 k f fd ps sp/\mg x=some (.ref f)/\PySem.W.keepIn K (.ref f)=true/\q1U K fd ps []
structure Laid (K:W.Frag)(mg:Str->Option Value)(x:Str)(st:Stmt)(ps:List Str):Prop where
 ex:∃f fd,Fun K x x st f fd/\mg x=some (.ref f)/\q1U K fd ps []
section
variable {P:Program}{w:World}{K:W.Frag}{mg:Str->Option Value}{base:Heap}
theorem Laid.cal {x:Str}{st:Stmt}{N ps:List Str}{k:Nat}{sp:Sp}(L:Laid K mg x st ps)(S:FnScope N ps (qf st))(len:∀vs H Q E,sp vs H Q E->vs.length=ps.length)
  (hbody:∀(f:Addr) (cdv:Value) (A:Around) (outer:List Env) (s:Shared) (H:Hp) (vs:List V) (Q:VK) (E:XK),Room k (A.deeper (envOfC x (qf st) s.heap.objs.size f cdv))->sp vs H Q E->
   ∃t,PSs (cxOf CX0 P w K mg base N x (qf st) f cdv A outer s H E).nox (q0e st) t/\t {nx:=fun _ H'=>Q .non H',rt:=Q} (start N vs) H):Cal P w K mg base (k+1) x ps sp:=by
 obtain⟨f,fd,F,m,b⟩:=L.ex
 exact⟨f,fd,F.ok S len (fun cdv A outer s H vs Q E hr h=>hbody f cdv A outer s H vs Q E hr h),m,F.kp,b⟩
theorem qcQ {h:Heap}{x:Str}{st:Stmt}{ps:List Str}{f:Addr}{oc:Value}{od an:Option Addr}{osl:Array (Option Value)}{kV doc pm cdv ct:Value}(X:K.In h)(G:h.Ns mainGlobals mg)(a:PySem.W.nsIn K mainGlobals x=some (some (.ref f)))
  (l:K.lookup f=some ⟨oc,od,.func (PySem.W.fnOf x x (q0F st) (q0e st) (qf st) .none kV doc pm an cdv ct),osl⟩)(c:PySem.W.codeIn K cdv x=true)(k:PySem.W.keepIn K (.ref f)=true)
  (hb:∀(kV doc pm:Value) (an:Option Addr) (cdv ct:Value) (us:List Value),us.length=ps.length->bindArgs (PySem.W.fnOf x x (q0F st) (q0e st) (qf st) .none kV doc pm an cdv ct) ⟨us,[]⟩=pure (ps.zip us)):Laid K mg x st ps:=
 ⟨f,_,q2T l c k,PySem.W.mg_of X G a,(q2T l c k).binds hb⟩
end
section
variable {X:Cx}{k k':Nat}{x:Str}{ps:List Str}{sp:Sp}{p pos:Pos}{e:Expr}{es:List Expr}{t:TA}
theorem qH (c:Cal X.prog X.w X.K X.mg X.base k x ps sp)(hr:Room k' X.A)(hk:k<=k')(hg:Gl X x)(ha:PA X (e::es) t)(hdb:(x==("__debug__":Str))=false:=by decide)(he:starEach (e::es) X.env=(false,eval e X.env)::starEach es X.env:=by rfl)
  (hpl:(backTo pos (starEach es X.env)).any (·.1)=false:=by rfl):PE X (.Call (.Name x p) (e::es) [] pos) (q87 sp [] E0 t):=by
 obtain⟨f,fd,F,m,kp,b⟩:=c.ex
 exact q8G F (hr.mono hk) hg m kp b .nil q7E ha hdb he hpl
end
def tyS (H:Hp):V->Option String
 | .non=>some "NoneType"
 | .bl _=>some "bool"
 | .int _=>some "int"
 | .str _=>some "str"
 | .ref p=>match H p with
  |some (.lst _)=>some "list"
  |some (.tup _)=>some "tuple"
  |some (.frz _ (.lst _))=>some "list"
  |_=>none
 |_=>none
def subS (a n:String):Bool:=a==n||(a=="bool"&&n=="int")
def q8Y (n:String):Bool:=n=="bool"||n=="int"||n=="str"||n=="list"||n=="tuple"
theorem qcR (K:W.Frag):∀a∈["NoneType","bool","int","str","list","tuple"],∀n∈["bool","int","str","list","tuple"],PySem.W.kitOne K (.type a) (.type n)=some (subS a n):=by
 intro a ha n hn
 simp only[List.mem_cons,List.not_mem_nil,or_false] at ha hn
 rcases ha with rfl|rfl|rfl|rfl|rfl|rfl<;>rcases hn with rfl|rfl|rfl|rfl|rfl<;>kernel_rfl
theorem tyS_ty {K:W.Frag}{H:Hp}{x:V}{a:String}(h:tyS H x=some a):TyOf K H x (.type a)/\a∈["NoneType","bool","int","str","list","tuple"]:=by
 unfold tyS at h
 split at h
 ·cases h;exact⟨.non,by simp⟩
 ·cases h;exact⟨.bl _,by simp⟩
 ·cases h;exact⟨.int _,by simp⟩
 ·cases h;exact⟨.str _,by simp⟩
 ·split at h
  ·rename_i e;cases h;exact⟨.lst e,by simp⟩
  ·rename_i e;cases h;exact⟨.tup e,by simp⟩
  ·rename_i e;cases h;exact⟨.frz e,by simp⟩
  ·cases h
 ·cases h
section
variable {X:Cx}
def q5R:List V->Hp->VK->Prop:=fun xs H Q=>∃x n a,xs=[x,.ty n]/\tyS H x=some a/\q8Y n=true/\Q (.bl (subS a n)) H
theorem q18:q1j X (.builtin "isinstance") q5R:=by
 intro pins s σ H xs us Q I r h
 obtain⟨x,n,a,rfl,ty,kn,q⟩:=h
 obtain⟨t1,t2⟩:=tyS_ty (K:=X.K) ty
 refine q9P pins s σ H _ us Q I r ⟨x,n,_,_,rfl,t1,qcR X.K a t2 n ?_,q⟩
 unfold q8Y at kn
 simp only[Bool.or_eq_true,beq_iff_eq] at kn
 simp only[List.mem_cons,List.not_mem_nil,or_false]
 rcases kn with(((kn|kn)|kn)|kn)|kn<;>simp[kn]
theorem qbW {H:Hp}{p:Addr}{xs:List V}(h:H p=some (.tup xs)):tyS H (.ref p)=some "tuple":=by simp only[tyS,h]
theorem qbX {H:Hp}{p:Addr}{xs:List V}(h:H p=some (.lst xs)):tyS H (.ref p)=some "list":=by simp only[tyS,h]
end
theorem q0i:bootBuiltins "isinstance"=some (.builtin "isinstance"):=by walk_at "k"
theorem q0g:bootBuiltins "len"=some (.builtin "len"):=by walk_at "k"
theorem qbM:bootBuiltins "max"=some (.builtin "max"):=by walk_at "k"
theorem qbL:bootBuiltins "min"=some (.builtin "min"):=by walk_at "k"
theorem q69:bootBuiltins "sorted"=some (.builtin "sorted"):=by walk_at "k"
theorem q6a:bootBuiltins "int"=some (.type "int"):=by walk_at "k"
theorem q9R:bootBuiltins "bool"=some (.type "bool"):=by walk_at "k"
theorem q49:bootBuiltins "list"=some (.type "list"):=by walk_at "k"
theorem q1S:bootBuiltins "tuple"=some (.type "tuple"):=by walk_at "k"
structure VMeth (P:Program)(w:World)(K:W.Frag)(mg:Str->Option Value)(base:Heap)(k:Nat)(C:Addr)(m:Str)(ps:List Str)(sp:Sp):Prop where
 cl:Cls K C
 ex:∃f fd,Meth K C m f/\FnOk P w K mg base CX0 k f fd ps sp/\q1U K fd ps []
def tVM (P:Program)(w:World)(K:W.Frag)(mg:Str->Option Value)(base:Heap)(k:Nat)(m:Str)(ta:TE)(t:TA):TE:=fun σ H Q=>ta σ H fun x H1=>∃a C dx fs ps sp,x= .ref a/\H1 a=some (.ins C dx fs)/\VMeth P w K mg base k C m ps sp/\fs.lookup m=none/\
 t σ H1 fun vs H2=>sp (x::vs) H2 Q E0
structure CMeth (K:W.Frag)(C:Addr)(m:Str)(f:Addr):Prop where
 rd:PySem.W.readsIn K C (.type "type")=true
 fc:PySem.W.findCls K (.ref C) (.type "type") m=some (.val (.ref f))
 sg:PySem.W.specialIn K (.ref C) "__getattribute__"=some (some (.builtin "type.__getattribute__"))
 kp:PySem.W.keepIn K (.ref f)=true
structure CCal (P:Program)(w:World)(K:W.Frag)(mg:Str->Option Value)(base:Heap)(k:Nat)(x m:Str)(ps:List Str)(sp:Sp):Prop where
 ex:∃C f fd,mg x=some (.ref C)/\CMeth K C m f/\FnOk P w K mg base CX0 k f fd ps sp/\q1U K fd ps []
structure Makes (P:Program)(w:World)(K:W.Frag)(mg:Str->Option Value)(base:Heap)(k:Nat)(x:Str)(C:Addr)(ps:List Str)(sp:Sp):Prop where
 ex:∃f fd,Mk K C f/\FnOk P w K mg base CX0 k f fd ps sp/\q1U K fd ps []
 at_:mg x=some (.ref C)
section
variable {X:Cx}{k k':Nat}{C:Addr}{ps:List Str}{sp:Sp}{x m:Str}{p pos apos:Pos}{e o:Expr}{es:List Expr}{ta:TE}{t:TA}
theorem q3N {pl:Sem Bool}(hr:Room k X.A)(he:PE X o ta)(ha:PA X (e::es) t)(hst:starEach (e::es) X.env=(false,eval e X.env)::starEach es X.env:=by rfl)(hpl:(backTo pos (starEach es X.env)).any (·.1)=false:=by rfl)
  (ht:eval (.Call (.Attribute o m apos) (e::es) [] pos) X.env=(do
   let ov<-eval o X.env
   standAt apos.atName
   let (f,first)<-holding [ov] (getMethod ov m pl)
   callWith pos f first (backTo pos (starEach (e::es) X.env)) (backToKw pos (keywordEach [] X.env))):=by rfl):
  PE X (.Call (.Attribute o m apos) (e::es) [] pos) (tVM X.prog X.w X.K X.mg X.base k m ta t):=by
 intro pins s σ H Q I h
 refine zb6 (pl:=pl) (thn (he pins s σ H _ I h) fun u s1 ⟨x,H1,I1,rx,a,C,dx,fs,ps,sp,ex,ea,vm,l,q⟩=>?_) ht
 subst ex
 obtain rfl:u=Value.ref a:=rx
 obtain⟨f,fd,hm,F,hb⟩:=vm.ex
 refine q4x I1 ea vm.cl hm l ?_
 refine zbv (first:=[.ref a]) (h₀:=X.base) I.ok.mod.kin hm.kp (thn (ha pos pins s1 σ H1 _ I1 q) fun us s2 ⟨vs,H2,I2,r,q2⟩=>⟨I2.kIn,?_⟩) hst hpl
 exact q6U (us:= .ref a::us) (vs:= .ref a::vs) (ds:=[]) (dvs:=[]) F hr hb .nil q7E I2 (.cons rfl r) (by rw[zM];exact q2)
theorem pe_vm0 {pl:Sem Bool}(hr:Room k X.A)(he:PE X o ta)
  (ht:eval (.Call (.Attribute o m apos) [] [] pos) X.env=(do
   let ov<-eval o X.env
   standAt apos.atName
   let (f,first)<-holding [ov] (getMethod ov m pl)
   callWith pos f first (backTo pos (starEach [] X.env)) (backToKw pos (keywordEach [] X.env))):=by rfl):
  PE X (.Call (.Attribute o m apos) [] [] pos) (tVM X.prog X.w X.K X.mg X.base k m ta tNil):=by
 intro pins s σ H Q I h
 refine zb6 (pl:=pl) (thn (he pins s σ H _ I h) fun u s1 ⟨x,H1,I1,rx,a,C,dx,fs,ps,sp,ex,ea,vm,l,q⟩=>?_) ht
 subst ex
 obtain rfl:u=Value.ref a:=rx
 obtain⟨f,fd,hm,F,hb⟩:=vm.ex
 refine q4x I1 ea vm.cl hm l ?_
 exact PySem.W.callWith_K0 (first:=[.ref a]) I1.kIn hm.kp (q6U (us:=[.ref a]) (vs:=[.ref a]) (ds:=[]) (dvs:=[]) F hr hb .nil q7E I1 (.cons rfl .nil) q)
theorem q3Q {pl:Sem Bool}{op:Pos}(c:CCal X.prog X.w X.K X.mg X.base k x m ps sp)(hr:Room k' X.A)(hk:k<=k')(hg:Gl X x)(ha:PA X (e::es) t)(hdb:(x==("__debug__":Str))=false:=by decide)
  (hst:starEach (e::es) X.env=(false,eval e X.env)::starEach es X.env:=by rfl)(hpl:(backTo pos (starEach es X.env)).any (·.1)=false:=by rfl)
  (ht:eval (.Call (.Attribute (.Name x op) m apos) (e::es) [] pos) X.env=(do
   let ov<-eval (.Name x op) X.env
   standAt apos.atName
   let (f,first)<-holding [ov] (getMethod ov m pl)
   callWith pos f first (backTo pos (starEach (e::es) X.env)) (backToKw pos (keywordEach [] X.env))):=by rfl):
  PE X (.Call (.Attribute (.Name x op) m apos) (e::es) [] pos) (q87 sp [] E0 t):=by
 intro pins s σ H Q I h
 obtain⟨C,f,fd,hm,cm,F,hb⟩:=c.ex
 refine zb6 (pl:=pl) (q2b I hg hm ?_ hdb) ht
 refine PySem.W.method_cls I.kIn cm.sg (PySem.W.cls_value I.kIn cm.rd cm.fc rfl ?_)
 have I1:=I.tok (s.toks+1)
 refine zbv (first:=[]) (h₀:=X.base) I.ok.mod.kin cm.kp (thn (ha pos pins _ σ H _ I1 h) fun us s2 ⟨vs,H2,I2,r,q2⟩=>⟨I2.kIn,?_⟩) hst hpl
 exact q6U F (hr.mono hk) hb .nil q7E I2 r q2
theorem q2s (c:Makes X.prog X.w X.K X.mg X.base k x C ps sp)(hr:Room k' X.A)(hk:k+1<=k')(hg:Gl X x)(ha:PA X (e::es) t)(hdb:(x==("__debug__":Str))=false:=by decide)(he:starEach (e::es) X.env=(false,eval e X.env)::starEach es X.env:=by rfl)
  (hpl:(backTo pos (starEach es X.env)).any (·.1)=false:=by rfl):PE X (.Call (.Name x p) (e::es) [] pos) (q85 C sp [] E0 t):=by
 obtain⟨f,fd,M,F,b⟩:=c.ex
 exact qcq M F (hr.mono hk) hg c.at_ b .nil q7E ha hdb he hpl
theorem qcr (c:Makes X.prog X.w X.K X.mg X.base k x C ps sp)(hr:Room k' X.A)(hk:k+1<=k')(hg:Gl X x)(hdb:(x==("__debug__":Str))=false:=by decide):PE X (.Call (.Name x p) [] [] pos) (q85 C sp [] E0 tNil):=by
 obtain⟨f,fd,M,F,b⟩:=c.ex
 exact qal M F (hr.mono hk) hg c.at_ b .nil q7E hdb
def eqVs (xs ys:List V):Bool:=xs.length==ys.length&&(List.zipWith eqV xs ys).all id
theorem q1T (xs ys:List V):((List.range (min xs.length ys.length)).all fun j=>eqV (xs.getD j .non) (ys.getD j .non))=(List.zipWith eqV xs ys).all id:=by
 rw[zbd]
 simp only[List.all_eq_true,List.mem_range,id]
 constructor
 ·intro h b hb
  obtain⟨i,hi,rfl⟩:=List.mem_iff_getElem.mp hb
  rw[List.length_zipWith] at hi
  have:=h i hi
  simpa[List.getD,show i<xs.length by omega,show i<ys.length by omega] using this
 ·intro h i hi
  have:=h _ (List.mem_iff_getElem.mpr ⟨i,by rw[List.length_zipWith];exact hi,rfl⟩)
  simpa[List.getD,show i<xs.length by omega,show i<ys.length by omega] using this
theorem q0w {xs:List V}{us:List Value}(r:Vals xs us){j:Nat}(h:j<us.toArray.size):RelV (xs.getD j .non) us.toArray[j]:=by
 have hj:j<us.length:=by simpa using h
 have hx:j<xs.length:=by rw[r.length];exact hj
 obtain⟨u,hu,ru⟩:=r.get (i:=j) (x:=xs[j]) (by simp[hx])
 have e1:us.toArray[j]=u:=by
  have:us[j]? =some us[j]:=by simp[hj]
  rw[this] at hu
  simpa using zH hu
 rw[e1]
 simpa[List.getD,hx] using ru
theorem q39 {xs:List V}(h:xs.all q2D=true)(j:Nat):q2D (xs.getD j .non)=true:=by
 by_cases hj:j<xs.length
 ·rw [zcN] at h
  have:=h xs[j] (zU hj)
  simpa[List.getD,hj] using this
 ·simp [List.getD,show xs.length<=j by omega,q2D]
def rEqTs (K:W.Frag):R2:=fun x y H Q=>∃p q xs ys,x= .ref p/\y= .ref q/\SqT K H p xs/\SqT K H q ys/\xs.all q2D=true/\ys.all q2D=true/\Q (.bl (eqVs xs ys)) H
theorem op_eqT (hu:X.A.units<cLine):OpR X (compareOp .Eq) (rEqTs X.K):=by
 intro pins s σ H x y v u Q I rx ry h
 obtain⟨p,q,xs,ys,rfl,rfl,hp,hq,fx,fy,k⟩:=h
 cases rx
 cases ry
 obtain⟨ia,ra,pa,_⟩:=I.tuple hp
 obtain⟨ib,rb,pb,_⟩:=I.tuple hq
 have la:=ra.length
 have lb:=rb.length
 refine SeqAt.eq_tupleAt (e:=fun j=>eqV (xs.getD j .non) (ys.getD j .non)) (show s.heap.IsTuple p ia.toArray from pa) (show s.heap.IsTuple q ib.toArray from pb) hu (fun j h1 h2=>q7d (q0w ra h1) (q0w rb h2) (q39 fx j) (q39 fy j)) ⟨.bl (eqVs xs ys),H,I,?_,k⟩
 show Value.bool _=Value.bool _
 unfold eqVs
 rw[<-q1T,Bool.and_comm]
 simp[la,lb]
def rNeLs (K:W.Frag):R2:=fun x y H Q=>∃p q xs ys,x= .ref p/\y= .ref q/\SqL K H p xs/\SqL K H q ys/\xs.all q2D=true/\ys.all q2D=true/\Q (.bl (!eqVs xs ys)) H
theorem op_neL (hu:X.A.units<cLine):OpR X (compareOp .NotEq) (rNeLs X.K):=by
 intro pins s σ H x y v u Q I rx ry h
 obtain⟨p,q,xs,ys,rfl,rfl,hp,hq,fx,fy,k⟩:=h
 cases rx
 cases ry
 obtain⟨ia,ra,pa,_⟩:=I.list hp
 obtain⟨ib,rb,pb,_⟩:=I.list hq
 have la:=ra.length
 have lb:=rb.length
 by_cases hl:xs.length=ys.length
 ·refine SeqAt.RcNeAt.lists (e:=fun j=>eqV (xs.getD j .non) (ys.getD j .non)) pa.isList pb.isList (by simp;omega) hu (fun j h1 h2=>q7d (q0w ra h1) (q0w rb h2) (q39 fx j) (q39 fy j)) _ _ _ _ ⟨.bl (!eqVs xs ys),H,I,?_,k⟩
  show Value.bool _=Value.bool _
  unfold eqVs
  rw[<-q1T,show ia.toArray.size=min xs.length ys.length by simp;omega]
  simp[hl]
 ·refine zcx pa.isList pb.isList (by simp;omega) hu _ _ _ _ ⟨.bl (!eqVs xs ys),H,I,?_,k⟩
  show Value.bool _=Value.bool _
  unfold eqVs
  simp[hl]
end
section
variable {X:Cx}{e o:Expr}{es:List Expr}{ta:TE}{t:TA}{pos apos:Pos}{m f:Str}
theorem qL (K:W.Frag)(h:X.K=K:=by rfl):IxR X (rIxL K):=by subst h;exact qcT
theorem qh (K:W.Frag)(h:X.K=K:=by rfl):IxR X (rIxT K):=by subst h;exact ix_tup
theorem q4K (K:W.Frag)(h:X.K=K:=by rfl):SlR X (rSlL K):=by subst h;exact qc8
theorem q6P (K:W.Frag)(h:X.K=K:=by rfl):SlR X (rSlTA K):=by subst h;exact qc7
theorem q73 (K:W.Frag)(h:X.K=K:=by rfl):OpR X (binaryOp .Add) (rCatT K):=by subst h;exact q8M
theorem qcv (K:W.Frag)(hu:X.A.units<cLine)(h:X.K=K:=by rfl):OpR X (compareOp .Eq) (rEqTs K):=by subst h;exact op_eqT hu
theorem q0y {k:Nat}{g:TGs}{n:Nat}(K:W.Frag)(hc:X.calm=true)(h:PGs X es g)(hK:X.K=K:=by rfl)(hn:(assignEach es X.env).length=n:=by rfl)(hst:(assignEach es X.env).findIdx? (·.1)=none:=by rfl):PG X (.Tuple es k pos) (gTup K n g):=by
 subst hK
 exact pg_tup hc h hn hst
theorem q0z (K:W.Frag)(he:PE X e ta)(hb:attributeBase e f X.env (eval e X.env)=eval e X.env)(hK:X.K=K:=by rfl):PE X (.Attribute e f pos) (tFld K ta f):=by
 subst hK
 exact pe_fld he hb
end
section
variable {X:Cx}{pos:Pos}
theorem qaY:PGet X (rIxL X.K):=by
 intro pins s σ H o i ov iv Q I ro ri h
 obtain⟨p,xs,i,z,rfl,rfl,hq,he,q⟩:=h
 cases ro
 obtain⟨t,rfl⟩:=ri
 obtain⟨its,r,pl,hz⟩:=I.list hq
 obtain⟨j,h1,h2,h3,h4,h5⟩:=q6J he
 obtain⟨w,ew,rw'⟩:=r.get h2
 have hl:=r.length
 have hn:=q5X
 have fin:EP X pins σ Q w s:=⟨z,H,I,rw',q⟩
 by_cases h0:0<=i
 ·have hj:i.toNat=j:=by
   rw[seqIndex_of h0 h5] at h1
   exact zH h1
  exact wpAny_getItem_list pl.isList h0 (by omega) (by rw[hj];simpa using ew) fin
 ·have hj:(i+(its.toArray.size:Int)).toNat=j:=by
   rw[seqIndex_neg (by omega) h4] at h1
   rw[zy,<-hl]
   exact zH h1
  exact wpAny_getItem_list_neg pl.isList (by omega) (by rw[zy]<;>omega) (by omega) (by rw[hj];simpa using ew) fin
end
def rLen (K:W.Frag):List V->Hp->VK->Prop:=fun xs H Q=>∃p ys,xs=[.ref p]/\(SqL K H p ys\/SqT K H p ys)/\Q (.int ys.length) H
def qbq (K:W.Frag):List V->Hp->VK->Prop:=fun xs H Q=>∃p ys,xs=[.ref p]/\((SqL K H p ys/\∀l,H l=none->Q (.ref l) (upd H l (.tup ys)))\/(SqT K H p ys/\Q (.ref p) H))
def rLstOf (K:W.Frag):List V->Hp->VK->Prop:=fun xs H Q=>∃p ys,xs=[.ref p]/\(SqL K H p ys\/SqT K H p ys)/\∀l,H l=none->Q (.ref l) (upd H l (.lst ys))
def rMax2:List V->Hp->VK->Prop:=fun xs H Q=>∃i j,xs=[.int i,.int j]/\Q (.int (if j>i then j else i)) H
def rMin2:List V->Hp->VK->Prop:=fun xs H Q=>∃i j,xs=[.int i,.int j]/\Q (.int (if j<i then j else i)) H
def rInt1:List V->Hp->VK->Prop:=fun xs H Q=>(∃i,xs=[.int i]/\Q (.int i) H)\/∃k,xs=[.bl k]/\Q (.int (if k then 1 else 0)) H
section
variable {X:Cx}
theorem lenK (K:W.Frag)(h:X.K=K:=by rfl):q1j X (.builtin "len") (rLen K):=by subst h;exact q68
theorem q4o (K:W.Frag)(h:X.K=K:=by rfl):q1j X (.type "tuple") (qbq K):=by subst h;exact q57
theorem qbC (K:W.Frag)(h:X.K=K:=by rfl):q1j X (.type "list") (rLstOf K):=by subst h;exact q67
theorem max2 (hc:X.calm=true):q1j X (.builtin "max") rMax2:=q9O hc
theorem min2 (hc:X.calm=true):q1j X (.builtin "min") rMin2:=q9N hc
theorem int1:q1j X (.type "int") rInt1:=q9Q
end
section
variable {σ:St}{H:Hp}{Q:VK}{B:Bool->Hp->Prop}{L:List V->Hp->Prop}{ta tb:TE}{t:TA}{c d:TT}{nx bk ct:St->Hp->Prop}{rt:VK}{g:TG}{K:W.Frag}
theorem r_var {i:Nat}{v:V}(h:σ[i]? =some (some v))(q:Q v H):tVar i σ H Q:=⟨v,h,q⟩
theorem r_c {v:V}(q:Q v H):tC v σ H Q:=q
theorem r_op {r:R2}(q:ta σ H fun x H1=>tb σ H1 fun y H2=>r x y H2 Q):tOp r ta tb σ H Q:=q
theorem r_I0 {f:Int->Int->V}{i j:Int}(q:Q (f i j) H):rI0 f (.int i) (.int j) H Q:=⟨i,j,rfl,rfl,q⟩
theorem r_I {C:Int->Int->Prop}{f:Int->Int->V}{i j:Int}(h:C i j)(q:Q (f i j) H):rI C f (.int i) (.int j) H Q:=⟨i,j,rfl,rfl,h,q⟩
theorem r_isN (q:ta σ H fun x H1=>Q (.bl (decide (x= .non))) H1):tIsN ta σ H Q:=q
theorem r_notN (q:ta σ H fun x H1=>Q (.bl (!decide (x= .non))) H1):tNotN ta σ H Q:=q
theorem r_B (q:ta σ H fun x H1=>∃k,x= .bl k/\B k H1):tB ta σ H B:=q
theorem r_test (q:ta σ H fun x H1=>∃k,x= .bl k/\B k H1):tTest ta σ H B:=q
theorem r_bl {b:Bool}{P:Bool->Prop}(q:P b):∃k,V.bl b=V.bl k/\P k:=⟨b,rfl,q⟩
theorem r_and (q:c σ H fun k H1=>if k=true then d σ H1 B else B false H1):tAnd c d σ H B:=q
theorem r_or (q:c σ H fun k H1=>if k=true then B true H1 else d σ H1 B):tOr c d σ H B:=q
theorem r_not (q:c σ H fun k H1=>B (!k) H1):tNot c σ H B:=q
theorem r_andV (q:ta σ H fun x H1=>∃k,x= .bl k/\if k=true then tb σ H1 Q else Q (.bl false) H1):tAndV ta tb σ H Q:=q
theorem r_orV (q:ta σ H fun x H1=>∃k,x= .bl k/\if k=true then Q (.bl true) H1 else tb σ H1 Q):tOrV ta tb σ H Q:=q
theorem r_notV (q:ta σ H fun x H1=>∃k,x= .bl k/\Q (.bl (!k)) H1):tNotV ta σ H Q:=q
theorem r_if (q:c σ H fun k H1=>if k=true then ta σ H1 Q else tb σ H1 Q):tIf c ta tb σ H Q:=q
theorem r_cons (q:ta σ H fun x H1=>t σ H1 fun xs H2=>L (x::xs) H2):qc0 ta t σ H L:=q
theorem r_nil (q:L [] H):tNil σ H L:=q
theorem r_tup (q:t σ H fun xs H1=>xs.length<=sizeLine/\∀p,H1 p=none->Q (.ref p) (upd H1 p (.tup xs))):tTup t σ H Q:=q
theorem r_lst (q:t σ H fun xs H1=>xs.length<=sizeLine/\∀p,H1 p=none->Q (.ref p) (upd H1 p (.lst xs))):tLst t σ H Q:=q
theorem r_al {n:Nat}{P:Prop}(h:Nat.ble n sizeLine=true)(q:P):n<=sizeLine/\P:=⟨Nat.le_of_ble_eq_true h,q⟩
theorem r_call {sp:Sp}{E:XK}(q:t σ H fun vs H1=>sp (vs++[]) H1 Q E):q87 sp [] E t σ H Q:=q
theorem r_cb {r:List V->Hp->VK->Prop}(q:t σ H fun vs H1=>r vs H1 Q):tCB r t σ H Q:=q
theorem r_bm {T:String}{r:V->List V->Hp->VK->Prop}(q:ta σ H fun x H1=>tyV K T x H1/\t σ H1 fun xs H2=>r x xs H2 Q):tBM K T r ta t σ H Q:=q
theorem r_sl {r:V->Option Int->Option Int->Hp->VK->Prop}{tl th:TO}(q:ta σ H fun x H1=>tl σ H1 fun l H2=>th σ H2 fun u H3=>r x l u H3 Q):tSl r ta tl th σ H Q:=q
theorem r_np {P:Option Int->Hp->Prop}(q:P none H):q84 σ H P:=q
theorem r_pt {P:Option Int->Hp->Prop}(q:ta σ H fun x H1=>∃i,x= .int i/\P (some i) H1):tPart ta σ H P:=q
theorem r_int {i:Int}{P:Int->Prop}(q:P i):∃k,V.int i=V.int k/\P k:=⟨i,rfl,q⟩
theorem r_eqI {i j:Int}(q:Q (.bl (decide (i=j))) H):rEq (.int i) (.int j) H Q:=⟨rfl,by rw[show decide (V.int i=V.int j)=decide (i=j) by simp];exact q⟩
theorem r_eqS {i j:Str}(q:Q (.bl (decide (i=j))) H):rEq (.str i) (.str j) H Q:=⟨rfl,by rw[show decide (V.str i=V.str j)=decide (i=j) by simp];exact q⟩
theorem r_neI {i j:Int}(q:Q (.bl (!decide (i=j))) H):rNe (.int i) (.int j) H Q:=⟨rfl,by rw[show decide (V.int i=V.int j)=decide (i=j) by simp];exact q⟩
theorem r_neS {i j:Str}(q:Q (.bl (!decide (i=j))) H):rNe (.str i) (.str j) H Q:=⟨rfl,by rw[show decide (V.str i=V.str j)=decide (i=j) by simp];exact q⟩
theorem q3l {p:Addr}{xs:List V}{i:Int}{v:V}(h:SqT K H p xs)(e:atI xs i=some v)(q:Q v H):rIxT K (.ref p) (.int i) H Q:=⟨p,xs,i,v,rfl,rfl,h,e,q⟩
theorem q6t {p:Addr}{xs:List V}{i:Int}{v:V}(h:SqL K H p xs)(e:atI xs i=some v)(q:Q v H):rIxL K (.ref p) (.int i) H Q:=⟨p,xs,i,v,rfl,rfl,h,e,q⟩
theorem r_lenT {p:Addr}{xs:List V}(h:SqT K H p xs)(q:Q (.int xs.length) H):rLen K [.ref p] H Q:=⟨p,xs,rfl,.inr h,q⟩
theorem r_lenL {p:Addr}{xs:List V}(h:SqL K H p xs)(q:Q (.int xs.length) H):rLen K [.ref p] H Q:=⟨p,xs,rfl,.inl h,q⟩
theorem atI0 {v:V}{l:List V}:atI (v::l) 0=some v:=q0n (j:=0) rfl
theorem qdg {xs:List V}{j:Nat}{v:V}(h:xs[j]? =some v):atI xs (0+(j:Int))=some v:=by rw[zaO];exact q0n h
theorem q83 {α β:Type}(f:α->β)(xs:List α){i:Nat}(hi:i<xs.length):(xs.take i).map f++[f xs[i]]=(xs.take (i+1)).map f:=by rw[zh hi,zR];rfl
theorem q7B {x:V}{n a:String}{b:Bool}(h:tyS H x=some a)(k:q8Y n=true)(e:subS a n=b)(q:Q (.bl b) H):q5R [x,.ty n] H Q:=⟨x,n,a,rfl,h,k,by rw[e];exact q⟩
theorem qac {i:Int}(q:Q (.bl false) H):q5R [.int i,.ty "bool"] H Q:=q7B rfl (by walk_at "k") (by walk_at "k") q
theorem qab {i:Int}(q:Q (.bl true) H):q5R [.int i,.ty "int"] H Q:=q7B rfl (by walk_at "k") (by walk_at "k") q
theorem qa8 {i:Str}(q:Q (.bl false) H):q5R [.str i,.ty "tuple"] H Q:=q7B rfl (by walk_at "k") (by walk_at "k") q
theorem qa9 (q:Q (.bl false) H):q5R [.non,.ty "list"] H Q:=q7B rfl (by walk_at "k") (by walk_at "k") q
theorem qa7 {p:Addr}{xs:List V}(h:H p=some (.tup xs))(q:Q (.bl true) H):q5R [.ref p,.ty "tuple"] H Q:=q7B (qbW h) (by walk_at "k") (by walk_at "k") q
theorem qaa {p:Addr}{xs:List V}(h:H p=some (.lst xs))(q:Q (.bl true) H):q5R [.ref p,.ty "list"] H Q:=q7B (qbX h) (by walk_at "k") (by walk_at "k") q
theorem r_asg (q:ta σ H fun x H1=>g x σ H1 nx):tAsg ta g ⟨nx,rt,bk,ct⟩ σ H:=q
theorem r_name {i:Nat}{v:V}{N:St->Hp->Prop}(q:N (σ.set i (some v)) H):qaZ i v σ H N:=q
theorem r_ifS {t u:TS}{D:Ends}(q:c σ H fun k H1=>if k=true then t D σ H1 else u D σ H1):tIfS c t u D σ H:=q
theorem r_ret (q:ta σ H rt):tRet ta ⟨nx,rt,bk,ct⟩ σ H:=q
theorem r_next (q:nx σ H):tNext ⟨nx,rt,bk,ct⟩ σ H:=q
theorem r_drop (q:ta σ H fun _ H1=>nx σ H1):tDrop ta ⟨nx,rt,bk,ct⟩ σ H:=q
theorem r_augS {to ti te:TE}{tget:V->V->Hp->VK->Prop}{tip:TIp}{tset:TSet}(q:to σ H fun o H1=>ti σ H1 fun i H2=>tget o i H2 fun x H3=>te σ H3 fun y H4=>tip x y H4 fun z H5=>tset o i z H5 fun H6=>nx σ H6):tAugS to ti te tget tip tset ⟨nx,rt,bk,ct⟩ σ H:=q
theorem r_ipI {f:Int->Int->Int}{i j:Int}(q:Q (.int (f i j)) H):ipI f (.int i) (.int j) H Q:=⟨i,j,rfl,rfl,q⟩
theorem qbp {p:Addr}{xs:List V}{k:Int}{j:Nat}{v:V}{R:Hp->Prop}(h:H p=some (.lst xs))(e:ixN xs.length k=some j)(q:R (upd H p (.lst (xs.set j v)))):rSetL (.ref p) (.int k) v H R:=⟨p,xs,k,j,rfl,rfl,h,e,q⟩
theorem r_gT {n:Nat}{gs:TGs}{p:Addr}{xs:List V}{N:St->Hp->Prop}(h:SqT K H p xs)(e:xs.length=n)(q:gs xs σ H N):gTup K n gs (.ref p) σ H N:=⟨p,xs,rfl,h,e,q⟩
theorem r_gc {gs:TGs}{v:V}{vs:List V}{N:St->Hp->Prop}(q:g v σ H fun σ' H'=>gs vs σ' H' N):gCons g gs (v::vs) σ H N:=⟨v,vs,rfl,q⟩
theorem r_gn {N:St->Hp->Prop}(q:N σ H):gNil [] σ H N:=⟨rfl,q⟩
theorem q34 {p:Addr}{xs:List V}{y:V}(h:H p=some (.lst xs))(hz:xs.length<sizeLine)(q:Q .non (upd H p (.lst (xs++[y])))):q8t (.ref p) [y] H Q:=⟨p,xs,y,rfl,rfl,h,hz,q⟩
theorem r_tyL {p:Addr}{xs:List V}{P:Prop}(h:H p=some (.lst xs))(q:P):tyV K "list" (.ref p) H/\P:=⟨.inl ⟨rfl,_,SqL.of h⟩,q⟩
theorem ifd {p:Prop}[Decidable p]{A B:Prop}(h1:p->A)(h2:¬p->B):if decide p=true then A else B:=by
 by_cases h:p
 ·rw [zi (zu h)];exact h1 h
 ·rw [zd (by simp[h])];exact h2 h
theorem ifn {p:Prop}[Decidable p]{A B:Prop}(h1:¬p->A)(h2:p->B):if (!decide p)=true then A else B:=by
 by_cases h:p
 ·rw [zd (by simp[h])];exact h2 h
 ·rw [zi (by simp[h])];exact h1 h
theorem r_max2 {x y:Int}(q:Q (.int (if y>x then y else x)) H):rMax2 [.int x,.int y] H Q:=⟨x,y,rfl,q⟩
theorem r_min2 {x y:Int}(q:Q (.int (if y<x then y else x)) H):rMin2 [.int x,.int y] H Q:=⟨x,y,rfl,q⟩
theorem r_intb {x:Bool}(q:Q (.int (if x then 1 else 0)) H):rInt1 [.bl x] H Q:= .inr ⟨x,rfl,q⟩
theorem q7A {p:Addr}{ys:List V}(h:SqL K H p ys)(q:∀l,H l=none->Q (.ref l) (upd H l (.tup ys))):qbq K [.ref p] H Q:=⟨p,ys,rfl,.inl ⟨h,q⟩⟩
theorem ifnT {A B:Prop}(h:B):if (!true)=true then A else B:=iteF h
theorem ifnF {A B:Prop}(h:A):if (!false)=true then A else B:=iteT h
theorem q1f {a b:Addr}{o u:HO}(h:H b=some u)(n:H a=none):upd H a o b=some u:=by rw[qj (qu h n)];exact h
theorem up_oth {a b:Addr}{o u:HO}(h:H b=some u)(n:b≠a):upd H a o b=some u:=by rw[qj n];exact h
end
section
variable {σ:St}{H:Hp}{g:TG}{tb:TS}{nx bk ct:St->Hp->Prop}{rt:VK}{t:TA}{wi:TI}
theorem r_for (q:wi σ H fun J H1=>∃W:Nat->Nat->St->Hp->Prop,(∃m,W 0 m σ H1)/\∀i m σ H,W i m σ H->
  (J.stop i H/\nx σ H)\/(J.go i H/\∃N:St->Hp->Prop,(∀σ' H',N σ' H'->∃m',m'<m/\W (i+1) m' σ' H')/\∀x H',J.yld i H x H'->g x σ H' fun σ2 H2=>tb ⟨N,rt,nx,N⟩ σ2 H2)):tFor wi g tb ⟨nx,rt,bk,ct⟩ σ H:=q
def rRg (R:It->Hp->Prop):List V->Hp->Prop:=fun vs H1=>∃j:Int,vs=[.int j]/\ -(2 ^ 62)<=j/\j<2 ^ 62/\R (Itr 0 j.toNat) H1
def rRg2 (R:It->Hp->Prop):List V->Hp->Prop:=fun vs H1=>∃i j:Int,vs=[.int i,.int j]/\(-(2 ^ 62)<=i/\i<2 ^ 62/\ -(2 ^ 62)<=j/\j<2 ^ 62)/\R (Itr i (j - i).toNat) H1
theorem r_rng1 {R:It->Hp->Prop}(q:t σ H (rRg R)):iRng1 t σ H R:=q
theorem r_rng2 {R:It->Hp->Prop}(q:t σ H (rRg2 R)):iRng2 t σ H R:=q
theorem r_comp {tc:TT}{te:TE}{own:Nat}{caps:List Nat}{Q:VK}(q:wi σ H fun J H1=>∀D,H1 D=none->∃W:Nat->Nat->St->Hp->Prop,(∃m,W 0 m (q2X own caps σ) (upd H1 D (.lst [])))/\∀i m σ' H',W i m σ' H'->
  (J.stop i H'/\Q (.ref D) H')\/(J.go i H'/\∃N:St->Hp->Prop,(∀σ'' H'',N σ'' H''->∃m',m'<m/\W (i+1) m' σ'' H'')/\∀x H2,J.yld i H' x H2->g x σ' H2 fun σ3 H3=>tc σ3 H3 fun b H4=>
   if b=true then te σ3 H4 fun y H5=>∃ys,H5 D=some (.lst ys)/\ys.length<sizeLine/\N σ3 (upd H5 D (.lst (ys++[y]))) else N σ3 H4)):q7t wi g tc te own caps σ H Q:=q
theorem r_yes {B:Bool->Hp->Prop}(q:B true H):tYes σ H B:=q
theorem r_iL {K:W.Frag}{tl:TE}{R:It->Hp->Prop}(q:tl σ H fun x H1=>∃a,x= .ref a/\(∃xs,SqL K H1 a xs)/\R (Itl K a) H1):qcV K tl σ H R:=q
theorem r_iT {K:W.Frag}{tl:TE}{R:It->Hp->Prop}(q:tl σ H fun x H1=>∃a,x= .ref a/\(∃xs,SqT K H1 a xs)/\R (Itt K a) H1):iTup K tl σ H R:=q
theorem r_eL {K:W.Frag}{R:It->Hp->Prop}(q:t σ H fun vs H1=>∃a,vs=[.ref a]/\(∃xs,SqL K H1 a xs)/\R (Ite fun H xs=>SqL K H a xs) H1):q9b K t σ H R:=q
theorem r_eT {K:W.Frag}{R:It->Hp->Prop}(q:t σ H fun vs H1=>∃a,vs=[.ref a]/\(∃xs,SqT K H1 a xs)/\R (Ite fun H xs=>SqT K H a xs) H1):q9a K t σ H R:=q
theorem r_refL {K:W.Frag}{p:Addr}{xs:List V}{R:Addr->Prop}(h:SqL K H p xs)(q:R p):∃a,V.ref p= .ref a/\(∃xs,SqL K H a xs)/\R a:=⟨p,rfl,⟨xs,h⟩,q⟩
theorem r_refT {K:W.Frag}{p:Addr}{xs:List V}{R:Addr->Prop}(h:SqT K H p xs)(q:R p):∃a,V.ref p= .ref a/\(∃xs,SqT K H a xs)/\R a:=⟨p,rfl,⟨xs,h⟩,q⟩
theorem qcf {K:W.Frag}{p:Addr}{xs:List V}{R:Addr->Prop}(h:SqL K H p xs)(q:R p):∃a,[V.ref p]=[.ref a]/\(∃xs,SqL K H a xs)/\R a:=⟨p,rfl,⟨xs,h⟩,q⟩
theorem qce {K:W.Frag}{p:Addr}{xs:List V}{R:Addr->Prop}(h:SqT K H p xs)(q:R p):∃a,[V.ref p]=[.ref a]/\(∃xs,SqT K H a xs)/\R a:=⟨p,rfl,⟨xs,h⟩,q⟩
theorem r_rg {j:Int}{R:It->Hp->Prop}(h: -1000000<=j/\j<=1000000)(q:R (Itr 0 j.toNat) H):rRg R [.int j] H:=⟨j,rfl,by omega,by omega,q⟩
theorem r_rg2 {i j:Int}{R:It->Hp->Prop}(h:(-1000000<=i/\i<=1000000)/\ -1000000<=j/\j<=1000000)(q:R (Itr i (j - i).toNat) H):rRg2 R [.int i,.int j] H:=⟨i,j,rfl,by omega,q⟩
end
section
variable {J:It}{g:TG}{tb:TS}{nx:St->Hp->Prop}{rt:VK}{σ:St}{H:Hp}{K:W.Frag}{a:Addr}{xs:List V}{tc:TT}{te:TE}{R:Hp->Prop}{D:Addr}
abbrev ForG (J:It)(g:TG)(tb:TS)(nx:St->Hp->Prop)(rt:VK)(σ:St)(H:Hp):Prop:=∃W:Nat->Nat->St->Hp->Prop,(∃m,W 0 m σ H)/\∀i m σ H,W i m σ H->
  (J.stop i H/\nx σ H)\/(J.go i H/\∃N:St->Hp->Prop,(∀σ' H',N σ' H'->∃m',m'<m/\W (i+1) m' σ' H')/\∀x H',J.yld i H x H'->g x σ H' fun σ2 H2=>tb ⟨N,rt,nx,N⟩ σ2 H2)
theorem q43 (n:Nat)(Pv:Nat->St->Hp->Prop)(h0:Pv 0 σ H)
  (go:∀i σ H,i<n->Pv i σ H->J.go i H/\∀x H',J.yld i H x H'->g x σ H' fun σ2 H2=>tb ⟨Pv (i+1),rt,nx,Pv (i+1)⟩ σ2 H2)(stop:∀σ H,Pv n σ H->J.stop n H/\nx σ H):ForG J g tb nx rt σ H:=by
 refine⟨fun i m σ H=>m=n - i/\i<=n/\Pv i σ H,⟨n,by simp,zak _,h0⟩,?_⟩
 rintro i m σ H ⟨rfl,hi,p⟩
 by_cases hlt:i<n
 ·obtain ⟨q1,q2⟩:=go i σ H hlt p
  exact .inr ⟨q1,Pv (i+1),fun σ' H' p'=>⟨n - (i+1),by omega,rfl,hlt,p'⟩,q2⟩
 ·have e:i=n:=by omega
  subst e
  exact .inl (stop σ H p)
theorem q42 {lo:Int}{n:Nat}(Pv:Nat->St->Hp->Prop)(h0:Pv 0 σ H)(go:∀i σ H,i<n->Pv i σ H->g (.int (lo+(i:Nat))) σ H fun σ2 H2=>tb ⟨Pv (i+1),rt,nx,Pv (i+1)⟩ σ2 H2)(stop:∀σ H,Pv n σ H->nx σ H):ForG (Itr lo n) g tb nx rt σ H:=
 q43 n Pv h0 (fun i σ H hi p=>⟨hi,fun x H' ⟨e1,e2⟩=>by subst e1 e2;exact go i σ _ hi p⟩) fun σ H p=>⟨ze _,stop σ H p⟩
theorem q4Y (xs:List V)(Pv:Nat->St->Hp->Prop)(h0:Pv 0 σ H)(hl:∀i σ H,Pv i σ H->SqL K H a xs)(go:∀i x σ H,xs[i]? =some x->Pv i σ H->g x σ H fun σ2 H2=>tb ⟨Pv (i+1),rt,nx,Pv (i+1)⟩ σ2 H2)(stop:∀σ H,Pv xs.length σ H->nx σ H):ForG (Itl K a) g tb nx rt σ H:=
 q43 xs.length Pv h0 (fun i σ H hi p=>⟨⟨xs,xs[i],hl i σ H p,by simp[hi]⟩,fun x H' ⟨e1,e2⟩=>by subst e1;exact go i x σ _ (e2 xs (hl i σ _ p)) p⟩) fun σ H p=>⟨⟨xs,hl _ σ H p,ze _⟩,stop σ H p⟩
theorem q9i {Sq:Hp->List V->Prop}(xs:List V)(Pv:Nat->St->Hp->Prop)(h0:Pv 0 σ H)(hl:∀i σ H,Pv i σ H->Sq H xs)(go:∀i x σ H T,xs[i]? =some x->Pv i σ H->H T=none->g (.ref T) σ (upd H T (.tup [.int (i:Nat),x])) fun σ2 H2=>tb ⟨Pv (i+1),rt,nx,Pv (i+1)⟩ σ2 H2)
  (stop:∀σ H,Pv xs.length σ H->nx σ H):ForG (Ite Sq) g tb nx rt σ H:=
 q43 xs.length Pv h0 (fun i σ H hi p=>⟨⟨xs,xs[i],hl i σ H p,by simp[hi]⟩,fun x H' ⟨T,hT,e1,e2⟩=>by
  have hx:xs[i]? =some xs[i]:=by simp[hi]
  have e3:=e2 xs xs[i] (hl i σ _ p) hx
  subst e1 e3
  exact go i _ σ _ T hx p hT⟩) fun σ H p=>⟨⟨xs,hl _ σ H p,ze _⟩,stop σ H p⟩
abbrev qbc (J:It)(g:TG)(tc:TT)(te:TE)(R:Hp->Prop)(D:Addr)(σ:St)(H:Hp):Prop:=∃W:Nat->Nat->St->Hp->Prop,(∃m,W 0 m σ H)/\∀i m σ H,W i m σ H->
   (J.stop i H/\R H)\/(J.go i H/\∃N:St->Hp->Prop,(∀σ' H',N σ' H'->∃m',m'<m/\W (i+1) m' σ' H')/\∀x H',J.yld i H x H'->g x σ H' fun σ3 H3=>tc σ3 H3 fun b H4=>
    if b=true then te σ3 H4 fun y H5=>∃ys,H5 D=some (.lst ys)/\ys.length<sizeLine/\N σ3 (upd H5 D (.lst (ys++[y]))) else N σ3 H4)
theorem q2W {lo:Int}{n:Nat}(Pv:Nat->St->Hp->Prop)(h0:Pv 0 σ H)(go:∀i σ H,i<n->Pv i σ H->g (.int (lo+(i:Nat))) σ H fun σ3 H3=>tc σ3 H3 fun b H4=>
   if b=true then te σ3 H4 fun y H5=>∃ys,H5 D=some (.lst ys)/\ys.length<sizeLine/\Pv (i+1) σ3 (upd H5 D (.lst (ys++[y]))) else Pv (i+1) σ3 H4)(stop:∀σ H,Pv n σ H->R H):qbc (Itr lo n) g tc te R D σ H:=
 q54 n Pv h0 (fun i σ H hi p=>⟨hi,fun x H' ⟨e1,e2⟩=>by subst e1 e2;exact go i σ _ hi p⟩) fun σ H p=>⟨ze _,stop σ H p⟩
theorem q0L (xs:List V)(Pv:Nat->St->Hp->Prop)(h0:Pv 0 σ H)(hl:∀i σ H,Pv i σ H->SqL K H a xs)(go:∀i x σ H,xs[i]? =some x->Pv i σ H->g x σ H fun σ3 H3=>tc σ3 H3 fun b H4=>
   if b=true then te σ3 H4 fun y H5=>∃ys,H5 D=some (.lst ys)/\ys.length<sizeLine/\Pv (i+1) σ3 (upd H5 D (.lst (ys++[y]))) else Pv (i+1) σ3 H4)(stop:∀σ H,Pv xs.length σ H->R H):qbc (Itl K a) g tc te R D σ H:=
 q54 xs.length Pv h0 (fun i σ H hi p=>⟨⟨xs,xs[i],hl i σ H p,by simp[hi]⟩,fun x H' ⟨e1,e2⟩=>by subst e1;exact go i x σ _ (e2 xs (hl i σ _ p)) p⟩) fun σ H p=>⟨⟨xs,hl _ σ H p,ze _⟩,stop σ H p⟩
theorem qb8 (xs:List V)(Pv:Nat->St->Hp->Prop)(h0:Pv 0 σ H)(hl:∀i σ H,Pv i σ H->SqT K H a xs)(go:∀i x σ H,xs[i]? =some x->Pv i σ H->g x σ H fun σ3 H3=>tc σ3 H3 fun b H4=>
   if b=true then te σ3 H4 fun y H5=>∃ys,H5 D=some (.lst ys)/\ys.length<sizeLine/\Pv (i+1) σ3 (upd H5 D (.lst (ys++[y]))) else Pv (i+1) σ3 H4)(stop:∀σ H,Pv xs.length σ H->R H):qbc (Itt K a) g tc te R D σ H:=
 q54 xs.length Pv h0 (fun i σ H hi p=>⟨⟨xs,xs[i],hl i σ H p,by simp[hi]⟩,fun x H' ⟨e1,e2⟩=>by subst e1;exact go i x σ _ (e2 xs (hl i σ _ p)) p⟩) fun σ H p=>⟨⟨xs,hl _ σ H p,ze _⟩,stop σ H p⟩
end
section
variable {X:Cx}{pos:Pos}{tg:Expr}{es:List Expr}{e o l:Expr}{ta te tl:TE}{t:TA}{K:W.Frag}
theorem q60 (K:W.Frag)(h:X.K=K:=by rfl):PGet X (rIxL K):=by subst h;exact qaY
theorem q09 (K:W.Frag)(hl:PE X l tl)(h:X.K=K:=by rfl):PI X tg l (qcV K tl):=by subst h;exact qco hl
theorem qcn (K:W.Frag)(hl:PE X l tl)(h:X.K=K:=by rfl):PI X tg l (iTup K tl):=by subst h;exact pi_tup hl
theorem q8C {elts:List Expr}{k:Nat}{tp:Pos}{a:Expr}{p pos:Pos}(K:W.Frag)(hg:Gl X "enumerate")(hm:X.mg "enumerate"=none)(ha:PA X [a] t)(h:X.K=K:=by rfl)(hs:starEach [a] X.env=[(false,eval a X.env)]:=by rfl):PI X (.Tuple elts k tp) (.Call (.Name "enumerate" p) [a] [] pos) (q9b K t):=by subst h;exact qai hg hm ha hs
theorem q8B {elts:List Expr}{k:Nat}{tp:Pos}{a:Expr}{p pos:Pos}(K:W.Frag)(hg:Gl X "enumerate")(hm:X.mg "enumerate"=none)(ha:PA X [a] t)(h:X.K=K:=by rfl)(hs:starEach [a] X.env=[(false,eval a X.env)]:=by rfl):PI X (.Tuple elts k tp) (.Call (.Name "enumerate" p) [a] [] pos) (q9a K t):=by subst h;exact qah hg hm ha hs
theorem qct (K:W.Frag)(hu:X.A.units<cLine)(h:X.K=K:=by rfl):OpR X (compareOp .NotEq) (rNeLs K):=by subst h;exact op_neL hu
theorem qF:1000000<sizeLine:=by decide
end
def q0p (H H':Hp):Prop:=∀p xs,H p=some (.tup xs)->H' p=some (.tup xs)
theorem q0p.trans {H H1 H2:Hp}(a:q0p H H1)(b:q0p H1 H2):q0p H H2:=fun p xs h=>b p xs (a p xs h)
theorem Same.ts {H H':Hp}(s:Same H H'):q0p H H':=fun p _ h=>s p _ h
theorem q0p.lst {H:Hp}{a:Addr}{ys:List V}{o:HO}(h:H a=some (.lst ys)):q0p H (upd H a o):=fun p xs e=>by rw[qj (q2R e h (by intro z;cases z))];exact e
end L2
namespace Ce
open PySem L2
def bit (x:Int)(t:Nat):Bool:=decide (x / 2 ^ t % 2=1)
def cnt (P:Nat->Bool):Nat->Nat
 |0=>0
 |n+1=>cnt P n+(if P n=true then 1 else 0)
theorem q9E {P:Nat->Bool}:∀{n:Nat},(∀i,i<n->P i=false)->cnt P n=0
 |0,_=>rfl
 |n+1,h=>by
  show cnt P n+_=0
  rw[q9E fun i hi=>h i (zbE hi),h n (zb2 n)]
  rfl
theorem q3u (w:Nat):(0:Int)<2 ^ w:=Int.pow_pos (by decide)
theorem q58 (t:Nat):bit 0 t=false:=by simp[bit]
theorem set_map {α:Type}(f:Nat->α)(n j:Nat)(v:α):((List.range n).map f).set j v=(List.range n).map fun k=>if k=j then v else f k:=by
 apply zbg
 intro i
 rw[zcE]
 simp only[List.getElem?_map,yC,List.length_range]
 by_cases h:j=i
 ·subst h
  by_cases hj:j<n
  ·simp [hj]
  ·simp [hj]
 ·have h':¬i=j:=fun e=>h e.symm
  by_cases hi:i<n
  ·simp [h,h',hi]
  ·simp [h,hi]
def dP (ds:Nat->Option Int)(op k:Int)(w:Nat):Bool:=decide (ds w=some k)&&bit op w
theorem qdc (ds:Nat->Option Int)(k:Int)(w:Nat):dP ds 0 k w=false:=by simp[dP,q58]
theorem q04 (x:Int){n:Int}(h:0<n):0<=x % n:=Int.emod_nonneg _ (by omega)
theorem q0a (x:Int){n:Int}(h:0<n):x % n<n:=Int.emod_lt_of_pos _ h
theorem q2m (x:Int)(t:Nat):decide (Builtin.bitAnd (x / 2 ^ t) 1=1)=bit x t:=by
 unfold bit
 rw[PyProof.Rows.bitAnd_m1]
inductive Gt where
 |plain|door (k:Int)|need (k:Int)|bar (b:Int)|wade (h k:Int)|float (h:Int)
def Gt.vs:Gt->List V
 | .plain=>[.str "plain"]
 | .door k=>[.str "door",.int k]
 | .need k=>[.str "need",.int k]
 | .bar b=>[.str "bar",.int b]
 | .wade h k=>[.str "wade",.int h,.int k]
 | .float h=>[.str "float",.int h]
def Gt.ok:Gt->Prop
 | .plain=>True
 | .door k=>0<=k/\k<12
 | .need k=>0<=k/\k<12
 | .bar b=>0<=b/\b<8
 | .wade h k=>(0<=h/\h<10)/\0<=k/\k<12
 | .float h=>0<=h/\h<10
def Gt.dk:Gt->Option Int
 | .door k=>some k
 |_=>none
def Gt.word:Gt->Str
 | .plain=>"plain"
 | .door _=>"door"
 | .need _=>"need"
 | .bar _=>"bar"
 | .wade _ _=>"wade"
 | .float _=>"float"
def Gt.ns:Gt->List Int
 | .plain=>[]
 | .door k=>[k]
 | .need k=>[k]
 | .bar b=>[b]
 | .wade h k=>[h,k]
 | .float h=>[h]
theorem Gt.vs_eq (g:Gt):g.vs= .str g.word::g.ns.map V.int:=by cases g<;>rfl
theorem Gt.flat (g:Gt):g.vs.all q2D=true:=by cases g<;>rfl
theorem q6N:("need":Str)≠"door":=by walk_at "k"
theorem q89:("bar":Str)≠"door":=by walk_at "k"
theorem q5r:("float":Str)≠"door":=by walk_at "k"
theorem q88:("plain":Str)≠"door":=by walk_at "k"
theorem q9Y:("wade":Str)≠"door":=by walk_at "k"
theorem q5c (g:Gt):decide (g.word="door")=g.dk.isSome:=by
 cases g with
 |plain=>exact zn q88
 |door k=>exact zu rfl
 |need k=>exact zn q6N
 |bar k=>exact zn q89
 |wade h k=>exact zn q9Y
 |float k=>exact zn q5r
theorem q9s {g:Gt}(h:g.word="door"):∃k,g= .door k:=by
 have:=q5c g
 rw[h] at this
 cases g with
 |door k=>exact⟨k,rfl⟩
 |_=>simp[Gt.dk] at this
theorem q9o {a b:Str}(h:a≠b):eqV (.str a) (.str b)=false:=by
 simp[eqV,h]
theorem qd3 (g:Gt)(k:Int):eqVs g.vs [.str "door",.int k]=decide (g.dk=some k):=by
 cases g with
 |plain=>simp[eqVs,Gt.vs,Gt.dk]
 |door j=>
  simp[eqVs,Gt.vs,Gt.dk,eqV]
  rw[Bool.beq_eq_decide_eq]
 |need j=>simp[eqVs,Gt.vs,Gt.dk,q9o q6N]
 |bar j=>simp[eqVs,Gt.vs,Gt.dk,q9o q89]
 |wade h j=>simp[eqVs,Gt.vs,Gt.dk]
 |float j=>simp[eqVs,Gt.vs,Gt.dk,q9o q5r]
structure Way where
 a:Int
 b:Int
 g:Gt
 back:Bool
structure Cl where
 rooms:Int
 fst:Int
 lst:Int
 ways:List Way
 things:List (Int×Int)
 levers:List (Int×Int)
 wheels:List (Int×Int)
 bars:Int
 water:Int
structure ClOk (C:Cl):Prop where
 r1:1<=C.rooms
 r2:C.rooms<=14
 f:0<=C.fst/\C.fst<C.rooms
 l:0<=C.lst/\C.lst<C.rooms
 wl:C.ways.length<=20
 tl:C.things.length<=8
 ll:C.levers.length<=4
 vl:C.wheels.length<=4
 w:∀x∈C.ways,(0<=x.a/\x.a<C.rooms)/\(0<=x.b/\x.b<C.rooms)/\x.a≠x.b/\x.g.ok
 t:∀x∈C.things,(0<=x.1/\x.1<C.rooms)/\0<=x.2/\x.2<12
 lv:∀x∈C.levers,(0<=x.1/\x.1<C.rooms)/\1<=x.2/\x.2<=255
 wh:∀x∈C.wheels,(0<=x.1/\x.1<C.rooms)/\0<=x.2/\x.2<=9
 b:0<=C.bars/\C.bars<=255
 wa:0<=C.water/\C.water<=9
def qP (H:Hp)(p:Addr)(x:Int×Int):Prop:=H p=some (.tup [.int x.1,.int x.2])
def q12 (H:Hp)(p:Addr)(x:Way):Prop:=∃g,H p=some (.tup [.int x.a,.int x.b,.ref g,.bl x.back])/\H g=some (.tup x.g.vs)
def Rows {α:Type}(At:Hp->Addr->α->Prop)(H:Hp)(ps:List Addr)(xs:List α):Prop:=ps.length=xs.length/\∀(i:Nat) (p:Addr) (x:α),ps[i]? =some p->xs[i]? =some x->At H p x
def q5a {α:Type}(At:Hp->Addr->α->Prop)(H:Hp)(q:Addr)(xs:List α):Prop:=∃ps,H q=some (.tup (ps.map V.ref))/\Rows At H ps xs
def qG {α:Type}(At:Hp->Addr->α->Prop)(H:Hp)(q:Addr)(xs:List α):Prop:=∃ps,H q=some (.lst (ps.map V.ref))/\Rows At H ps xs
section
variable {α:Type}{At:Hp->Addr->α->Prop}{H H':Hp}{ps:List Addr}{xs:List α}{p q:Addr}{x:α}
theorem qP.mono (s:q0p H H'){p:Addr}{x:Int×Int}(h:qP H p x):qP H' p x:=s _ _ h
theorem q12.mono (s:q0p H H'){p:Addr}{x:Way}(h:q12 H p x):q12 H' p x:=let ⟨g,h1,h2⟩:=h;⟨g,s _ _ h1,s _ _ h2⟩
theorem Rows.mono (m:∀p x,At H p x->At H' p x)(h:Rows At H ps xs):Rows At H' ps xs:=⟨h.1,fun i p x h1 h2=>m p x (h.2 i p x h1 h2)⟩
theorem Rows.nil:Rows At H [] []:=⟨rfl,fun i p x h _=>by simp at h⟩
theorem Rows.snoc (h:Rows At H ps xs)(hx:At H p x):Rows At H (ps++[p]) (xs++[x]):=by
 refine⟨by simp[h.1],fun i q y h1 h2=>?_⟩
 by_cases hi:i<ps.length
 ·rw [zA hi] at h1
  rw[zA (by rw[<-h.1];exact hi)] at h2
  exact h.2 i q y h1 h2
 ·have e:i=ps.length:=by
   have:=(yA h1).1
   simp at this
   omega
  subst e
  rw[zS (ze _)] at h1
  rw[zS (by rw[h.1];exact ze _),<-h.1] at h2
  simp at h1 h2
  rw[<-h1,<-h2]
  exact hx
theorem Rows.get (h:Rows At H ps xs){i:Nat}(hi:i<xs.length):∃p,(ps.map V.ref)[i]? =some (.ref p)/\At H p xs[i]:=by
 have hp:i<ps.length:=by rw[h.1];exact hi
 exact⟨ps[i],by simp[hp],h.2 i _ _ (by simp[hp]) (by simp[hi])⟩
theorem q5a.mono (s:q0p H H')(m:∀p x,At H p x->At H' p x)(h:q5a At H q xs):q5a At H' q xs:=let ⟨ps,h1,h2⟩:=h;⟨ps,s _ _ h1,h2.mono m⟩
theorem q5a.get (h:q5a At H q xs):∃vs,H q=some (.tup vs)/\vs.length=xs.length/\∀i (hi:i<xs.length),∃p,vs[i]? =some (.ref p)/\At H p xs[i]:=by
 obtain⟨ps,h1,h2⟩:=h
 exact⟨_,h1,by simp[h2.1],fun i hi=>h2.get hi⟩
end
structure ClAt (H:Hp)(c:Addr)(C:Cl):Prop where
 ex:∃w t l v,H c=some (.tup [.int C.rooms,.int C.fst,.int C.lst,.ref w,.ref t,.ref l,.ref v,.int C.bars,.int C.water])/\q5a q12 H w C.ways/\q5a qP H t C.things/\q5a qP H l C.levers/\q5a qP H v C.wheels
theorem ClAt.mono {H H':Hp}(s:q0p H H'){c:Addr}{C:Cl}(h:ClAt H c C):ClAt H' c C:=by
 obtain⟨w,t,l,v,h0,h1,h2,h3,h4⟩:=h.ex
 exact⟨w,t,l,v,s _ _ h0,h1.mono s (fun _ _=>q12.mono s),h2.mono s (fun _ _=>qP.mono s),h3.mono s (fun _ _=>qP.mono s),h4.mono s (fun _ _=>qP.mono s)⟩
def WOk (r:Int)(x:Way):Prop:=(0<=x.a/\x.a<r)/\(0<=x.b/\x.b<r)/\x.a≠x.b/\x.g.ok
def POk (r lo hi:Int)(x:Int×Int):Prop:=(0<=x.1/\x.1<r)/\lo<=x.2/\x.2<=hi
def tP (C:Cl)(tk k:Int)(t:Nat):Bool:=decide ((C.things.getD t (0,0)).2=k)&&bit tk t
def dsOf (C:Cl)(w:Nat):Option Int:=(C.ways[w]?).bind fun x=>x.g.dk
def hold (C:Cl)(tk op k:Int):Int:=(cnt (tP C tk k) C.things.length:Int) - (cnt (dP (dsOf C) op k) C.ways.length:Int)
def cl (f:Int->Int):List V:=(List.range 12).map fun k:Nat=>V.int (f k)
theorem q9c (C:Cl)(k:Int):hold C 0 0 k=0:=by
 unfold hold
 rw[q9E fun i _=>by simp[tP,q58],q9E fun i _=>qdc _ _ _]
 rfl
theorem cl_len (f:Int->Int):(cl f).length=12:=by simp[cl]
theorem q9J {f:Int->Int}{k:Int}(h0:0<=k)(h1:k<12):atI (cl f) k=some (.int (f k)):=by
 obtain⟨j,rfl⟩:∃j:Nat,k=(j:Int):=⟨k.toNat,by omega⟩
 exact q0n (by simp[cl,show j<12 by omega])
theorem cl_ix {f:Int->Int}{k:Int}(h0:0<=k)(h1:k<12):ixN (cl f).length k=some k.toNat:=by
 rw[cl_len]
 unfold ixN
 rw[zi h0,zi (by omega)]
theorem qbK {f:Int->Int}{k v:Int}(h0:0<=k)(h1:k<12):(cl f).set k.toNat (.int v)=cl fun j=>if j=k then v else f j:=by
 unfold cl
 rw[set_map]
 refine zab fun j _=>?_
 by_cases e:(j:Int)=k
 ·rw [zi (by omega)]
  show _=V.int (if (j:Int)=k then v else f j)
  rw[zi e]
 ·rw [zd (by omega)]
  show _=V.int (if (j:Int)=k then v else f j)
  rw[zd e]
theorem q2Y {f g:Int->Int}(h:∀k,0<=k->k<12->f k=g k):cl f=cl g:=by
 unfold cl
 refine zab fun j hj=>?_
 rw[zcU] at hj
 rw[h j (by omega) (by omega)]
structure StOk (C:Cl)(rm tk op b wt:Int):Prop where
 hrm:0<=rm/\rm<C.rooms
 htk:0<=tk/\tk<2 ^ C.things.length
 hop:0<=op/\op<2 ^ C.ways.length
 dr:∀i,i<C.ways.length->bit op i=true->(dsOf C i).isSome=true
 hb:0<=b/\b<=255
 hwt:0<=wt/\wt<=9
 held:∀k,0<=k->k<12->0<=hold C tk op k
end Ce
namespace L2
open PySem PySem.Spec PyProof.Rows
def rMinL (K:W.Frag):List V->Hp->VK->Prop:=fun xs H Q=>∃(p:Addr) (ns:List Int),xs=[.ref p]/\SqL K H p (ns.map V.int)/\0<ns.length/\∀M,M∈ns->(∀a,a∈ns->M<=a)->Q (.int M) H
section
variable {X:Cx}
theorem minLK (K:W.Frag)(hc:X.calm=true)(hK:X.K=K:=by rfl):q1j X (.builtin "min") (rMinL K):=by
 subst hK
 intro pins s σ H xs us Q I r h
 obtain⟨p,ns,rfl,hq,hne,q⟩:=h
 obtain⟨u,rfl,rx⟩:=q3j r
 cases rx
 obtain⟨its,rv,pl,hz⟩:=I.list hq
 have hi:=q2i rv
 have hl:=pl.isList
 obtain⟨ys,e⟩:=hi.allInts.items
 have hns:ns=ys.toList.map (·.1):=by rw[<-hi.numsOf,<-nums_intItems,<-e]
 have hsz:0<ys.size:=by
  have h3:=hne
  rw[hns,yC,zaa] at h3
  exact h3
 rw[e] at hl
 refine min_intList (I.ok.hd hc) hl hsz fun v h' tk hv hk=>?_
 obtain⟨t,rfl⟩:=intItems_at hv
 obtain⟨h1,h2⟩:=argBest_lt (numAt ys) (ys.size - 1)
 refine⟨.int _,H,I.kept (t':=tk) hk,⟨_,rfl⟩,q _ ?_ fun a ha=>?_⟩
 ·rw [hns,numAt_eq]
  exact getD_mem (by rw[yC,zaa];omega)
 ·rw [hns] at ha
  obtain⟨j,hj,rfl⟩:=mem_getD ha
  rw[yC,zaa] at hj
  rw[<-numAt_eq]
  exact h2 j (by omega)
end
section
variable {H:Hp}{Q:VK}{K:W.Frag}{σ:St}
theorem qci {r r':R2}{ta tb tc:TE}(q:ta σ H fun x H1=>tb σ H1 fun y H2=>r x y H2 fun z H3=>∃k,z= .bl k/\(if k=true then tc σ H3 fun w' H4=>r' y w' H4 Q else Q (.bl false) H3)):qbk r r' ta tb tc σ H Q:=q
end
structure LaidM (K:W.Frag)(C:Addr)(m qual:Str)(st:Stmt)(ps:List Str):Prop where
 ex:∃f fd,Fun K m qual st f fd/\Meth K C m f/\q1U K fd ps []
structure LaidI (K:W.Frag)(mg:Str->Option Value)(x:Str)(C:Addr)(qual:Str)(st:Stmt)(ps:List Str):Prop where
 ex:∃f fd,Fun K "__init__" qual st f fd/\Mk K C f/\q1U K fd ps []
 at_:mg x=some (.ref C)
structure LaidC (K:W.Frag)(mg:Str->Option Value)(x m qual:Str)(st:Stmt)(ps:List Str):Prop where
 ex:∃C f fd,mg x=some (.ref C)/\Fun K m qual st f fd/\CMeth K C m f/\q1U K fd ps []
section
variable {P:Program}{w:World}{K:W.Frag}{mg:Str->Option Value}{base:Heap}
theorem LaidM.vm {C:Addr}{m qual:Str}{st:Stmt}{N ps:List Str}{k:Nat}{sp:Sp}(L:LaidM K C m qual st ps)(cl:Cls K C)(S:FnScope N ps (qf st))(len:∀vs H Q E,sp vs H Q E->vs.length=ps.length)
  (hbody:∀(f:Addr) (cdv:Value) (A:Around) (outer:List Env) (s:Shared) (H:Hp) (vs:List V) (Q:VK) (E:XK),Room k (A.deeper (envOfC qual (qf st) s.heap.objs.size f cdv))->sp vs H Q E->
   ∃t,PSs (cxOf CX0 P w K mg base N qual (qf st) f cdv A outer s H E).nox (q0e st) t/\t {nx:=fun _ H'=>Q .non H',rt:=Q} (start N vs) H):VMeth P w K mg base (k+1) C m ps sp:=by
 obtain⟨f,fd,F,hm,b⟩:=L.ex
 exact⟨cl,f,fd,hm,F.ok S len (fun cdv A outer s H vs Q E hr h=>hbody f cdv A outer s H vs Q E hr h),b⟩
theorem LaidI.makes {x:Str}{C:Addr}{qual:Str}{st:Stmt}{N ps:List Str}{k:Nat}{sp:Sp}(L:LaidI K mg x C qual st ps)(S:FnScope N ps (qf st))(len:∀vs H Q E,sp vs H Q E->vs.length=ps.length)
  (hbody:∀(f:Addr) (cdv:Value) (A:Around) (outer:List Env) (s:Shared) (H:Hp) (vs:List V) (Q:VK) (E:XK),Room k (A.deeper (envOfC qual (qf st) s.heap.objs.size f cdv))->sp vs H Q E->
   ∃t,PSs (cxOf CX0 P w K mg base N qual (qf st) f cdv A outer s H E).nox (q0e st) t/\t {nx:=fun _ H'=>Q .non H',rt:=Q} (start N vs) H):Makes P w K mg base (k+1) x C ps sp:=by
 obtain⟨f,fd,F,M,b⟩:=L.ex
 exact⟨⟨f,fd,M,F.ok S len (fun cdv A outer s H vs Q E hr h=>hbody f cdv A outer s H vs Q E hr h),b⟩,L.at_⟩
theorem LaidC.cc {x m qual:Str}{st:Stmt}{N ps:List Str}{k:Nat}{sp:Sp}(L:LaidC K mg x m qual st ps)(S:FnScope N ps (qf st))(len:∀vs H Q E,sp vs H Q E->vs.length=ps.length)
  (hbody:∀(f:Addr) (cdv:Value) (A:Around) (outer:List Env) (s:Shared) (H:Hp) (vs:List V) (Q:VK) (E:XK),Room k (A.deeper (envOfC qual (qf st) s.heap.objs.size f cdv))->sp vs H Q E->
   ∃t,PSs (cxOf CX0 P w K mg base N qual (qf st) f cdv A outer s H E).nox (q0e st) t/\t {nx:=fun _ H'=>Q .non H',rt:=Q} (start N vs) H):CCal P w K mg base (k+1) x m ps sp:=by
 obtain⟨C,f,fd,hm,F,cm,b⟩:=L.ex
 exact⟨C,f,fd,hm,cm,F.ok S len (fun cdv A outer s H vs Q E hr h=>hbody f cdv A outer s H vs Q E hr h),b⟩
end
def rFld (K:W.Frag)(f:Str)(x:V)(H:Hp)(Q:VK):Prop:=∃a C dx fs v,x= .ref a/\H a=some (.ins C dx fs)/\Cls K C/\qE K C f/\fs.lookup f=some v/\Q v H
def rSetF (K:W.Frag)(f:Str)(x y:V)(H:Hp)(R:Hp->Prop):Prop:=∃a C dx fs,x= .ref a/\H a=some (.ins C dx fs)/\Cls K C/\qE K C f/\fs.length<1000/\R (upd H a (.ins C dx (putF f y fs)))
def rVM (P:Program)(w:World)(K:W.Frag)(mg:Str->Option Value)(base:Heap)(k:Nat)(m:Str)(σ:St)(t:TA)(x:V)(H:Hp)(Q:VK):Prop:=∃a C dx fs ps sp,x= .ref a/\H a=some (.ins C dx fs)/\VMeth P w K mg base k C m ps sp/\fs.lookup m=none/\t σ H fun vs H2=>sp (x::vs) H2 Q E0
section
variable {σ:St}{H:Hp}{Q:VK}{K:W.Frag}{ta tv:TE}{t:TA}{f m:Str}{nx bk ct:St->Hp->Prop}{rt:VK}{P:Program}{w:World}{mg:Str->Option Value}{base:Heap}{k:Nat}
theorem r_fld0 (q:ta σ H fun x H1=>rFld K f x H1 Q):tFld K ta f σ H Q:=q
theorem qcd (q:tv σ H fun y H1=>ta σ H1 fun x H2=>rSetF K f x y H2 fun H3=>nx σ H3):sFld K ta tv f ⟨nx,rt,bk,ct⟩ σ H:=q
theorem r_vm0 (q:ta σ H fun x H1=>rVM P w K mg base k m σ t x H1 Q):tVM P w K mg base k m ta t σ H Q:=q
theorem q1m {a C dx:Addr}{fs:List (Str×V)}{v:V}(h:H a=some (.ins C dx fs))(c:Cls K C)(n:qE K C f)(l:fs.lookup f=some v)(q:Q v H):rFld K f (.ref a) H Q:=⟨a,C,dx,fs,v,rfl,h,c,n,l,q⟩
theorem q2p {a C dx:Addr}{fs:List (Str×V)}{y:V}{R:Hp->Prop}(h:H a=some (.ins C dx fs))(c:Cls K C)(n:qE K C f)(l:fs.length<1000)(q:R (upd H a (.ins C dx (putF f y fs)))):rSetF K f (.ref a) y H R:=⟨a,C,dx,fs,rfl,h,c,n,l,q⟩
theorem r_vm {a C dx:Addr}{fs:List (Str×V)}{ps:List Str}{sp:Sp}(h:H a=some (.ins C dx fs))(v:VMeth P w K mg base k C m ps sp)(l:fs.lookup m=none)(q:t σ H fun vs H2=>sp (.ref a::vs) H2 Q E0):rVM P w K mg base k m σ t (.ref a) H Q:=⟨a,C,dx,fs,ps,sp,rfl,h,v,l,q⟩
theorem r_make {C:Addr}{sp:Sp}{E:XK}(q:t σ H fun vs H1=>∀x dx,H1 x=none->H1 dx=none->dx≠x->sp (.ref x::(vs++[])) (upd (upd H1 dx (.own x)) x (.ins C dx [])) (fun v H2=>v= .non/\Q (.ref x) H2) E):q85 C sp [] E t σ H Q:=q
end
section
variable {X:Cx}
theorem q1h {o value:Expr}{ta tv:TE}{f:Str}{pos pos':Pos}(K:W.Frag)(ha:PE X o ta)(hv:PE X value tv)(hs:swapsWith value (some (.Attribute o f pos')) pos.line X.env=pure false)(hK:X.K=K:=by rfl):PS X (.Assign [.Attribute o f pos'] value pos) (sFld K ta tv f):=by subst hK;exact ps_fld ha hv hs
end
inductive Deq (K:W.Frag)(H:Hp):Nat->V->V->Bool->Prop where
 |flat {n:Nat} {x y:V} (fx:q2D x=true) (fy:q2D y=true):Deq K H n x y (eqV x y)
 |same {n:Nat} (a:Addr):Deq K H n (.ref a) (.ref a) true
 | tup {n:Nat} {a b:Addr} {xs ys:List V} {e:Nat->Bool} (hne:a≠b) (ha:SqT K H a xs) (hb:SqT K H b ys) (h:∀j,j<xs.length->j<ys.length->Deq K H n (xs.getD j .non) (ys.getD j .non) (e j)):
   Deq K H (n+1) (.ref a) (.ref b) ((List.range (min xs.length ys.length)).all e&&xs.length==ys.length)
 | lst {n:Nat} {a b:Addr} {xs ys:List V} {e:Nat->Bool} (hne:a≠b) (ha:SqL K H a xs) (hb:SqL K H b ys) (hl:xs.length=ys.length) (h:∀j,j<xs.length->j<ys.length->Deq K H n (xs.getD j .non) (ys.getD j .non) (e j)):
   Deq K H (n+1) (.ref a) (.ref b) ((List.range xs.length).all e)
 |lstn {n:Nat} {a b:Addr} {xs ys:List V} (hne:a≠b) (ha:SqL K H a xs) (hb:SqL K H b ys) (hl:xs.length≠ys.length):Deq K H (n+1) (.ref a) (.ref b) false
section
variable {X:Cx}{pins:List (Addr×Obj)}{σ:St}{H:Hp}{s:Shared}
theorem q9p (I:Inv X pins σ H s){n:Nat}{x y:V}{b:Bool}(d:Deq X.K H n x y b):∀{A:Around} {u v:Value},A.units+n<cLine->RelV x u->RelV y v->SeqAt.EqAt A s u v b:=by
 induction d with
 |flat fx fy=>intro A u v _ rx ry;exact q7d rx ry fx fy
 |same a=>intro A u v _ rx ry;cases rx;cases ry;exact SeqAt.EqAt.same _
 | @tup n a b xs ys e hne ha hb h ih=>
  intro A u v hu rx ry
  cases rx
  cases ry
  obtain⟨ia,ra,pa,_⟩:=I.tuple ha
  obtain⟨ib,rb,pb,_⟩:=I.tuple hb
  have la:=ra.length
  have lb:=rb.length
  refine zcs hne ?_
  have q:=SeqAt.RcAt.tuples (A:=A) (e:=e) (show s.heap.IsTuple a ia.toArray from pa) (show s.heap.IsTuple b ib.toArray from pb) (by omega) (fun j h1 h2=>ih j (by simpa[la] using h1) (by simpa[lb] using h2) (by show A.units+1+n<cLine;omega) (q0w ra h1) (q0w rb h2))
  simpa[la,lb] using q
 | @lst n a b xs ys e hne ha hb hl h ih=>
  intro A u v hu rx ry
  cases rx
  cases ry
  obtain⟨ia,ra,pa,_⟩:=I.list ha
  obtain⟨ib,rb,pb,_⟩:=I.list hb
  have la:=ra.length
  have lb:=rb.length
  refine zcs hne ?_
  have q:=SeqAt.RcAt.lists (A:=A) (e:=e) pa.isList pb.isList (by simp;omega) (by omega) (fun j h1 h2=>ih j (by simpa[la] using h1) (by simpa[lb] using h2) (by show A.units+1+n<cLine;omega) (q0w ra h1) (q0w rb h2))
  simpa[la] using q
 | @lstn n a b xs ys hne ha hb hl=>
  intro A u v hu rx ry
  cases rx
  cases ry
  obtain⟨ia,ra,pa,_⟩:=I.list ha
  obtain⟨ib,rb,pb,_⟩:=I.list hb
  have la:=ra.length
  have lb:=rb.length
  exact zcs hne (SeqAt.RcAt.lists_lengths pa.isList pb.isList (by simp;omega) (by omega))
end
def rEqD (K:W.Frag)(n:Nat):R2:=fun x y H Q=>
 (∃p q xs ys e,x= .ref p/\y= .ref q/\SqT K H p xs/\SqT K H q ys/\(∀j,j<xs.length->j<ys.length->Deq K H n (xs.getD j .non) (ys.getD j .non) (e j))/\Q (.bl ((List.range (min xs.length ys.length)).all e&&xs.length==ys.length)) H)\/
 (∃p q xs ys e,x= .ref p/\y= .ref q/\SqL K H p xs/\SqL K H q ys/\xs.length=ys.length/\(∀j,j<xs.length->j<ys.length->Deq K H n (xs.getD j .non) (ys.getD j .non) (e j))/\Q (.bl ((List.range xs.length).all e)) H)\/
 (∃p q xs ys,x= .ref p/\y= .ref q/\SqL K H p xs/\SqL K H q ys/\xs.length≠ys.length/\Q (.bl false) H)
def rNeD (K:W.Frag)(n:Nat):R2:=fun x y H Q=>
 (∃p q xs ys e,x= .ref p/\y= .ref q/\SqL K H p xs/\SqL K H q ys/\xs.length=ys.length/\(∀j,j<xs.length->j<ys.length->Deq K H n (xs.getD j .non) (ys.getD j .non) (e j))/\Q (.bl (!(List.range xs.length).all e)) H)\/
 (∃p q xs ys,x= .ref p/\y= .ref q/\SqL K H p xs/\SqL K H q ys/\xs.length≠ys.length/\Q (.bl true) H)
section
variable {X:Cx}
theorem qbz (K:W.Frag)(n:Nat)(hu:X.A.units+n+1<cLine)(hK:X.K=K:=by rfl):OpR X (compareOp .Eq) (rEqD K n):=by
 subst hK
 intro pins s σ H x y v u Q I rx ry h
 rcases h with⟨p,q,xs,ys,e,rfl,rfl,hp,hq,hd,k⟩|⟨p,q,xs,ys,e,rfl,rfl,hp,hq,hl,hd,k⟩|⟨p,q,xs,ys,rfl,rfl,hp,hq,hl,k⟩
 ·cases rx
  cases ry
  obtain⟨ia,ra,pa,_⟩:=I.tuple hp
  obtain⟨ib,rb,pb,_⟩:=I.tuple hq
  have la:=ra.length
  have lb:=rb.length
  refine SeqAt.eq_tupleAt (e:=e) (show s.heap.IsTuple p ia.toArray from pa) (show s.heap.IsTuple q ib.toArray from pb) (by omega) (fun j h1 h2=>q9p I (hd j (by simpa[la] using h1) (by simpa[lb] using h2)) (by show X.A.units+1+n<cLine;omega) (q0w ra h1) (q0w rb h2)) ⟨.bl _,H,I,?_,k⟩
  show Value.bool _=Value.bool _
  simp[la,lb]
 ·cases rx
  cases ry
  obtain⟨ia,ra,pa,_⟩:=I.list hp
  obtain⟨ib,rb,pb,_⟩:=I.list hq
  have la:=ra.length
  have lb:=rb.length
  refine SeqAt.eq_listAt (e:=e) pa.isList pb.isList (by simp;omega) (by omega) (fun j h1 h2=>q9p I (hd j (by simpa[la] using h1) (by simpa[lb] using h2)) (by show X.A.units+1+n<cLine;omega) (q0w ra h1) (q0w rb h2)) ⟨.bl _,H,I,?_,k⟩
  show Value.bool _=Value.bool _
  simp[la]
 ·cases rx
  cases ry
  obtain⟨ia,ra,pa,_⟩:=I.list hp
  obtain⟨ib,rb,pb,_⟩:=I.list hq
  have la:=ra.length
  have lb:=rb.length
  exact SeqAt.eq_list_lengthsAt pa.isList pb.isList (by simp;omega) (by omega) ⟨.bl false,H,I,rfl,k⟩
theorem op_neD (K:W.Frag)(n:Nat)(hu:X.A.units+n+1<cLine)(hK:X.K=K:=by rfl):OpR X (compareOp .NotEq) (rNeD K n):=by
 subst hK
 intro pins s σ H x y v u Q I rx ry h
 rcases h with⟨p,q,xs,ys,e,rfl,rfl,hp,hq,hl,hd,k⟩|⟨p,q,xs,ys,rfl,rfl,hp,hq,hl,k⟩
 ·cases rx
  cases ry
  obtain⟨ia,ra,pa,_⟩:=I.list hp
  obtain⟨ib,rb,pb,_⟩:=I.list hq
  have la:=ra.length
  have lb:=rb.length
  refine SeqAt.RcNeAt.lists (e:=e) pa.isList pb.isList (by simp;omega) (by omega) (fun j h1 h2=>q9p I (hd j (by simpa[la] using h1) (by simpa[lb] using h2)) (by show X.A.units+1+n<cLine;omega) (q0w ra h1) (q0w rb h2)) _ _ _ _ ⟨.bl _,H,I,?_,k⟩
  show Value.bool _=Value.bool _
  simp[la]
 ·cases rx
  cases ry
  obtain⟨ia,ra,pa,_⟩:=I.list hp
  obtain⟨ib,rb,pb,_⟩:=I.list hq
  have la:=ra.length
  have lb:=rb.length
  exact zcx pa.isList pb.isList (by simp;omega) (by omega) _ _ _ _ ⟨.bl true,H,I,rfl,k⟩
end
theorem qbb (n:Nat):((List.range n).all fun _=>true)=true:=by simp
section
variable {H:Hp}{Q:VK}{K:W.Frag}{n:Nat}{p q:Addr}{xs ys:List V}
theorem r_eqDT (hp:SqL K H p xs)(hq:SqL K H q ys)(hl:xs.length=ys.length)(h:∀j,j<xs.length->Deq K H n (xs.getD j .non) (ys.getD j .non) true)(k:Q (.bl true) H):rEqD K n (.ref p) (.ref q) H Q:=
 .inr (.inl ⟨p,q,xs,ys,fun _=>true,rfl,rfl,hp,hq,hl,fun j h1 _=>h j h1,by rw[qbb];exact k⟩)
end
section
variable {X:Cx}{a b e:Expr}{ta tb te:TE}{pos:Pos}
theorem q6y (x y:Str):(x++y).length=x.length+y.length:=strLen_append x y
end
section
variable {X:Cx}{k k':Nat}{x:Str}{ps ks:List Str}{sp:Sp}{p pos:Pos}{e:Expr}{es:List Expr}{kws:List Keyword}{t tk:TA}{st:Stmt}{ds ds':List Value}{dvs:List V}
theorem r_bm0 {K:W.Frag}{T:String}{r:V->List V->Hp->VK->Prop}{to:TE}{σ:St}{H:Hp}{Q:VK}(q:to σ H fun x H1=>tyV K T x H1/\r x [] H1 Q):tBM0 K T r to σ H Q:=q
end
end L2
namespace HT
open PySem PyProof.Rows
section
variable {prog:Program}{w:World}{A:Around}{E:Value->Shared->Prop}{s:Shared}
theorem qba {t b:Addr}{vs ws:List Value}{Q:Value->Shared->Prop}(ht:IsTup s.heap t vs.toArray)(hb:IsTup s.heap b ws.toArray)(hv:vs=[])(h:Q (.ref b) s):wpAny (model prog w) A (binaryOp .Add (.ref t) (.ref b)) Q E s:=by
 obtain⟨⟨cls,dd,data,sl⟩,ho,hc,n,hd⟩:=id ht
 obtain⟨⟨cls2,dd2,data2,sl2⟩,ho2,hc2,n2,hd2⟩:=id hb
 simp only at hc hd hc2 hd2
 subst hc hd hc2 hd2
 exact concat_meets ⟨_,ho,rfl⟩ ⟨_,ho2,rfl⟩ noFill_tuple_add seq_tuple_add zbY zbU (zbS _ _)
   (tuple_addW0 t b vs.toArray ws.toArray n n2 dd dd2 sl sl2 (by simp[hv])) ⟨ho,ho2,h⟩
end
end HT
namespace L2
open PySem PySem.Spec PyProof.Rows
def q6W (K:W.Frag):R2:=fun x y H Q=>∃a b xs ys,x= .ref a/\y= .ref b/\SqT K H a xs/\SqT K H b ys/\xs.length+ys.length<=sizeLine/\
 (xs=[]->Q (.ref b) H)/\(xs≠[]->ys=[]->Q (.ref a) H)/\(xs≠[]->ys≠[]->∀p,H p=none->Q (.ref p) (upd H p (.tup (xs++ys))))
def rNeTs (K:W.Frag):R2:=fun x y H Q=>∃p q xs ys,x= .ref p/\y= .ref q/\SqT K H p xs/\SqT K H q ys/\xs.all q2D=true/\ys.all q2D=true/\Q (.bl (!eqVs xs ys)) H
section
variable {X:Cx}
theorem q74 (K:W.Frag)(hK:X.K=K:=by rfl):OpR X (binaryOp .Add) (q6W K):=by
 subst hK
 intro pins s σ H x y v u Q I rx ry h
 obtain⟨a,b,xs,ys,e1,e2,ha,hb,hz,q0,q1,q2⟩:=h
 by_cases hx:xs=[]
 ·subst e1 e2
  cases rx
  cases ry
  obtain⟨its,r1,p1,_⟩:=I.tuple ha
  obtain⟨its2,r2,p2,_⟩:=I.tuple hb
  exact HT.qba p1 p2 (r1.nil_iff.mpr hx) ⟨.ref b,H,I,rfl,q0 hx⟩
 ·exact q8M pins s σ H x y v u Q I rx ry ⟨a,b,xs,ys,e1,e2,ha,hb,hx,hz,q1 hx,q2 hx⟩
theorem q8L (K:W.Frag)(hu:X.A.units<cLine)(hK:X.K=K:=by rfl):OpR X (compareOp .NotEq) (rNeTs K):=by
 subst hK
 intro pins s σ H x y v u Q I rx ry h
 obtain⟨p,q,xs,ys,rfl,rfl,hp,hq,fx,fy,k⟩:=h
 cases rx
 cases ry
 obtain⟨ia,ra,pa,_⟩:=I.tuple hp
 obtain⟨ib,rb,pb,_⟩:=I.tuple hq
 have la:=ra.length
 have lb:=rb.length
 refine SeqAt.RcNeAt.tuples (e:=fun j=>eqV (xs.getD j .non) (ys.getD j .non)) (show s.heap.IsTuple p ia.toArray from pa) (show s.heap.IsTuple q ib.toArray from pb) hu (fun j h1 h2=>q7d (q0w ra h1) (q0w rb h2) (q39 fx j) (q39 fy j)) _ _ _ _ ⟨.bl (!eqVs xs ys),H,I,?_,k⟩
 show Value.bool _=Value.bool _
 unfold eqVs
 rw[<-q1T,Bool.and_comm]
 simp[la,lb]
end
section
variable {H:Hp}{Q:VK}{K:W.Frag}
theorem qck {p q:Addr}{ys:List V}(h1:SqT K H p [])(h2:SqT K H q ys)(hz:ys.length<=sizeLine)(k:Q (.ref q) H):q6W K (.ref p) (.ref q) H Q:=
 ⟨p,q,[],ys,rfl,rfl,h1,h2,by simpa using hz,fun _=>k,fun e=>(e rfl).elim,fun e=>(e rfl).elim⟩
theorem qcj {p q:Addr}{x:V}{xs:List V}(h1:SqT K H p (x::xs))(h2:SqT K H q [])(hz:(x::xs).length<=sizeLine)(k:Q (.ref p) H):q6W K (.ref p) (.ref q) H Q:=
 ⟨p,q,x::xs,[],rfl,rfl,h1,h2,by simpa using hz,fun e=>by simp at e,fun _ _=>k,fun _ e=>(e rfl).elim⟩
theorem q24 {p q:Addr}{x y:V}{xs ys:List V}(h1:SqT K H p (x::xs))(h2:SqT K H q (y::ys))(hz:Nat.ble ((x::xs).length+(y::ys).length) sizeLine=true)(k:∀r,H r=none->Q (.ref r) (upd H r (.tup (x::xs++y::ys)))):q6W K (.ref p) (.ref q) H Q:=
 ⟨p,q,x::xs,y::ys,rfl,rfl,h1,h2,Nat.le_of_ble_eq_true hz,fun e=>by simp at e,fun _ e=>by simp at e,fun _ _=>k⟩
end
theorem q99 {i:Int}(h:i.natAbs.log2<1920):(Str.ofString (toString i)).length<=1921:=int_text_len_1921 h
end L2
namespace Ce
open PySem L2
theorem q3C {x:Int}(h:0<=x)(t:Nat):bit x t=x.toNat.testBit t:=by
 unfold bit
 rw[Nat.testBit_eq_decide_div_mod_eq]
 obtain⟨n,rfl⟩:∃n:Nat,x=(n:Int):=⟨x.toNat,by omega⟩
 rw[zk]
 congr 1
 have e:((n:Int) / 2 ^ t % 2=1)=((((n / 2 ^ t % 2:Nat):Int))=((1:Nat):Int)):=by
  rw[Int.natCast_emod,Int.natCast_ediv,zce]
  rfl
 rw[e,Int.natCast_inj]
theorem q4F {C:Cl}(ok:ClOk C):StOk C C.fst 0 0 C.bars C.water:=
 ⟨ok.f,⟨by decide,q3u _⟩,⟨by decide,q3u _⟩,fun i _ hb=>(by rw[q58] at hb;cases hb),ok.b,ok.wa,fun k _ _=>(by rw[q9c];exact zbK 0)⟩
end Ce
namespace Ce
open PySem L2
def q3W (g:Gt)(f:Int->Int)(op:Bool)(bars wt:Int):Bool:=match g with
 | .plain=>true
 | .door _=>op
 | .need k=>decide (0<f k)
 | .bar b=>bit bars b.toNat
 | .wade h k=>decide (wt<=h)||decide (0<f k)
 | .float h=>decide (h<=wt)
inductive Wd where
 |go|pull|take|turn|unlock
 deriving DecidableEq
def Wd.str:Wd->Str
 | .go=>"go"
 | .pull=>"pull"
 | .take=>"take"
 | .turn=>"turn"
 | .unlock=>"unlock"
def Wd.part:Wd->Int
 | .go=>3
 | .pull=>5
 | .take=>4
 | .turn=>6
 | .unlock=>3
structure Sd where
 rm:Int
 tk:Int
 op:Int
 b:Int
 wt:Int
def Sd.vs (s:Sd):List V:=[.int s.rm,.int s.tk,.int s.op,.int s.b,.int s.wt]
def Sd.ok (C:Cl)(s:Sd):Prop:=StOk C s.rm s.tk s.op s.b s.wt
def q0R (x:Way)(rm:Int):Bool:=decide (rm=x.a)||(decide (rm=x.b)&&x.back)
def canB (C:Cl)(s:Sd)(i:Nat):Wd->Bool
 | .go=>match C.ways[i]? with
  |some x=>q0R x s.rm&&q3W x.g (hold C s.tk s.op) (bit s.op i) s.b s.wt
  |none=>false
 | .pull=>match C.levers[i]? with
  |some x=>decide (s.rm=x.1)
  |none=>false
 | .take=>match C.things[i]? with
  |some x=>decide (s.rm=x.1)&& !bit s.tk i
  |none=>false
 | .turn=>match C.wheels[i]? with
  |some x=>decide (s.rm=x.1)&& !decide (s.wt=x.2)
  |none=>false
 | .unlock=>match C.ways[i]? with
  |some x=>match x.g.dk with
   |some k=>(q0R x s.rm&& !bit s.op i)&&decide (0<hold C s.tk s.op k)
   |none=>false
  |none=>false
def q1i (C:Cl)(s:Sd)(i:Nat):Wd->Sd
 | .go=>match C.ways[i]? with
  |some x=>{s with rm:=if s.rm=x.a then x.b else x.a}
  |none=>s
 | .pull=>match C.levers[i]? with
  |some x=>{s with b:=Builtin.bitXor s.b x.2}
  |none=>s
 | .take=>{s with tk:=s.tk+2 ^ i}
 | .turn=>match C.wheels[i]? with
  |some x=>{s with wt:=x.2}
  |none=>s
 | .unlock=>{s with op:=s.op+2 ^ i}
def Cl.num (C:Cl):Wd->Nat
 | .go=>C.ways.length
 | .pull=>C.levers.length
 | .take=>C.things.length
 | .turn=>C.wheels.length
 | .unlock=>C.ways.length
def canD (C:Cl)(s:Sd)(d:Wd)(n:Int):Bool:= !decide (s.rm=C.lst)&&(decide (0<=n)&&canB C s n.toNat d)
def q1X (C:Cl)(s:Sd)(d:Wd)(n:Int):Sd:=q1i C s n.toNat d
theorem q9M {C:Cl}{s:Sd}{i:Nat}{d:Wd}(h:canB C s i d=true):i<C.num d:=by
 cases d<;>simp only[canB] at h
 ·cases e:C.ways[i]? with
  |none=>rw[e] at h;simp at h
  |some x=>exact(yA e).1
 ·cases e:C.levers[i]? with
  |none=>rw[e] at h;simp at h
  |some x=>exact(yA e).1
 ·cases e:C.things[i]? with
  |none=>rw[e] at h;simp at h
  |some x=>exact(yA e).1
 ·cases e:C.wheels[i]? with
  |none=>rw[e] at h;simp at h
  |some x=>exact(yA e).1
 ·cases e:C.ways[i]? with
  |none=>rw[e] at h;simp at h
  |some x=>exact(yA e).1
theorem q66 {C:Cl}{s:Sd}{d:Wd}{n:Int}(h:s.rm=C.lst):canD C s d n=false:=by simp[canD,h]
theorem q7j {C:Cl}{s:Sd}{d:Wd}{n:Int}(h:n<0):canD C s d n=false:=by
 have:¬0<=n:=by omega
 simp[canD,this]
theorem q6H {C:Cl}{s:Sd}{d:Wd}{n:Int}(h:¬n<C.num d):canD C s d n=false:=by
 by_cases h0:0<=n
 ·have:canB C s n.toNat d=false:=by
   cases e:canB C s n.toNat d with
   |false=>rfl
   |true=>have:=q9M e;omega
  simp[canD,this]
 ·exact q7j (by omega)
theorem q9L {C:Cl}{s:Sd}{d:Wd}{i:Nat}(h:¬s.rm=C.lst):canD C s d (i:Int)=canB C s i d:=by
 have:(0:Int)<=(i:Int):=by omega
 simp[canD,h,this]
theorem q2e {C:Cl}{s:Sd}{d:Wd}{n:Int}(h:canD C s d n=true):¬s.rm=C.lst/\∃i:Nat,n=(i:Int)/\i<C.num d/\canB C s i d=true:=by
 unfold canD at h
 simp only[Bool.and_eq_true,Bool.not_eq_true',decide_eq_false_iff_not,decide_eq_true_eq] at h
 exact⟨h.1,n.toNat,by omega,q9M h.2.2,h.2.2⟩
theorem q9S {x:Int}{w:Nat}(h:bit x w=false):Builtin.bitOr x (2 ^ w)=x+2 ^ w:=by
 rw[PyProof.Rows.bitOr_and,PySem.W.kbt_bit]
 have:x / 2 ^ w % 2=0:=by
  unfold bit at h
  have h':=zaW h
  omega
 rw[this]
 simp
theorem q4b (x y:Nat):x+y=(x ^^^ y)+2*(x &&& y):=by
 have key:∀n x y,x<2 ^ n->y<2 ^ n->x+y=(x ^^^ y)+2*(x &&& y):=by
  intro n
  induction n with
  | zero => intro x y hx hy;have:x=0:=by simpa using hx
            have:y=0:=by simpa using hy
            subst_vars;rfl
  |succ n ih=>
   intro x y hx hy
   have h:=ih (x / 2) (y / 2) (by rw[Nat.pow_succ] at hx;omega) (by rw[Nat.pow_succ] at hy;omega)
   have e1:(x ^^^ y) / 2=(x / 2) ^^^ (y / 2):=Nat.xor_div_two
   have e2:(x &&& y) / 2=(x / 2) &&& (y / 2):=Nat.and_div_two
   have m1:(x ^^^ y) % 2=(x % 2+y % 2) % 2:=by
    have h1:(x ^^^ y) % 2=(x % 2) ^^^ (y % 2):=Nat.xor_mod_two_pow (n:=1)
    rw[h1]
    have a:x % 2=0\/x % 2=1:=by omega
    have b:y % 2=0\/y % 2=1:=by omega
    rcases a with a|a<;>rcases b with b|b<;>simp[a,b]
   have m2:(x &&& y) % 2=(x % 2)*(y % 2):=by
    have h1:(x &&& y) % 2=(x % 2) &&& (y % 2):=Nat.and_mod_two_pow (n:=1)
    rw[h1]
    have a:x % 2=0\/x % 2=1:=by omega
    have b:y % 2=0\/y % 2=1:=by omega
    rcases a with a|a<;>rcases b with b|b<;>simp[a,b]
   have a:x % 2=0\/x % 2=1:=by omega
   have b:y % 2=0\/y % 2=1:=by omega
   rw[<-e1,<-e2] at h
   rcases a with a|a<;>rcases b with b|b<;>rw[a,b] at m1 m2<;>omega
 exact key (x+y) x y (zbT (Nat.le_add_right x y) Nat.lt_two_pow_self) (zbT (Nat.le_add_left y x) Nat.lt_two_pow_self)
theorem qbQ {x y:Int}(hx:0<=x)(hy:0<=y):Builtin.bitXor x y=((x.toNat ^^^ y.toNat:Nat):Int):=by
 rw[PyProof.Rows.bitXor_and,PyProof.Rows.bitAnd_pp hx hy]
 have:=q4b x.toNat y.toNat
 omega
theorem q7Y {x y:Int}(hx:0<=x)(hx':x<=255)(hy:0<=y)(hy':y<=255):0<=Builtin.bitXor x y/\Builtin.bitXor x y<=255:=by
 rw[qbQ hx hy]
 have:x.toNat ^^^ y.toNat<2 ^ 8:=Nat.xor_lt_two_pow (by omega) (by omega)
 omega
theorem go_end {x:Way}{rm:Int}(h:q0R x rm=true):(if rm=x.a then x.b else x.a)=x.a+x.b - rm:=by
 unfold q0R at h
 simp only[Bool.or_eq_true,Bool.and_eq_true,decide_eq_true_eq] at h
 by_cases e:rm=x.a
 ·rw [zi e];omega
 ·rw [zd e]
  rcases h with h|h
  ·exact absurd h e
  ·omega
theorem q9T {x i:Nat}(h:x.testBit i=false):x+2 ^ i=x ^^^ 2 ^ i:=by
 have h1:=q4b x (2 ^ i)
 have h2:x &&& 2 ^ i=0:=by
  apply Nat.eq_of_testBit_eq
  intro j
  rw[Nat.testBit_and,Nat.testBit_two_pow,Nat.zero_testBit]
  by_cases e:i=j
  ·rw [<-e,h];simp
  ·simp [e]
 omega
theorem q4a {x:Int}{i:Nat}(h0:0<=x)(h:bit x i=false)(j:Nat):bit (x+2 ^ i) j=(decide (i=j) ^^ bit x j):=by
 obtain⟨n,rfl⟩:∃n:Nat,x=(n:Int):=⟨x.toNat,by omega⟩
 have hp:=q3u i
 have e:((n:Int)+2 ^ i)=((n+2 ^ i:Nat):Int):=by rw[Int.natCast_add,zce];rfl
 rw[q3C h0,zk] at h
 rw[e,q3C (by omega),q3C h0,zk,zk,q9T h,Nat.testBit_xor,Nat.testBit_two_pow,Bool.xor_comm]
theorem qbO {x:Int}{i m:Nat}(h0:0<=x)(h1:x<2 ^ m)(hi:i<m)(h:bit x i=false):0<=x+2 ^ i/\x+2 ^ i<2 ^ m:=by
 obtain⟨n,rfl⟩:∃n:Nat,x=(n:Int):=⟨x.toNat,by omega⟩
 have hp:=q3u i
 have e:((n:Int)+2 ^ i)=((n+2 ^ i:Nat):Int):=by rw[Int.natCast_add,zce];rfl
 have em:(2:Int) ^ m=((2 ^ m:Nat):Int):=by rw[zce];rfl
 rw[q3C h0,zk] at h
 rw[em] at h1
 have hn:n<2 ^ m:=by omega
 have:n ^^^ 2 ^ i<2 ^ m:=Nat.xor_lt_two_pow hn (Nat.pow_lt_pow_right (by decide) hi)
 rw[e,em,q9T h]
 omega
theorem q6F {P R:Nat->Bool}{i:Nat}(h:∀j,j≠i->R j=P j)(hi:P i=false):∀m,cnt R m=cnt P m+(if i<m then(if R i=true then 1 else 0) else 0)
 |0=>by simp[cnt]
 |m+1=>by
  show cnt R m+_=cnt P m+_+_
  rw[q6F h hi m]
  by_cases e:m=i
  ·subst e
   rw[zd (zbs _),zi (zb2 _),hi]
   simp
  ·rw [h m e]
   by_cases h2:i<m
   ·rw [zi h2,zi (show i<m+1 by omega),Nat.add_right_comm]
   ·rw [zd h2,zd (show¬i<m+1 by omega),Nat.add_right_comm]
theorem q9d {C:Cl}{tk op:Int}{i:Nat}(h0:0<=tk)(hi:i<C.things.length)(hb:bit tk i=false)(k:Int):hold C (tk+2 ^ i) op k=hold C tk op k+(if C.things[i].2=k then 1 else 0):=by
 unfold hold
 have e:cnt (tP C (tk+2 ^ i) k) C.things.length=cnt (tP C tk k) C.things.length+(if C.things[i].2=k then 1 else 0):=by
  rw[q6F (P:=tP C tk k) (i:=i) (fun j hj=>by simp[tP,q4a h0 hb,show¬i=j from fun z=>hj z.symm]) (by simp[tP,hb]),zi hi]
  congr 1
  simp only[tP,q4a h0 hb,hb]
  by_cases ek:C.things[i].2=k
  ·simp [ek,hi]
  ·simp [ek,hi]
 rw[e]
 split<;>omega
theorem q6A {C:Cl}{tk op:Int}{i:Nat}(h0:0<=op)(hi:i<C.ways.length)(hb:bit op i=false)(k:Int):hold C tk (op+2 ^ i) k=hold C tk op k - (if C.ways[i].g.dk=some k then 1 else 0):=by
 unfold hold
 have eds:dsOf C i=C.ways[i].g.dk:=by simp[dsOf,hi]
 have e:cnt (dP (dsOf C) (op+2 ^ i) k) C.ways.length=cnt (dP (dsOf C) op k) C.ways.length+(if C.ways[i].g.dk=some k then 1 else 0):=by
  rw[q6F (P:=dP (dsOf C) op k) (i:=i) (fun j hj=>by simp[dP,q4a h0 hb,show¬i=j from fun z=>hj z.symm]) (by simp[dP,hb]),zi hi]
  congr 1
  simp only[dP,q4a h0 hb,hb,eds]
  by_cases ek:C.ways[i].g.dk=some k
  ·simp [ek]
  ·simp [ek]
 rw[e]
 split<;>omega
theorem qd4 {C:Cl}{s:Sd}{d:Wd}{n:Int}(ok:ClOk C)(h:s.ok C)(hc:canD C s d n=true):(q1X C s d n).ok C:=by
 obtain⟨hl,i,rfl,hi,hb⟩:=q2e hc
 unfold q1X
 rw[zk]
 obtain⟨h1,h2,h3,h4,h5,h6,h7⟩:=id h
 cases d with
 |go=>
  have hi':i<C.ways.length:=hi
  have w:=ok.w _ (zU hi')
  simp only[q1i,yB hi']
  refine⟨?_,h2,h3,h4,h5,h6,h7⟩
  by_cases e:s.rm=C.ways[i].a
  ·simp only[e,if_true]
   exact w.2.1
  ·simp only[e,if_false]
   exact w.1
 |pull=>
  have hi':i<C.levers.length:=hi
  have w:=ok.lv _ (zU hi')
  simp only[q1i,yB hi']
  exact⟨h1,h2,h3,h4,q7Y h5.1 h5.2 (by omega) w.2.2,h6,h7⟩
 |take=>
  have hi':i<C.things.length:=hi
  have ho:bit s.tk i=false:=by
   simp only[canB,yB hi',Bool.and_eq_true,Bool.not_eq_true'] at hb
   exact hb.2
  refine⟨h1,qbO h2.1 h2.2 hi' ho,h3,h4,h5,h6,fun k k0 k1=>?_⟩
  show 0<=hold C (s.tk+2 ^ i) s.op k
  rw[q9d h2.1 hi' ho]
  have:=h7 k k0 k1
  split<;>omega
 |turn=>
  have hi':i<C.wheels.length:=hi
  have w:=ok.wh _ (zU hi')
  simp only[q1i,yB hi']
  exact⟨h1,h2,h3,h4,h5,w.2,h7⟩
 |unlock=>
  have hi':i<C.ways.length:=hi
  have eds:dsOf C i=C.ways[i].g.dk:=by simp[dsOf,hi']
  cases hk:C.ways[i].g.dk with
  |none=>simp[canB,hi',hk] at hb
  |some kd=>
   simp only[canB,yB hi',hk,Bool.and_eq_true,Bool.not_eq_true',decide_eq_true_eq] at hb
   refine⟨h1,h2,qbO h3.1 h3.2 hi' hb.1.2,fun j hj hbj=>?_,h5,h6,fun k k0 k1=>?_⟩
   ·replace hbj:bit (s.op+2 ^ i) j=true:=hbj
    rw[q4a h3.1 hb.1.2] at hbj
    by_cases e:i=j
    ·rw [<-e,eds,hk];rfl
    ·have:bit s.op j=true:=by simpa[e] using hbj
     exact h4 j hj this
   ·show 0<=hold C s.tk (s.op+2 ^ i) k
    rw[q6A h3.1 hi' hb.1.2,hk]
    have:=h7 k k0 k1
    by_cases e:kd=k
    ·rw [zi (by rw[e]),<-e];omega
    ·rw [zd (by intro z;exact e (zH z))];omega
def rowD (d:Wd)(n:Nat):List (Wd×Nat):=(List.range n).map fun i=>(d,i)
theorem q3t (d:Wd)(n:Nat):(rowD d n).length=n:=by simp[rowD]
theorem q5Q (d:Wd)(n:Nat):rowD d (n+1)=rowD d n++[(d,n)]:=by simp[rowD,List.range_succ]
def allD (C:Cl):List (Wd×Nat):=rowD .go C.ways.length++rowD .pull C.levers.length++rowD .take C.things.length++rowD .turn C.wheels.length++rowD .unlock C.ways.length
def fitD (C:Cl)(s:Sd):List (Wd×Nat):=(allD C).filter fun x=>canD C s x.1 (x.2:Int)
theorem q7k {C:Cl}(ok:ClOk C):(allD C).length<=56:=by
 have:=ok.wl
 have:=ok.tl
 have:=ok.ll
 have:=ok.vl
 simp only[allD,List.length_append,q3t]
 omega
theorem q2U {C:Cl}(ok:ClOk C)(s:Sd):(fitD C s).length<=56:=zaf (zaw _ _) (q7k ok)
theorem qaP {d d':Wd}{n i:Nat}:(d',i)∈rowD d n↔d'=d/\i<n:=by
 simp only[rowD,List.mem_map,List.mem_range,Prod.mk.injEq]
 constructor
 ·rintro ⟨j,h,rfl,rfl⟩;exact⟨rfl,h⟩
 ·rintro ⟨rfl,h⟩;exact⟨i,h,rfl,rfl⟩
theorem qaQ {C:Cl}{d:Wd}{i:Nat}:(d,i)∈allD C↔i<C.num d:=by
 simp only[allD,List.mem_append,qaP]
 cases d<;>simp[Cl.num]
theorem q79 {C:Cl}{s:Sd}{d:Wd}{i:Nat}:(d,i)∈fitD C s↔canD C s d (i:Int)=true:=by
 simp only[fitD,List.mem_filter,qaQ]
 constructor
 ·exact fun h=>h.2
 ·intro h
  obtain⟨_,j,e,hj,_⟩:=q2e h
  have:i=j:=by omega
  exact⟨by rw[this];exact hj,h⟩
theorem go_of {C:Cl}{s:Sd}{i:Nat}(hc:canD C s .go (i:Int)=true):∃x,C.ways[i]? =some x/\q0R x s.rm=true/\q3W x.g (hold C s.tk s.op) (bit s.op i) s.b s.wt=true/\¬s.rm=C.lst/\q1X C s .go (i:Int)={s with rm:=if s.rm=x.a then x.b else x.a}:=by
 obtain⟨hl,j,e,hi,hb⟩:=q2e hc
 have e':i=j:=by omega
 subst e'
 have hi':i<C.ways.length:=hi
 have hx:C.ways[i]? =some C.ways[i]:=yB hi'
 simp only[canB,hx,Bool.and_eq_true] at hb
 exact⟨C.ways[i],hx,hb.1,hb.2,hl,by unfold q1X;rw[Int.toNat_natCast];simp[q1i,hi']⟩
end Ce
namespace L2
open PySem PySem.Spec PyProof.Rows
section
variable {X:Cx}{o e:Expr}{es:List Expr}{m:Str}{apos pos:Pos}{k k':Nat}{ta:TE}{t:TA}
theorem qbv {pl:Sem Bool}(P:Program)(w:World)(K:W.Frag)(mg:Str->Option Value)(base:Heap)(hr:Room k' X.A)(hk:k<=k')(he:PE X o ta)(ha:PA X (e::es) t)
  (e1:X.prog=P:=by rfl)(e2:X.w=w:=by rfl)(e3:X.K=K:=by rfl)(e4:X.mg=mg:=by rfl)(e5:X.base=base:=by rfl)
  (hst:starEach (e::es) X.env=(false,eval e X.env)::starEach es X.env:=by rfl)(hpl:(backTo pos (starEach es X.env)).any (·.1)=false:=by rfl)
  (ht:eval (.Call (.Attribute o m apos) (e::es) [] pos) X.env=(do
   let ov<-eval o X.env
   standAt apos.atName
   let (f,first)<-holding [ov] (getMethod ov m pl)
   callWith pos f first (backTo pos (starEach (e::es) X.env)) (backToKw pos (keywordEach [] X.env))):=by rfl):
  PE X (.Call (.Attribute o m apos) (e::es) [] pos) (tVM P w K mg base k m ta t):=by
 subst e1 e2 e3 e4 e5
 exact q3N (hr.mono hk) he ha hst hpl ht
theorem qcp {pl:Sem Bool}(P:Program)(w:World)(K:W.Frag)(mg:Str->Option Value)(base:Heap)(hr:Room k' X.A)(hk:k<=k')(he:PE X o ta)
  (e1:X.prog=P:=by rfl)(e2:X.w=w:=by rfl)(e3:X.K=K:=by rfl)(e4:X.mg=mg:=by rfl)(e5:X.base=base:=by rfl)
  (ht:eval (.Call (.Attribute o m apos) [] [] pos) X.env=(do
   let ov<-eval o X.env
   standAt apos.atName
   let (f,first)<-holding [ov] (getMethod ov m pl)
   callWith pos f first (backTo pos (starEach [] X.env)) (backToKw pos (keywordEach [] X.env))):=by rfl):
  PE X (.Call (.Attribute o m apos) [] [] pos) (tVM P w K mg base k m ta tNil):=by
 subst e1 e2 e3 e4 e5
 exact pe_vm0 (hr.mono hk) he ht
end
def q1n (h:Heap)(e:Addr)(od:Option Addr):Prop:=∃o,h.get? e=some o/\o.dict=od
section
variable {M:Model}{A:Around}{E:Value->Shared->Prop}{s:Shared}{base:Heap}{env:Env}{outer:List Env}{L e:Addr}{oe:Obj}{vs:Array Value}{cls head a0:Value}{hadNext:Bool}{od:Option Addr}{Q:Unit->Shared->Prop}
theorem qbI (hfr:A.frames=some (env::outer))(hl:s.heap.FunFrames base (env::outer))(hf:env.frame=some L)(he:s.heap.get? e=some oe)(hkb:base.StaysIn s.heap)(hen:base.get? e=none)(hd:oe.data= .fields vs)(hsz:1<vs.size)(h0:vs[0]? =some a0)
  (h:∀h',base.NotedW (env::outer) e oe.cls a0 (rawInt ↑L) s.heap h'->q1n h' e oe.dict->Q () {s with heap:=h'}):
  wpAny M A (do
   let a<-PySem.frameOf env
   let pl<-entryPlaceOf L hadNext
   let b<-EntryCells.newEntry head a Value.none (rawInt ↑L) Value.none pl
   setField (Value.ref e) 1 b) Q E s:=by
 have hene:e∉List.filterMap (fun x=>x.frame) (env::outer):=fun hm=>by
  obtain⟨_,o,ho,hnf⟩:=Heap.FunFrames.mem hl hm
  rw[he] at ho
  cases ho
  exact hnf vs hd
 refine yD (wpAny_frameOf_fun hfr hl hf fun h₁ hs₁=>?_)
 refine yD (wpAny_entryPlaceOf fun pl hpl=>?_)
 refine yD ?_
 refine zad ?_ (IsPlace.sizeOk5 hpl head (Value.ref L) Value.none (rawInt ↑L) Value.none)
 have he₁:h₁.get? e=some oe:=(hs₁.2.1 e hene).trans he
 have kb₁:base.StaysIn h₁:=fun b o hbo=>(hs₁.2.1 b fun hm=>by rw[(Heap.FunFrames.mem hl hm).1] at hbo;cases hbo).trans (hkb b o hbo)
 generalize hT:([head,Value.ref L,Value.none,rawInt ↑L,Value.none]++if pl.isEmpty=true then List.replicate 6 Value.none else pl).toArray=ts
 have ht3:ts[3]? =some (rawInt ↑L):=by rw[<-hT];simp
 have he₂:(h₁.push {cls:= .type "traceback",data:= .fields ts}).get? e=some oe:=zg _ he₁
 refine zaU he₂ hd hsz ?_
 have hTe:h₁.objs.size≠e:=zcb (zt he₁)
 have hd₃:=zaG hd fun x=>x.setIfInBounds 1 (Value.ref h₁.objs.size)
 have he₃:=zaC (Obj.mapFields fun x=>x.setIfInBounds 1 (Value.ref h₁.objs.size)) he₂ (zaV hd₃)
 have keep:∀b o,b≠e->h₁.get? b=some o->((h₁.push {cls:= .type "traceback",data:= .fields ts}).update e (Obj.mapFields fun x=>x.setIfInBounds 1 (Value.ref h₁.objs.size))).get? b=some o:=fun b o hbe hb=>by
  rw[zaB _ _ (Ne.symm hbe)]
  exact zg _ hb
 have hT₃:((h₁.push {cls:= .type "traceback",data:= .fields ts}).update e (Obj.mapFields fun x=>x.setIfInBounds 1 (Value.ref h₁.objs.size))).get? h₁.objs.size=some {cls:= .type "traceback",data:= .fields ts}:=
  (zaB _ _ (Ne.symm hTe)).trans (zB h₁ rfl)
 have noRecord:∀b o,s.heap.get? b=some o->(∀vs,o.data≠ .fields vs)->b≠e:=fun b o hb hnf q=>by
  subst q
  rw[he] at hb
  cases hb
  exact hnf vs hd
 refine h _ ⟨fun b o hbo=>keep b o (fun q=>by subst q;rw[hen] at hbo;cases hbo) (kb₁ b o hbo),zbq (fun b o hb hnf=>?_) hl,⟨_,_,_,_,_,he₃,⟨zcD oe _,?_⟩,hd₃,?_,Heap.StaysIn.fresh kb₁,hTe,hT₃,rfl,ht3⟩,fun b o hb hnf=>?_⟩ ⟨_,he₃,?_⟩
 ·obtain ⟨sl,hs⟩:=hs₁.2.2 b o hb
  exact⟨_,keep b _ (noRecord b o hb hnf) hs,rfl⟩
 ·rw [Array.getElem?_setIfInBounds_ne (by decide)]
  exact h0
 ·rw [getElem?_pos _ 1 (by simpa using hsz)]
  simp
 ·obtain ⟨sl,hs⟩:=hs₁.2.2 b o hb
  exact⟨sl,keep b _ (noRecord b o hb hnf) hs⟩
 ·obtain ⟨c0,dct,dt,sl⟩:=oe
  dsimp only at hd
  subst hd
  rfl
theorem q8W {l:List Env}(held:base.HeldW l e cls a0 L s.heap)(hD:q1n s.heap e od)(h:∀h',base.FlyingW l e cls a0 h'->q1n h' e od->s.heap.UpToSlots h'->Q () {s with heap:=h'}):wpAny M A (setFlight (.ref e) none) Q E s:=by
 obtain⟨st,hen,ff,oe,vs,T,oT,ts,j1,j2,j3,j4,j5,j6,j7,j8,j9⟩:=held
 obtain⟨o2,q1,q2⟩:=hD
 rw[j1] at q1
 cases q1
 unfold setFlight
 refine yD (zau j1 j3 j4 ?_)
 refine zcV rfl ?_
 have h3:3<ts.size:=by
  have:=(zaS.mp j9).1
  exact this
 refine zaU j7 j8 h3 ?_
 have hd₃:=zaG j8 fun x=>x.setIfInBounds 3 Value.none
 have hT₃:=zaC (Obj.mapFields fun x=>x.setIfInBounds 3 Value.none) j7 (zaV hd₃)
 have keep:∀b o,b≠T->s.heap.get? b=some o->(s.heap.update T (Obj.mapFields fun x=>x.setIfInBounds 3 Value.none)).get? b=some o:=fun b o hb q=>by
  rw[zaB _ _ (Ne.symm hb)]
  exact q
 have noT:∀b o,s.heap.get? b=some o->(∀vs,o.data≠ .fields vs)->b≠T:=fun b o hb hnf q=>by
  subst q
  rw[j7] at hb
  cases hb
  exact hnf ts j8
 refine h _ ⟨fun b o hb=>keep b o (fun q=>by subst q;rw[j5] at hb;cases hb) (st b o hb),hen,zbq (fun b o hb hnf=>⟨o,keep b o (noT b o hb hnf) hb,rfl⟩) ff,oe,vs,T,_,_,keep _ _ (Ne.symm j6) j1,j2,j3,j4,j5,j6,hT₃,hd₃,?_⟩ ⟨_,keep _ _ (Ne.symm j6) j1,q2⟩ fun b o hb hnf=>⟨o.slots,keep b o (noT b o hb hnf) hb⟩
 rw[getElem?_pos _ 3 (by simpa using h3)]
 simp
theorem q6f {l:List Env}(f:base.FlyingW l e cls a0 s.heap)(hD:q1n s.heap e od)(h:∀h',base.FlyingW l e cls a0 h'->q1n h' e od->s.heap.UpToSlots h'->Q () {s with heap:=h'}):wpAny M A (setFlight (.ref e) none) Q E s:=by
 obtain⟨st,hen,ff,oe,vs,T,oT,ts,j1,j2,j3,j4,j5,j6,j7,j8,j9⟩:=f
 obtain⟨o2,q1,q2⟩:=hD
 rw[j1] at q1
 cases q1
 unfold setFlight
 refine yD (zau j1 j3 j4 ?_)
 refine zcV rfl ?_
 have h3:3<ts.size:=(zaS.mp j9).1
 refine zaU j7 j8 h3 ?_
 have hd₃:=zaG j8 fun x=>x.setIfInBounds 3 Value.none
 have hT₃:=zaC (Obj.mapFields fun x=>x.setIfInBounds 3 Value.none) j7 (zaV hd₃)
 have keep:∀b o,b≠T->s.heap.get? b=some o->(s.heap.update T (Obj.mapFields fun x=>x.setIfInBounds 3 Value.none)).get? b=some o:=fun b o hb q=>by
  rw[zaB _ _ (Ne.symm hb)]
  exact q
 have noT:∀b o,s.heap.get? b=some o->(∀vs,o.data≠ .fields vs)->b≠T:=fun b o hb hnf q=>by
  subst q
  rw[j7] at hb
  cases hb
  exact hnf ts j8
 refine h _ ⟨fun b o hb=>keep b o (fun q=>by subst q;rw[j5] at hb;cases hb) (st b o hb),hen,zbq (fun b o hb hnf=>⟨o,keep b o (noT b o hb hnf) hb,rfl⟩) ff,oe,vs,T,_,_,keep _ _ (Ne.symm j6) j1,j2,j3,j4,j5,j6,hT₃,hd₃,?_⟩ ⟨_,keep _ _ (Ne.symm j6) j1,q2⟩ fun b o hb hnf=>⟨o.slots,keep b o (noT b o hb hnf) hb⟩
 rw[getElem?_pos _ 3 (by simpa using h3)]
 simp
theorem qbD (hfr:A.frames=some (env::outer))(hf:env.frame=some L)(fly:base.FlyingW (env::outer) e cls a0 s.heap)(hD:q1n s.heap e od)
  (h:∀h',base.HeldW (env::outer) e cls a0 L h'->q1n h' e od->s.heap.UpToSlots h'->Q () {s with heap:=h'}):wpAny M A (noteFrame (.ref e) env) Q E s:=by
 obtain⟨st,hen,ff,oe,vs,T,oT,ts,j1,j2,j3,j4,j5,j6,j7,j8,j9⟩:=fly
 obtain⟨o2,q1,q2⟩:=hD
 rw[j1] at q1
 cases q1
 obtain⟨j2,j2'⟩:=j2
 subst j2
 have h3:3<ts.size:=(zaS.mp j9).1
 have h1:1<vs.size:=(zaS.mp j4).1
 unfold noteFrame
 rw[hf]
 refine yD (zau j1 j3 j4 ?_)
 refine zcV rfl ?_
 refine yD (zau j7 j8 j9 ?_)
 refine wpAny_ite_false (by simp[rawInt]) ?_
 refine yD (zaU j7 j8 h3 ?_)
 have hd₃:=zaG j8 fun x=>x.setIfInBounds 3 Value.none
 have hT₃:=zaC (Obj.mapFields fun x=>x.setIfInBounds 3 Value.none) j7 (zaV hd₃)
 have keep:∀b o,b≠T->s.heap.get? b=some o->(s.heap.update T (Obj.mapFields fun x=>x.setIfInBounds 3 Value.none)).get? b=some o:=fun b o hb q=>by
  rw[zaB _ _ (Ne.symm hb)]
  exact q
 have noT:∀b o,s.heap.get? b=some o->(∀vs,o.data≠ .fields vs)->b≠T:=fun b o hb hnf q=>by
  subst q
  rw[j7] at hb
  cases hb
  exact hnf ts j8
 refine qbI hfr (zbq (fun b o hb hnf=>⟨o,keep b o (noT b o hb hnf) hb,rfl⟩) ff) hf (keep _ _ (Ne.symm j6) j1) (fun b o hb=>keep b o (fun q=>by subst q;rw[j5] at hb;cases hb) (st b o hb)) hen j3 h1 j2' fun h' N D=>?_
 obtain⟨n1,n2,n3,n4⟩:=N
 exact h h' ⟨n1,hen,n2,n3⟩ (q2▸D) fun b o hb hnf=>n4 b o (keep b o (noT b o hb hnf) hb) hnf
theorem qaS (hfr:A.frames=some (env::outer))(hf:env.frame=some L)(st:base.StaysIn s.heap)(ff:s.heap.FunFrames base (env::outer))(he:s.heap.get? e=some oe)(hen:base.get? e=none)(hd:oe.data= .fields vs)(h1:vs[1]? =some .none)(h0:vs[0]? =some a0)
  (h:∀h',base.FlyingW outer e oe.cls a0 h'->q1n h' e oe.dict->s.heap.UpToSlots h'->Q () {s with heap:=h'}):wpAny M A (leaving env (.ref e)) Q E s:=by
 unfold leaving
 refine yD ?_
 unfold noteFrame
 rw[hf]
 refine yD (zau he hd h1 ?_)
 refine wpAny_ite_false rfl ?_
 refine qbI hfr ff hf he st hen hd (zaS.mp h1).1 h0 fun h' N D=>?_
 obtain⟨n1,n2,n3,n4⟩:=N
 refine q8W (L:=L) ⟨n1,hen,n2,n3⟩ D fun h2 f2 D2 u2=>h h2 ⟨f2.1,f2.2.1,f2.2.2.1.2.2,f2.2.2.2⟩ D2 (Heap.UpToSlots.trans n4 u2)
theorem qcP (hfr:A.frames=some (env::outer))(hf:env.frame=some L)(fly:base.FlyingW (env::outer) e cls a0 s.heap)(hD:q1n s.heap e od)
  (h:∀h',base.FlyingW outer e cls a0 h'->q1n h' e od->s.heap.UpToSlots h'->Q () {s with heap:=h'}):wpAny M A (leaving env (.ref e)) Q E s:=by
 unfold leaving
 refine yD (qbD hfr hf fly hD fun h1 hl D1 u1=>?_)
 refine q8W hl D1 fun h2 f2 D2 u2=>h h2 ⟨f2.1,f2.2.1,f2.2.2.1.2.2,f2.2.2.2⟩ D2 (u1.trans u2)
end
section
variable {P:Program}{w:World}{H:Hp}{h:Heap}{a:Addr}{o:HO}
theorem q0l.there (x:q0l P w H h a o):∃u,h.get? a=some u:=by
 cases o with
 |lst xs=>obtain⟨_,_,_,_,e⟩:=x;exact⟨_,e⟩
 |tup xs=>obtain⟨_,_,_,o,e,_⟩:=x;exact⟨_,e⟩
 |dK kvs=>obtain⟨_,_,_,_,o,_,_,e,_⟩:=x;exact⟨_,e⟩
 |dT kvs=>obtain⟨_,_,_,_,o,_,_,e,_⟩:=x;exact⟨_,e⟩
 |set S n=>obtain⟨o,_,_,_,e,_⟩:=x;exact⟨_,e⟩
 |ins C dx fs=>obtain⟨_,_,_,e,_⟩:=x;exact⟨_,e⟩
 |own y=>obtain⟨_,e⟩:=x;exact⟨_,e⟩
 |xd fs=>obtain⟨_,⟨_,_,_,e,_⟩,_⟩:=x;exact⟨_,e⟩
 |rng lo hi=>obtain⟨_,_,_,e⟩:=x;exact⟨_,e⟩
 |frz ob u=>obtain⟨e,_⟩:=x;exact⟨_,e⟩
 |tbl ps=>exact⟨_,x⟩
 |met f y=>exact⟨_,x⟩
 |ext φ=>obtain⟨_,⟨_,e⟩,_⟩:=x;exact⟨_,e⟩
theorem HOk.none_of (x:HOk P w H h)(e:h.get? a=none):H a=none:=by
 cases q:H a with
 |none=>rfl
 |some o=>obtain⟨u,eu⟩:=(x a o q).there;rw[e] at eu;cases eu
end
section
variable {X:Cx}{pins:List (Addr×Obj)}{σ:St}{H:Hp}{s:Shared}
theorem Inv.frame_data (I:Inv X pins σ H s){b:Addr}(hb:b∈frs X.stack):∃o,s.heap.get? b=some o/\∀vs,o.data≠ .fields vs:=(I.stack.mem hb).2
theorem Inv.noted {h5:Heap}{as:List Addr}(I:Inv X pins σ H s)(up:s.heap.UpToSlots h5)(keep:∀b o,s.heap.get? b=some o->b∉as->b∉frs X.stack->h5.get? b=some o)
  (hf:∀b∈as,∀o,s.heap.get? b=some o->∃vs,o.data= .fields vs)(h0:∀b∈as,X.s₀.heap.get? b=none)(hH:∀b∈as,H b=none)(hp:∀b∈as,∀p∈X.pn++pins,p.1≠b):Inv X pins σ H {s with heap:=h5}:=by
 have n0:∀b o,X.s₀.heap.get? b=some o->b∉as:=fun b o e hb=>by rw[h0 b hb] at e;cases e
 have nl:∀b o,X.s₀.heap.get? b=some o->b∉X.fs->b∉frs X.stack:=fun b o e hb hs=>by
  rcases zx.mp (I.stkSub b hs) with z|z
  ·rw [z] at e
   exact absurd (zt e) (Nat.not_lt.mpr I.ok.above)
  ·exact hb z
 obtain⟨m,hn,hl⟩:=id I.loc
 refine⟨I.ok,I.os,I.bare,⟨fun b o e n hb hx=>?_,fun b o e n hb hx=>?_,I.base.free,fun b o e hx=>?_,I.base.tups,I.base.frzs,I.base.tbls⟩,⟨m,up.ns hn,fun i x v e1 e2 e3=>?_⟩,fun x c e=>?_,I.free,I.freeC,fun p hpp=>?_,fun b ob e=>?_,I.len⟩
 ·exact keep b o (I.base.keep b o e n hb hx) (n0 b o e) (nl b o e hb)
 ·obtain ⟨sl,e1⟩:=I.base.slot b o e n hb hx
  have hbs:b∈frs X.stack:=by
   rcases I.ok.stk with z|⟨z,_⟩
   ·rw [z];exact hb
   ·rw [z]
    obtain⟨env',h1,h2⟩:=zaE.mp hb
    exact zaE.mpr ⟨env',zw _ h1,h2⟩
  obtain⟨o2,e2,d2⟩:=I.frame_data hbs
  rw[e1] at e2
  cases e2
  obtain⟨sl2,e3⟩:=up b _ e1 d2
  exact⟨sl2,e3⟩
 ·obtain ⟨o',e1⟩:=I.base.there b o e hx
  by_cases hb:b∈frs X.stack
  ·obtain ⟨o2,e2,d2⟩:=I.frame_data hb
   obtain⟨sl2,e3⟩:=up b _ e2 d2
   exact⟨_,e3⟩
  ·exact ⟨_,keep b _ e1 (n0 b o e) hb⟩
 ·obtain ⟨u,r,l⟩:=hl i x v e1 e2 e3
  refine⟨u,r,?_⟩
  rcases l with l|⟨k1,c,k2,oc,k3,k4⟩
  ·exact .inl l
  ·obtain ⟨sl,k5⟩:=up c oc k3 (by intro vs z;rw[k4] at z;cases z)
   exact .inr ⟨k1,c,k2,_,k5,k4⟩
 ·obtain ⟨v,oc,k3,k4⟩:=I.cell x c e
  obtain⟨sl,k5⟩:=up c oc k3 (by intro vs z;rw[k4] at z;cases z)
  exact⟨v,_,k5,k4⟩
 ·obtain ⟨e,n,ne,nf,d⟩:=I.pin p hpp
  refine⟨keep _ _ e (fun hb=>hp _ hb p hpp rfl) (fun hb=>?_),n,ne,nf,d⟩
  rcases zx.mp (I.stkSub _ hb) with z|z
  ·exact ne z
  ·exact nf z
 ·refine (I.hok b ob e).stay (fun c u hc q=>keep c u q (fun hb=>?_) (fun hb=>?_)) (fun _ q=>q) fun _ _ q=>q
  ·have:=hH c hb
   rcases hc with rfl|hc
   ·rw [this] at e;cases e
   ·rw [this] at hc;cases hc
  ·have:=I.stkFree c hb
   rcases hc with rfl|hc
   ·rw [this] at e;cases e
   ·rw [this] at hc;cases hc
end
structure Fly (h0:Heap)(a:Addr)(cls:Value)(od:Option Addr)(H:Hp)(h:Heap):Prop where
 ex:∃oe vs T oT ts a0,h.get? a=some oe/\(oe.cls=cls/\vs[0]? =some a0)/\oe.data= .fields vs/\vs[1]? =some (.ref T)/\T≠a/\h.get? T=some oT/\oT.data= .fields ts/\ts[3]? =some .none/\h0.get? T=none/\H T=none
 new:h0.get? a=none
 free:H a=none
 dict:q1n h a od
def CXf (P:Program)(w:World):CXT:=fun outer H s E e s'=>∃a cls od H',e= .ref a/\s'.os=s.os/\AllBare s'.gens/\Un (frs outer) [] H H' s.heap s'.heap/\HOk P w H' s'.heap/\Fly s.heap a cls od H' s'.heap/\E cls od H'
section
variable {X:Cx}{pins:List (Addr×Obj)}{σ:St}{H H':Hp}{s s':Shared}{E:XK}
theorem q9g (l:List Env):∀env∈l,∀a,env.frame=some a->a∈frs l:=fun env he a ha=>zaE.mpr ⟨env,he,ha⟩
theorem Inv.zero (I:Inv X pins σ H s){b:Addr}(e:s.heap.get? b=none)(hx:X.ex=[]):X.s₀.heap.get? b=none:=by
 cases q:X.s₀.heap.get? b with
 |none=>rfl
 |some o=>obtain⟨o',e'⟩:=I.base.there b o q (by rw[hx];simp);rw[e] at e';cases e'
end
section
variable {P:Program}{w:World}{K:W.Frag}{mg:Str->Option Value}{base:Heap}{N:List Str}{qual:Str}{scope:Scope}{f:Addr}{cd:Value}{A:Around}{outer:List Env}{s0:Shared}{H0:Hp}{E:XK}
theorem q8r {pins:List (Addr×Obj)}{σ:St}{H:Hp}{s:Shared}{e:Addr}{oe:Obj}{vs:Array Value}{a0:Value}(I:Inv (cxOf (CXf P w) P w K mg base N qual scope f cd A outer s0 H0 E) pins σ H s)
  (he:s.heap.get? e=some oe)(hd:oe.data= .fields vs)(h1:vs[1]? =some .none)(h0:vs[0]? =some a0)(new:s0.heap.get? e=none)(free:H e=none)(hpn:∀p∈(cxOf (CXf P w) P w K mg base N qual scope f cd A outer s0 H0 E).pn++pins,p.1≠e)(hE:E oe.cls oe.dict H):
  (cxOf (CXf P w) P w K mg base N qual scope f cd A outer s0 H0 E).xe (.ref e) s:=by
 have st:(PySem.W.hideAll s.heap (e::frs (envOfC qual scope s0.heap.objs.size f cd::outer))).StaysIn s.heap:=fun b o q=>zbQ _ q
 show wpAny _ _ (leaving _ (.ref e)) _ _ _
 refine qaS (base:=PySem.W.hideAll s.heap (e::frs (envOfC qual scope s0.heap.objs.size f cd::outer))) I.ok.frames rfl st (zbZ I.stack (fun env he b hb=>zw _ (q9g _ env he b hb))) he (zaY _ zae) hd h1 h0 fun h2 fl D2 up=>?_
 obtain⟨f1,f2,f3,oe',vs',T,oT,ts,k1,k2,k3,k4,k5,k6,k7,k8,k9⟩:=fl
 have keep:∀b o,s.heap.get? b=some o->b∉([e]:List Addr)->b∉frs (envOfC qual scope s0.heap.objs.size f cd::outer)->h2.get? b=some o:=fun b o q hb hc=>f1 b o (zaM _ q fun z=>by
  rcases zx.mp z with z|z
  ·exact hb (by rw[z];simp)
  ·exact hc z)
 have one:∀{p:Addr->Prop},p e->∀b∈([e]:List Addr),p b:=fun h1 b hb=>by rw[zp.mp hb];exact h1
 have J:=I.noted (as:=[e]) up keep (one fun o q=>by rw[he] at q;cases q;exact⟨_,hd⟩) (one new) (one free) (one fun p hp=>hpn p hp)
 have hT:s.heap.get? T=none:=by
  cases q:s.heap.get? T with
  |none=>rfl
  |some o=>
   by_cases hb:T∈frs (envOfC qual scope s0.heap.objs.size f cd::outer)
   ·obtain ⟨o2,e2,d2⟩:=I.frame_data hb
    obtain⟨sl,e3⟩:=up T o2 e2 d2
    rw[k7] at e3
    cases e3
    exact absurd k8 (d2 ts)
   ·have:=zaM (l:=e::frs (envOfC qual scope s0.heap.objs.size f cd::outer)) q (fun z=>by
     rcases zx.mp z with z|z
     ·exact k6 z
     ·exact hb z)
    rw[k5] at this;cases this
 exact⟨e,oe.cls,oe.dict,H,rfl,J.os,J.bare,J.base,J.hok,⟨⟨oe',vs',T,oT,ts,_,k1,k2,k3,k4,k6,k7,k8,k9,I.zero hT rfl,I.hok.none_of hT⟩,new,free,D2⟩,hE⟩
theorem qa6 {pins:List (Addr×Obj)}{σ:St}{H:Hp}{s:Shared}{h':Heap}{e:Addr}{cls:Value}{args:List Value}(I:Inv (cxOf (CXf P w) P w K mg base N qual scope f cd A outer s0 H0 E) pins σ H s)
  (hx:Heap.MadeExcOf s.heap h' e cls args)(hE:E cls none H):(cxOf (CXf P w) P w K mg base N qual scope f cd A outer s0 H0 E).xe (.ref e) {s with heap:=h'}:=by
 obtain⟨t,ht,_⟩:=hx.there
 exact q8r (I.kept (t':=s.toks) hx.keeps) ht rfl rfl rfl (I.zero hx.new rfl) (I.hok.none_of hx.new) (fun p hp z=>by have:=(I.pin p hp).1;rw[z,hx.new] at this;cases this) hE
theorem q8J:q3i (CXf P w) (cxOf (CXf P w) P w K mg base N qual scope f cd A outer s0 H0 E) E:=by
 intro pins σ H s e s' I h
 obtain⟨a,cls,od,H',rfl,os,bare,un,hok,fly,hE⟩:=h
 have J:Inv (cxOf (CXf P w) P w K mg base N qual scope f cd A outer s0 H0 E) pins σ H' s':=I.call' os un hok bare fun b z=>absurd z (by simp)
 obtain⟨oe,vs,T,oT,ts,a0,k1,k2,k3,k4,k6,k7,k8,k9,hT0,hTH⟩:=fly.ex
 have st:(PySem.W.hideAll s'.heap (a::T::frs (envOfC qual scope s0.heap.objs.size f cd::outer))).StaysIn s'.heap:=fun b o q=>zbQ _ q
 show wpAny _ _ (leaving _ (.ref a)) _ _ _
 refine qcP (base:=PySem.W.hideAll s'.heap (a::T::frs (envOfC qual scope s0.heap.objs.size f cd::outer))) I.ok.frames rfl (cls:=cls) (a0:=a0)
  ⟨st,zaY _ zae,zbZ J.stack (fun env he b hb=>zw _ (zw _ (q9g _ env he b hb))),oe,vs,T,oT,ts,k1,k2,k3,k4,zaY _ (zw _ zae),k6,k7,k8,k9⟩ fly.dict fun h2 fl D2 up=>?_
 obtain⟨f1,f2,f3,oe2,vs2,T2,oT2,ts2,j1,j2,j3,j4,j5,j6,j7,j8,j9⟩:=fl
 have keep:∀b o,s'.heap.get? b=some o->b∉([a,T]:List Addr)->b∉frs (envOfC qual scope s0.heap.objs.size f cd::outer)->h2.get? b=some o:=fun b o q hb hc=>f1 b o (zaM _ q fun z=>by
  rcases zx.mp z with z|z
  ·exact hb (by rw[z];simp)
  ·rcases zx.mp z with z|z
   ·exact hb (by rw[z];simp)
   ·exact hc z)
 have two:∀{p:Addr->Prop},p a->p T->∀b∈([a,T]:List Addr),p b:=fun h1 h2 b hb=>by
  rcases zx.mp hb with rfl|hb
  ·exact h1
  ·rw [zp.mp hb];exact h2
 have Z:=J.noted (as:=[a,T]) up keep (two (fun o q=>by rw[k1] at q;cases q;exact⟨_,k3⟩) (fun o q=>by rw[k7] at q;cases q;exact⟨_,k8⟩)) (two (I.zero fly.new rfl) (I.zero hT0 rfl)) (two fly.free hTH)
  (two (fun p hp z=>by have:=(I.pin p hp).1;rw[z,fly.new] at this;cases this) (fun p hp z=>by have:=(I.pin p hp).1;rw[z,hT0] at this;cases this))
 have hT2:s0.heap.get? T2=none/\H' T2=none:=by
  by_cases eT:T2=T
  ·rw [eT];exact⟨I.zero hT0 rfl,hTH⟩
  have hn:s'.heap.get? T2=none:=by
   cases q:s'.heap.get? T2 with
   |none=>rfl
   |some o=>
    by_cases hb:T2∈frs (envOfC qual scope s0.heap.objs.size f cd::outer)
    ·obtain ⟨o2,e2,d2⟩:=J.frame_data hb
     obtain⟨sl,e3⟩:=up T2 o2 e2 d2
     rw[j7] at e3
     cases e3
     exact absurd j8 (d2 ts2)
    ·have:=zaM (l:=a::T::frs (envOfC qual scope s0.heap.objs.size f cd::outer)) q (fun z=>by
      rcases zx.mp z with z|z
      ·exact j6 z
      ·rcases zx.mp z with z|z
       ·exact eT z
       ·exact hb z)
     rw[j5] at this;cases this
  exact⟨J.zero hn rfl,J.hok.none_of hn⟩
 exact⟨a,cls,od,H',rfl,Z.os,Z.bare,Z.base,Z.hok,⟨⟨oe2,vs2,T2,oT2,ts2,a0,j1,j2,j3,j4,j6,j7,j8,j9,hT2.1,hT2.2⟩,I.zero fly.new rfl,fly.free,D2⟩,hE⟩
end
theorem qd2 {K:W.Frag}{h:Heap}{C:Addr}{bmB:List Value}{newId:String}(X:K.In h)(q:PySem.W.excIn K C bmB newId=true):
  ∃bm N nm qn bs hd sn sub ab col dd k0 k1 k2 k3 k5 mN,h.get? C=some (excClassObj nm qn C N bs bm hd sn sub ab col dd k0 k1 k2 k3 k5 newId)/\h.Ns N mN/\mN "__init__"=none/\OwnTail h bmB bm:=by
 unfold PySem.W.excIn at q
 split at q
 case h_2=>cases q
 case h_1 dd cd sl ho=>
  split at q
  case h_2=>cases q
  case h_1 C' bm k0 k1 k2 k3 n k5 hm hs=>
   rw[zaT,zaT,zaT,zaT,zaT] at q
   obtain⟨⟨⟨⟨⟨q1,q2⟩,q3⟩,q4⟩,q5⟩,q6⟩:=q
   have e1:C'=C:=by simpa using q1
   have e2:n=newId:=by simpa using q2
   have e3:cd.hasDel=false:=by simpa using q3
   have e6:PySem.W.nsIn K cd.ns "__init__"=some none:=by simpa using q6
   obtain⟨a1,a2,a3,a4,a5,a6,a7,a8,a9,a10,a11⟩:=cd
   dsimp only at hm e3 e6 q4 q5
   have esl:sl= #[k0,k1,k2,k3,some (.builtin n),k5]:=by
    cases sl
    rename_i l
    dsimp only at hs
    rw[hs]
   subst e1 e2 esl hm e3
   exact⟨bm,a4,a1,a5,a2,a6,a7,a8,a9,a10,dd,k0,k1,k2,k3,k5,_,X _ _ ho,.of_isNs (PySem.W.isNs_of_in X q5),PySem.W.nsMap_none_of_in X q5 e6,PySem.W.tail_of_in X q4⟩
structure ExcC (K:W.Frag)(C:Addr):Prop where
 ex:∃(newId initId:String) (bmB:List Value),ExcBaseFacts "ValueError" newId initId bmB/\PySem.W.excIn K C bmB newId=true/\bmB.contains (.type "BaseException")=true
def qbP (X:Cx)(E:XK):Prop:=∀(pins:List (Addr×Obj)) (σ:St) (H:Hp) (s:Shared) (h':Heap) (e:Addr) (cls:Value) (args:List Value),Inv X pins σ H s->Heap.MadeExcOf s.heap h' e cls args->E cls none H->X.xe (.ref e) {s with heap:=h'}
def qbf (C:Addr)(E:XK)(t:TA):TS:=fun _ σ H=>t σ H fun vs H1=>vs.length<=sizeLine/\E (.ref C) none H1
section
variable {X:Cx}{E:XK}{x:Str}{C:Addr}{e:Expr}{es:List Expr}{t:TA}{np cpos pos:Pos}
theorem qad (hR:qbP X E)(hc:X.calm=true)(hg:Gl X x)(hm:X.mg x=some (.ref C))(q:ExcC X.K C)(ha:PA X (e::es) t)(hd:(x==("__debug__":Str))=false:=by decide)
  (he:starEach (e::es) X.env=(false,eval e X.env)::starEach es X.env:=by rfl)(hpl:(backTo cpos (starEach (e::es) X.env)).any (·.1)=false:=by rfl):PS X (.Raise (some (.Call (.Name x np) (e::es) [] cpos)) none pos) (qbf C E t):=by
 intro pins s σ H D I h
 obtain⟨newId,initId,bmB,F,qi,hb⟩:=q.ex
 obtain⟨bm,N,nm,qn,bs,hdd,sn,sub,ab,col,dd,k0,k1,k2,k3,k5,mN,hC,hN,hni,TL⟩:=qd2 I.ok.mod.kin qi
 refine wpAny_Raise_call_subT (C:=C) (nm:=nm) (q:=qn) (N:=N) (bs:=bs) (bm:=bm) (hdct:=hdd) (sn:=sn) (sub:=sub) (ab:=ab) (col:=col) (dd:=dd) (k0:=k0) (k1:=k1) (k2:=k2) (k3:=k3) (k5:=k5) (mN:=mN) F (TL.hasType hb) (I.ok.hd hc) hpl hni (q2b I hg hm ⟨rfl,?_⟩ hd)
 have hq:=ha cpos pins s σ H _ I h
 rw[he] at hq ⊢
 refine zcd (thn hq fun us s1 ⟨vs,H1,I1,r,hl,hE⟩=>?_)
 exact⟨rfl,by rw[<-r.length];exact hl,I1.bk _ _ hC,hN.keeps I1.bk,TL.keeps I1.bk,fun h' ex hx=>hR pins σ H1 s1 h' ex _ _ I1 hx hE⟩
end
structure FlyX (X:Cx)(pins:List (Addr×Obj))(a:Addr)(cls:Value)(od:Option Addr)(H:Hp)(h:Heap):Prop where
 ex:∃oe vs T oT ts a0,h.get? a=some oe/\(oe.cls=cls/\vs[0]? =some a0)/\oe.data= .fields vs/\vs[1]? =some (.ref T)/\T≠a/\h.get? T=some oT/\oT.data= .fields ts/\ts[3]? =some .none/\X.s₀.heap.get? T=none/\H T=none/\∀p∈X.pn++pins,p.1≠T
 new:X.s₀.heap.get? a=none
 free:H a=none
 pn:∀p∈X.pn++pins,p.1≠a
 dict:q1n h a od
def XP (X:Cx)(pins:List (Addr×Obj))(σ:St)(Ex:Value->Option Addr->Hp->Prop)(e:Value)(s':Shared):Prop:=∃a cls od H',e= .ref a/\Inv X pins σ H' s'/\FlyX X pins a cls od H' s'.heap/\Ex cls od H'
theorem xp_of {X:Cx}{pins:List (Addr×Obj)}{σ:St}{H:Hp}{s s':Shared}{E:XK}{e:Value}(I:Inv X pins σ H s)(hx:X.ex=[])(h:CXf X.prog X.w X.stack H s E e s'):XP X pins σ E e s':=by
 obtain⟨a,cls,od,H',rfl,os,bare,un,hok,fly,hE⟩:=h
 have J:Inv X pins σ H' s':=I.call' os un hok bare fun b z=>absurd z (by simp)
 obtain⟨oe,vs,T,oT,ts,a0,k1,k2,k3,k4,k6,k7,k8,k9,hT0,hTH⟩:=fly.ex
 exact⟨a,cls,od,H',rfl,J,⟨⟨oe,vs,T,oT,ts,a0,k1,k2,k3,k4,k6,k7,k8,k9,I.zero hT0 hx,hTH,fun p hp z=>by have:=(I.pin p hp).1;rw[z,hT0] at this;cases this⟩,I.zero fly.new hx,fly.free,(fun p hp z=>by have:=(I.pin p hp).1;rw[z,fly.new] at this;cases this),fly.dict⟩,hE⟩
abbrev TEx:=St->Hp->VK->(Value->Option Addr->Hp->Prop)->Prop
def PEx (X:Cx)(e:Expr)(t:TEx):Prop:=
 ∀(pins:List (Addr×Obj)) (s:Shared) (σ:St) (H:Hp) (Q:VK) (Ex:Value->Option Addr->Hp->Prop),Inv X pins σ H s->t σ H Q Ex->wpAny (model X.prog X.w) X.A (eval e X.env) (EP X pins σ Q) (XP X pins σ Ex) s
abbrev TSx:=Ends->(St->Value->Option Addr->Hp->Prop)->St->Hp->Prop
def XS (X:Cx)(pins:List (Addr×Obj))(Ex:St->Value->Option Addr->Hp->Prop)(e:Value)(s':Shared):Prop:=∃σ,XP X pins σ (Ex σ) e s'
def PSx (X:Cx)(st:Stmt)(t:TSx):Prop:=
 ∀(pins:List (Addr×Obj)) (s:Shared) (σ:St) (H:Hp) (D:Ends) (Ex:St->Value->Option Addr->Hp->Prop),Inv X pins σ H s->t D Ex σ H->wpAny (model X.prog X.w) X.A (exec st X.env) (SP X pins D) (XS X pins Ex) s
def PSsx (X:Cx)(st:List Stmt)(t:TSx):Prop:=
 ∀(pins:List (Addr×Obj)) (s:Shared) (σ:St) (H:Hp) (D:Ends) (Ex:St->Value->Option Addr->Hp->Prop),Inv X pins σ H s->t D Ex σ H->wpAny (model X.prog X.w) X.A (execs st X.env) (SP X pins D) (XS X pins Ex) s
def qbR (sp:Sp)(dvs:List V)(t:TA):TEx:=fun σ H Q Ex=>t σ H fun vs H1=>sp (vs++dvs) H1 Q Ex
def xSet (i:Nat)(te:TEx):TSx:=fun D Ex σ H=>te σ H (fun v H1=>D.nx (σ.set i (some v)) H1) (Ex σ)
section
variable {X:Cx}{k:Nat}{f:Addr}{fd:FuncData}{ps:List Str}{sp:Sp}{dvs:List V}{ds:List Value}{x:Str}{p pos:Pos}{e:Expr}{es:List Expr}{t:TA}
theorem qcb {pins:List (Addr×Obj)}{σ:St}{H:Hp}{s:Shared}{Q:VK}{E:XK}{us:List Value}{vs:List V}(F:FnOk X.prog X.w X.K X.mg X.base (CXf X.prog X.w) k f fd ps sp)(hr:Room k X.A)(hb:q1U X.K fd ps ds)(hd:Vals dvs ds)(hx:X.ex=[])
  (I:Inv X pins σ H s)(r:Vals vs us)(h:sp (vs++dvs) H Q E):wpAny (model X.prog X.w) X.A (call (.ref f) us) (EP X pins σ Q) (XP X pins σ E) s:=by
 have r2:Vals (vs++dvs) (us++ds):=r.append hd
 have hl:(us++ds).length=ps.length:=by rw[<-r2.length];exact F.len _ _ _ _ h
 refine wpAny_call (zcc (F.run X.A X.stack s H ⟨us,[]⟩ (us++ds) (vs++dvs) Q E hr I.env0 (hb s us I.kIn hl) r2 h) fun r s' hq=>?_)
 cases r with
 |error e=>exact xp_of I hx hq
 |ok fl=>
  cases fl with
  |ret u=>exact I.after hq
  |next=>exact False.elim hq
  |brk=>exact False.elim hq
  |cont=>exact False.elim hq
theorem qaj (F:FnOk X.prog X.w X.K X.mg X.base (CXf X.prog X.w) k f fd ps sp)(hr:Room k X.A)(hg:Gl X x)(hm:X.mg x=some (.ref f))(hk:PySem.W.keepIn X.K (.ref f)=true)(hb:q1U X.K fd ps ds)(hd:Vals dvs ds)(hx:X.ex=[])
  (ha:PA X.nox (e::es) t)(hdb:(x==("__debug__":Str))=false:=by decide)(he:starEach (e::es) X.env=(false,eval e X.env)::starEach es X.env:=by rfl)(hpl:(backTo pos (starEach es X.env)).any (·.1)=false:=by rfl):
  PEx X (.Call (.Name x p) (e::es) [] pos) (qbR sp dvs t):=by
 intro pins s σ H Q Ex I h
 refine zbb (q2b I hg hm ?_ hdb)
 refine zbv (h₀:=X.base) I.ok.mod.kin hk (zZ (ha pos pins s σ H _ (I.wish _) h) (fun us s1 ⟨vs,H1,I1,r,q⟩=>⟨I1.kIn,?_⟩) fun _ _ z=>False.elim z) he hpl
 exact qcb F hr hb hd hx I1.unwish r q
theorem q8v {i:Nat}{te:TEx}{pos':Pos}(hN:X.N.Nodup)(hi:X.N[i]? =some x)(hx:Loc X.env.scope x)(he:PEx X e te)(hs:swapsWith e (some (.Name x pos')) pos.line X.env=pure false:=by rfl)(hf:X.fn x=true\/X.env.scope.names.lookup x=some .local:=by first|exact .inl rfl|exact .inr rfl|assumption):
  PSx X (.Assign [.Name x pos'] e pos) (xSet i te):=by
 intro pins s σ H D Ex I h
 refine wpAny_Assign_Name (zZ (he pins s σ H _ _ I h) (fun v s1 ⟨y,H1,I1,r1,q1⟩=>?_) fun _ _ z=>⟨σ,z⟩) hs
 exact q3q I1 hN hi hx r1 (fun s2 I2=>⟨_,H1,I2,q1⟩) hf
theorem q6X {st:Stmt}{t:TSx}(h1:PSx X st t):PSsx X [st] t:=by
 intro pins s σ H D Ex I h
 refine zcM (thn (h1 pins s σ H D Ex I h) fun f s1 q=>?_)
 cases f with
 |next=>exact zbu q
 |ret v=>exact q
 |brk=>exact q
 |cont=>exact q
end
abbrev Cx.marked (X:Cx)(v:Value):Cx:={X with A:=X.A.mark (some v),calm:=false,xe:=fun _ _=>False}
section
variable {X:Cx}{pins:List (Addr×Obj)}{σ:St}{H:Hp}{s:Shared}{v:Value}
theorem Cx.Ok.marked (ok:X.Ok)(v:Value):(X.marked v).Ok:=
 ⟨ok.mod,ok.kind,ok.glob,ok.blt,ok.above,ok.inj,ok.has,ok.cab,fun z=>Bool.noConfusion z,ok.frames,ok.stk,ok.exf,ok.bs,ok.bsz,ok.noex,ok.exfs,ok.funs,ok.frf⟩
theorem Inv.marked (I:Inv X pins σ H s)(v:Value):Inv (X.marked v) pins σ H s:=⟨I.ok.marked v,I.os,I.bare,I.base,I.loc,I.cell,I.free,I.freeC,I.pin,I.hok,I.len⟩
theorem Inv.unmarked (ok:X.Ok)(I:Inv (X.marked v) pins σ H s):Inv X pins σ H s:=⟨ok,I.os,I.bare,I.base,I.loc,I.cell,I.free,I.freeC,I.pin,I.hok,I.len⟩
theorem SP.unmarked {D:Ends}{f:Flow}{s':Shared}(ok:X.Ok)(h:SP (X.marked v) pins D f s'):SP X pins D f s':=by
 cases f with
 |next=>obtain⟨σ',H',I,q⟩:=h;exact⟨σ',H',I.unmarked ok,q⟩
 |brk=>obtain⟨σ',H',I,q⟩:=h;exact⟨σ',H',I.unmarked ok,q⟩
 |cont=>obtain⟨σ',H',I,q⟩:=h;exact⟨σ',H',I.unmarked ok,q⟩
 |ret u=>obtain⟨v,σ',H',I,r,q⟩:=h;exact⟨v,σ',H',I.unmarked ok,r,q⟩
end
def q4e:List TE->Nat->TE
 |[],n=>fun _ H Q=>∀z:Str,z.length=n->Q (.str z) H
 |t::ts,n=>fun σ H Q=>t σ H fun x H1=>∃z:Str,x= .str z/\n+z.length<=sizeLine/\q4e ts (n+z.length) σ H1 Q
section
variable {X:Cx}{pos:Pos}{e:Expr}{te:TE}
theorem q94:∀{es:List Expr} {ts:List TE},Paired (PE X) es ts->∀(acc:Str) (pins:List (Addr×Obj)) (s:Shared) (σ:St) (H:Hp) (Q:VK),acc.length<=sizeLine->Inv X pins σ H s->q4e ts acc.length σ H Q->wpAny (model X.prog X.w) X.A (joinParts acc (evalEach es X.env)) (EP X pins σ Q) X.xe s
 |_,_,.nil,acc,pins,s,σ,H,Q,hz,I,h=>joinParts_nilE (joinParts_nil ⟨.str acc,H,I.tok _,⟨_,rfl⟩,h acc rfl⟩ hz)
 |_,_,.cons p r,acc,pins,s,σ,H,Q,hz,I,h=>by
  refine joinParts_consE (joinParts_cons (thn (p pins s σ H _ I h) fun v s1 ⟨x,H1,I1,rx,z,ez,hl,q⟩=>?_))
  subst ez
  obtain⟨t,rfl⟩:=rx
  have el:(acc++z).length=acc.length+z.length:=q6y acc z
  exact⟨by rw[el];exact hl,q94 r (acc++z) pins s1 σ H1 Q (by rw[el];exact hl) I1 (by rw[el];exact q)⟩
theorem q9q:Str.empty.length=0:=by decide
theorem qcs {a b:Expr}{es:List Expr}{ts:List TE}(h:Paired (PE X) (a::b::es) ts):PE X (.JoinedStr (a::b::es) pos) (q4e ts 0):=by
 intro pins s σ H Q I hw
 refine JoinedStr_many (q94 h Str.empty pins s σ H Q (by decide) I ?_)
 rw[q9q]
 exact hw
def tFm (te:TE):TE:=fun σ H Q=>te σ H fun x H1=>(∃i,x= .int i/\i.natAbs.log2<1920/\∀z:Str,z.length<=1921->Q (.str z) H1)\/∃y:Str,x= .str y/\y.length<=sizeLine/\Q (.str y) H1
theorem pe_fm (he:PE X e te):PE X (.FormattedValue e (-1) none pos) (tFm te):=by
 intro pins s σ H Q I h
 refine FormattedValue_plain (thn (he pins s σ H _ I h) fun v s1 ⟨x,H1,I1,rx,q⟩=>?_)
 rcases q with⟨i,rfl,hi,q⟩|⟨y,rfl,hy,q⟩
 ·obtain ⟨t,rfl⟩:=rx
  exact formatField_int_small hi ⟨.str _,H1,I1.tok _,⟨_,rfl⟩,q _ (q99 hi)⟩
 ·obtain ⟨t,rfl⟩:=rx
  exact formatField_str (fun t' tk=>⟨.str y,H1,I1.tok _,⟨_,rfl⟩,q⟩) hy
end
def q6K:V->Prop
 | .int i=>i.natAbs.log2<1920
 | .str y=>(reprText y).length<=2000
 | .bl _=>True
 | .non=>True
 |_=>False
theorem q8i {h:Heap}{x:V}{u:Value}(r:RelV x u)(hx:q6K x):∃d,Reads h u d []/\d.showable=true/\d.hasDict=false/\d.shown.length<=2000/\d.depth=0:=by
 cases x with
 |non=>cases r;exact⟨.none,.none,rfl,rfl,by walk_at "k",rfl⟩
 |bl b=>cases r;exact⟨.bool b,.bool b,rfl,rfl,by cases b<;>walk_at "k",rfl⟩
 |int i=>
  obtain⟨t,rfl⟩:=r
  exact⟨.int i,.int i t,by simp[PyData.showable];exact hx,rfl,by have:=q99 hx;show(Str.ofString (toString i)).length<=2000;omega,rfl⟩
 |str y=>
  obtain⟨t,rfl⟩:=r
  exact⟨.str y,.str y t,rfl,rfl,hx,rfl⟩
 |byt b=>exact hx.elim
 |flt b=>exact hx.elim
 |ref a=>exact hx.elim
 |ty n=>exact hx.elim
theorem q5v {h:Heap}:∀{xs:List V} {us:List Value},Vals xs us->(∀x∈xs,q6K x)->∃ds,ReadsAll h us ds []/\PyData.showableAll ds=true/\PyData.hasDictAll ds=false/\piled (PyData.shownAll ds)<=2002*xs.length/\(PyData.shownAll ds).length=xs.length/\PyData.depthAll ds=0
 |_,_,.nil,_=>⟨[],.nil,rfl,rfl,by simp[PyData.shownAll,piled],rfl,rfl⟩
 |_,_,.cons (a:=x) r t,hx=>by
  obtain⟨d,k1,k2,k3,k4,k5⟩:=q8i (h:=h) r (hx x zae)
  obtain⟨ds,j1,j2,j3,j4,j5,j6⟩:=q5v (h:=h) t fun y hy=>hx y (zw _ hy)
  refine⟨d::ds,ReadsAll.cons k1 j1,?_,?_,?_,?_,?_⟩
  ·show (d.showable&&PyData.showableAll ds)=true
   rw[k2,j2];rfl
  ·show (d.hasDict||PyData.hasDictAll ds)=false
   rw[k3,j3];rfl
  ·show piled (d.shown::PyData.shownAll ds)<=_
   rw[piled_cons,zac]
   omega
  ·show (d.shown::PyData.shownAll ds).length=_
   rw[zac,j5,zac]
  ·show max d.depth (PyData.depthAll ds)=0
   rw[k5,j6];rfl
theorem q4D {ts:List Str}:(tupleText ts).length<=piled ts+4:=by
 unfold tupleText
 rw[q6y,q6y]
 have h1:((("(":String):Str)).length=1:=by walk_at "k"
 have h2:∀b:Bool,((((if b=true then ",)" else ")"):String):Str)).length<=2:=by intro b;cases b<;>walk_at "k"
 have h3:=h2 (ts.length==1)
 cases ts with
 |nil=>
  have e:(Str.join ((", ":String):Str) []).length=0:=by walk_at "k"
  rw[e]
  omega
 |cons x r=>
  have:=join_length_add (x::r) (by simp)
  omega
section
variable {X:Cx}{pos:Pos}{e:Expr}{te:TE}
def tFt (te:TE):TE:=fun σ H Q=>te σ H fun x H1=>∃p xs,x= .ref p/\H1 p=some (.tup xs)/\xs.length<=20/\(∀y∈xs,q6K y)/\∀z:Str,z.length<=50000->Q (.str z) H1
theorem pe_ft (hg:X.A.guards=some [])(hu:X.A.units+8<cLine)(he:PE X e te):PE X (.FormattedValue e 114 none pos) (tFt te):=by
 intro pins s σ H Q I h
 refine wpAny_FormattedValue_repr (thn (he pins s σ H _ I h) fun v s1 ⟨x,H1,I1,rx,p,xs,ep,hp,hl,hx,q⟩=>?_)
 subst ep
 cases rx
 obtain⟨_,its,r,o,ho,hc,n,hd⟩:=(show q0l X.prog X.w H1 s1.heap p (.tup xs) from I1.hok p _ hp)
 obtain⟨ds,j1,j2,j3,j4,j5,j6⟩:=q5v (h:=s1.heap) r hx
 have big:=qF
 have hz:(PyData.shown (.tuple ds)).length<=50000:=by
  show(tupleText (PyData.shownAll ds)).length<=50000
  have:=q4D (ts:=PyData.shownAll ds)
  omega
 refine pyReprObj_of_reads (h₀:=s1.heap) (d:= .tuple ds) (as:=[]) (.tuple ho hc hd (by simpa using j1)) (by show PyData.showableAll ds=true;exact j2) (fun z=>by rw[show PyData.hasDict (.tuple ds)=PyData.hasDictAll ds from rfl,j3] at z;cases z) hg
  (by show X.A.units+(PyData.depthAll ds+1)<cLine;rw[j6];omega) (fun _ _ z=>z) (fun h' u tk hk=>?_) (by omega)
 exact formatField_str (fun t' tk'=>⟨.str _,H1,(I1.kept (t':=tk') hk),⟨_,rfl⟩,q _ hz⟩) (by omega)
end
structure Caught (X:Cx)(pins:List (Addr×Obj))(a:Addr)(cls:Value)(od:Option Addr)(σ:St)(H:Hp)(s:Shared):Prop where
 inv:Inv X pins σ H s
 fly:FlyX X pins a cls od H s.heap
section
variable {X:Cx}{pins:List (Addr×Obj)}{a:Addr}{cls:Value}{od:Option Addr}{σ:St}{H:Hp}{s:Shared}{h':Heap}
theorem Caught.opened (c:Caught X pins a cls od σ H s)(hx:X.ex=[]):∃base a0,Heap.FlyingW base X.stack a cls a0 s.heap/\∀h5,Heap.FlyingW base X.stack a cls a0 h5->q1n h5 a od->s.heap.UpToSlots h5->Caught X pins a cls od σ H {s with heap:=h5}:=by
 obtain⟨J,fl⟩:=c
 obtain⟨oe,vs,T,oT,ts',a0,j1,j2,j3,j4,j6,j7,j8,j9,hT0,hTH,hTp⟩:=fl.ex
 have st:(PySem.W.hideAll s.heap (a::T::frs X.stack)).StaysIn s.heap:=fun b o w=>zbQ _ w
 have two:∀{p:Addr->Prop},p a->p T->∀b∈([a,T]:List Addr),p b:=fun h1 h2 b hb=>by
  rcases zx.mp hb with rfl|hb
  ·exact h1
  ·rw [zp.mp hb];exact h2
 have ff:=zbZ (as:=a::T::frs X.stack) J.stack (fun env he b hb=>zw _ (zw _ (q9g _ env he b hb)))
 refine⟨_,a0,⟨st,zaY _ zae,ff,oe,vs,T,oT,ts',j1,j2,j3,j4,zaY _ (zw _ zae),j6,j7,j8,j9⟩,fun h5 f D5 up=>?_⟩
 obtain⟨f1,f2,f3,oe2,vs2,T2,oT2,ts2,i1,i2,i3,i4,i5,i6,i7,i8,i9⟩:=f
 have Z:Inv X pins σ H {s with heap:=h5}:=by
  refine J.noted (as:=[a,T]) up (fun b o w hb hc=>f1 b o (zaM _ w fun y=>?_)) (two (fun o w=>by rw[j1] at w;cases w;exact⟨_,j3⟩) (fun o w=>by rw[j7] at w;cases w;exact⟨_,j8⟩)) (two fl.new hT0) (two fl.free hTH) (two fl.pn hTp)
  rcases zx.mp y with y|y
  ·exact hb (by rw[y];simp)
  ·rcases zx.mp y with y|y
   ·exact hb (by rw[y];simp)
   ·exact hc y
 have hT2:X.s₀.heap.get? T2=none/\H T2=none/\∀p∈X.pn++pins,p.1≠T2:=by
  by_cases eT:T2=T
  ·rw [eT];exact⟨hT0,hTH,hTp⟩
  have hn:s.heap.get? T2=none:=by
   cases q:s.heap.get? T2 with
   |none=>rfl
   |some o=>
    by_cases hb:T2∈frs X.stack
    ·obtain ⟨o2,e2,d2⟩:=J.frame_data hb
     obtain⟨sl,e3⟩:=up T2 o2 e2 d2
     rw[i7] at e3
     cases e3
     exact absurd i8 (d2 ts2)
    ·have:=zaM (l:=a::T::frs X.stack) q (fun z=>by
      rcases zx.mp z with z|z
      ·exact i6 z
      ·rcases zx.mp z with z|z
       ·exact eT z
       ·exact hb z)
     rw[i5] at this;cases this
  exact⟨J.zero hn hx,J.hok.none_of hn,fun p hp z=>by have:=(J.pin p hp).1;rw[z,hn] at this;cases this⟩
 exact⟨Z,⟨⟨oe2,vs2,T2,oT2,ts2,a0,i1,i2,i3,i4,i6,i7,i8,i9,hT2.1,hT2.2.1,hT2.2.2⟩,fl.new,fl.free,fl.pn,D5⟩⟩
theorem Caught.type {M:Model}(c:Caught X pins a cls od σ H s):PySem.W.Looks M s.heap (typeOf (.ref a)) cls:=by
 obtain⟨oe,vs,T,oT,ts',a0,j1,j2,_⟩:=c.fly.ex
 exact j2.1▸(PySem.W.Looks.ld j1).andThen .now
end
abbrev TH:=Value->Option Addr->TS
def PH (X:Cx)(hs:List ExceptHandler)(t:TH):Prop:=
 ∀(pins:List (Addr×Obj)) (s:Shared) (σ:St) (H:Hp) (D:Ends) (a:Addr) (cls:Value) (od:Option Addr),Caught X pins a cls od σ H s->t cls od D σ H->wpAny (model X.prog X.w) X.A (handleBy (.ref a) X.env hs) (SP X pins D) X.xe s
def tTryH (tb:TSx)(th:TH):TS:=fun D σ H=>tb D (fun σ' cls od H'=>th cls od D σ' H') σ H
theorem q8w {X:Cx}{body:List Stmt}{h0:ExceptHandler}{hs:List ExceptHandler}{tb:TSx}{th:TH}{pos:Pos}(hst:X.stack=X.env::X.outer)(hfr:X.env.frame=some X.env.locals)(hx:X.ex=[])
  (hb:PSsx X body tb)(hh:PH X (h0::hs) th):PS X (.Try body (h0::hs) [] [] pos) (tTryH tb th):=by
 intro pins s σ H D I h
 refine wpAny_Try_except (zZ (hb pins s σ H D _ I h) (fun f s1 z=>?_) (fun e s1 z=>?_))
 ·cases f with
  |next=>exact zbu z
  |ret v=>exact z
  |brk=>exact z
  |cont=>exact z
 ·obtain ⟨σ',a,cls,od,H',rfl,J,fl,z⟩:=z
  obtain⟨base,a0,fly,back⟩:=(Caught.mk J fl).opened hx
  rw[hst] at fly back
  refine qbD (by rw[<-hst];exact I.ok.frames) hfr fly fl.dict fun h4 held D4 up4=>?_
  refine q8W held D4 fun h5 fly5 D5 up5=>?_
  exact hh pins _ σ' H' D a cls od (back h5 fly5 D5 (up4.trans up5)) z
structure CalX (P:Program)(w:World)(K:W.Frag)(mg:Str->Option Value)(base:Heap)(k:Nat)(x:Str)(ps:List Str)(sp:Sp):Prop where
 ex:∃f fd,FnOk P w K mg base (CXf P w) k f fd ps sp/\mg x=some (.ref f)/\PySem.W.keepIn K (.ref f)=true/\q1U K fd ps []
section
variable {P:Program}{w:World}{K:W.Frag}{mg:Str->Option Value}{base:Heap}
theorem Laid.calX {x:Str}{st:Stmt}{N ps:List Str}{k:Nat}{sp:Sp}(L:Laid K mg x st ps)(S:FnScope N ps (qf st))(len:∀vs H Q E,sp vs H Q E->vs.length=ps.length)
  (hbody:∀(f:Addr) (cdv:Value) (A:Around) (outer:List Env) (s:Shared) (H:Hp) (vs:List V) (Q:VK) (E:XK),Room k (A.deeper (envOfC x (qf st) s.heap.objs.size f cdv))->sp vs H Q E->
   ∃t,PSs (cxOf (CXf P w) P w K mg base N x (qf st) f cdv A outer s H E) (q0e st) t/\t {nx:=fun _ H'=>Q .non H',rt:=Q} (start N vs) H):CalX P w K mg base (k+1) x ps sp:=by
 obtain⟨f,fd,F,m,b⟩:=L.ex
 refine⟨f,fd,?_,m,F.kp,b⟩
 obtain⟨oc,od,kV,doc,pm,an,cdv,ct,osl,rfl,lk,hcd⟩:=F.ex
 exact fn_of lk hcd S len fun A outer s H vs Q E hr hsp=>hbody f cdv A outer s H vs Q E hr hsp
end
section
variable {X:Cx}{k k':Nat}{x:Str}{ps:List Str}{sp:Sp}{p pos:Pos}{e:Expr}{es:List Expr}{t:TA}{E:XK}{st:Stmt}{ds ds':List Value}{dvs:List V}
theorem q8H (c:CalX X.prog X.w X.K X.mg X.base k x ps sp)(hx:q3i (CXf X.prog X.w) X E)(hr:Room k' X.A)(hk:k<=k')(hg:Gl X x)(ha:PA X (e::es) t)(hdb:(x==("__debug__":Str))=false:=by decide)(he:starEach (e::es) X.env=(false,eval e X.env)::starEach es X.env:=by rfl)
  (hpl:(backTo pos (starEach es X.env)).any (·.1)=false:=by rfl):PE X (.Call (.Name x p) (e::es) [] pos) (q87 sp [] E t):=by
 obtain⟨f,fd,F,m,kp,b⟩:=c.ex
 exact q8G F (hr.mono hk) hg m kp b .nil hx ha hdb he hpl
theorem q6Y (c:CalX X.prog X.w X.K X.mg X.base k x ps sp)(hX:X.ex=[])(hr:Room k' X.A)(hk:k<=k')(hg:Gl X x)(ha:PA X.nox (e::es) t)(hdb:(x==("__debug__":Str))=false:=by decide)(he:starEach (e::es) X.env=(false,eval e X.env)::starEach es X.env:=by rfl)
  (hpl:(backTo pos (starEach es X.env)).any (·.1)=false:=by rfl):PEx X (.Call (.Name x p) (e::es) [] pos) (qbR sp [] t):=by
 obtain⟨f,fd,F,m,kp,b⟩:=c.ex
 exact qaj F (hr.mono hk) hg m kp b .nil hX ha hdb he hpl
theorem pe_nox {te:TE}(h:PE X.nox e te):PE X e te:=fun pins s σ H Q I q=>by
 refine zZ (h pins s σ H Q (I.wish _) q) (fun v s1 ⟨y,H1,I1,r1,q1⟩=>⟨y,H1,I1.unwish,r1,q1⟩) fun _ _ z=>False.elim z
theorem ps_nox {st:Stmt}{t:TS}(h:PS X.nox st t):PS X st t:=fun pins s σ H D I q=>by
 refine zZ (h pins s σ H D (I.wish _) q) (fun f s1 z=>?_) fun _ _ z=>False.elim z
 exact SP.unwish z
theorem qcg {C:Addr}{D:Ends}{σ:St}{H:Hp}(q:t σ H fun vs H1=>vs.length<=sizeLine/\E (.ref C) none H1):qbf C E t D σ H:=q
end
section
variable {P:Program}{w:World}{K:W.Frag}{mg:Str->Option Value}{base:Heap}{N:List Str}{qual:Str}{scope:Scope}{f:Addr}{cd:Value}{A:Around}{outer:List Env}{s0:Shared}{H0:Hp}{E:XK}
theorem q8q:qbP (cxOf (CXf P w) P w K mg base N qual scope f cd A outer s0 H0 E) E:=fun pins σ H s h' e cls args I hx hE=>qa6 I hx hE
end
def qbs:Expr->Bool
 | .Starred .. =>false
 |_=>true
theorem q4f {e:Expr}{es:List Expr}{env:Env}(h:qbs e=true):starEach (e::es) env=(false,eval e env)::starEach es env:=by
 cases e<;>first|rfl|cases h
theorem pa_c {X:Cx}{e:Expr}{es:List Expr}{te:TE}{t:TA}(ha:PE X e te)(hr:PA X es t)(h:qbs e=true:=by rfl):PA X (e::es) (qc0 te t):=qa ha hr (q4f h)
end L2
namespace L2
open PySem PySem.Spec PySem.Calls PyProof.Rows PySem.W Builtin Builtin.ObjectAttr Builtin.Getset_descriptor
end L2
namespace L2
open PySem PySem.Spec PySem.Calls PyProof.Rows PySem.W Builtin Builtin.ObjectAttr
end L2
namespace L2
open PySem PySem.Spec PySem.Calls PyProof.Rows PySem.W Builtin Builtin.ObjectAttr
end L2
set_option maxHeartbeats 1000000
namespace L2
open PySem PySem.Spec PySem.Calls PyProof.Rows PySem.W Builtin Builtin.ObjectAttr Builtin.Getset_descriptor
end L2
namespace L2
open PySem PySem.Spec PyProof.Rows
end L2
namespace L2
open PySem PySem.Spec PyProof.Rows
end L2
namespace L2
open PySem PySem.Spec PyProof.Rows
end L2
namespace L2
open PySem PySem.Spec PyProof.Rows
end L2
namespace L2
open PySem PySem.Spec PyProof.Rows
end L2
namespace L2
open PySem PySem.Spec PyProof.Rows
end L2
namespace L2
open PySem PySem.Spec PyProof.Rows
section
variable {κ:Type}[DecidableEq κ]
def valV (kvs:List (κ×V))(k:κ):Option V:=(kvs.find? fun kv=>decide (kv.1=k)).map (·.2)
def putK (kvs:List (κ×V))(k:κ)(v:V):List (κ×V):=
 if (kvs.any fun kv=>decide (kv.1=k))=true then kvs.map (fun kv=>if kv.1=k then(kv.1,v) else kv) else kvs++[(k,v)]
theorem q3n {p:κ×V}{r:List (κ×V)}{k:κ}(e:p.1=k):valV (p::r) k=some p.2:=by simp[valV,List.find?_cons,e]
theorem q3o {p:κ×V}{r:List (κ×V)}{k:κ}(e:¬p.1=k):valV (p::r) k=valV r k:=by simp[valV,List.find?_cons,e]
theorem q3p (k:κ):∀kvs:List (κ×V),(kvs.any fun kv=>decide (kv.1=k))=(valV kvs k).isSome
 |[]=>rfl
 |p::r=>by
  rw[List.any_cons]
  by_cases e:p.1=k
  ·simp only[q3n e,decide_eq_true e,Bool.true_or,Option.isSome_some]
  ·rw [q3o e,zn e,zcy];exact q3p k r
theorem q3X (kvs:List (κ×V))(k:κ)(v:V):(putK kvs k v).length<=kvs.length+1:=by
 unfold putK
 split
 ·rw [yC];omega
 ·rw [zm,zac,zcS];omega
theorem RelO.isSome_eq {o:Option V}{u:Option Value}(r:RelO o u):o.isSome=u.isSome:=by
 cases o with
 |none=>cases u with
  |none=>rfl
  |some _=>exact(show False from r).elim
 |some _=>cases u with
  |none=>exact(show False from r).elim
  |some _=>rfl
theorem KV.val {kvs:List (κ×V)}{vs:List (κ×Value)}(r:KV kvs vs)(k:κ):RelO (valV kvs k) (valueAt vs k):=by
 unfold KV at r
 induction r with
 |nil=>exact True.intro
 | @cons p q ps qs h t ih=>
  obtain⟨h1,h2⟩:=h
  by_cases e:p.1=k
  ·have e':q.1=k:=h1.symm.trans e
   have b:valueAt (q::qs) k=some q.2:=by simp[valueAt,List.find?_cons,e']
   rw[q3n e,b];exact h2
  ·have e':¬q.1=k:=fun z=>e (h1.trans z)
   have b:valueAt (q::qs) k=valueAt qs k:=by simp[valueAt,List.find?_cons,e']
   rw[q3o e,b];exact ih
theorem KV.any {kvs:List (κ×V)}{vs:List (κ×Value)}(r:KV kvs vs)(k:κ):(kvs.any fun kv=>decide (kv.1=k))=vs.any fun kv=>decide (kv.1=k):=by
 unfold KV at r
 induction r with
 |nil=>rfl
 |cons h t ih=>rw[List.any_cons,List.any_cons,ih,h.1]
theorem KV.repl {kvs:List (κ×V)}{vs:List (κ×Value)}(r:KV kvs vs)(k:κ){y:V}{u:Value}(ry:RelV y u):
  KV (kvs.map fun kv=>if kv.1=k then(kv.1,y) else kv) (vs.map fun kv=>if kv.1=k then(kv.1,u) else kv):=by
 unfold KV at r ⊢
 induction r with
 |nil=>exact .nil
 | @cons p q ps qs h t ih=>
  rw[zam,zam]
  refine .cons ?_ ih
  obtain⟨h1,h2⟩:=h
  by_cases e:p.1=k
  ·rw [zi e,zi (h1.symm.trans e)];exact⟨h1,ry⟩
  ·rw [zd e,zd (fun z=>e (h1.trans z))];exact⟨h1,h2⟩
theorem KV.put {kvs:List (κ×V)}{vs:List (κ×Value)}(r:KV kvs vs)(k:κ){y:V}{u:Value}(ry:RelV y u):KV (putK kvs k y) (stored vs k u):=by
 unfold putK stored
 rw[r.any k]
 by_cases e:(vs.any fun kv=>decide (kv.1=k))=true
 ·rw [zi e,zi e];exact r.repl k ry
 ·rw [zd e,zd e];exact Paired.snoc r ⟨rfl,ry⟩
theorem KV.length {kvs:List (κ×V)}{vs:List (κ×Value)}(r:KV kvs vs):kvs.length=vs.length:=Paired.length r
end
theorem q93 {P:Program}{w:World}{k:Key}{u:Value}(r:RelV (kV k) u):(qX P w).is k u=true:=by
 cases k with
 |inl i=>obtain⟨t,e⟩:=(show∃t,u=Value.int i t from r);subst e;exact q6x P w i t
 |inr x=>obtain⟨t,e⟩:=(show∃t,u=Value.str x t from r);subst e;exact q6w P w x t
theorem q5Y {P:Program}{w:World}:∀{ks:List Key} {us:List Value},Vals (ks.map kV) us->ItemsAre (qX P w) ks us
 |[],_,r=>by rw[List.map_nil] at r;cases r;exact .nil
 |k::ks,_,r=>by
  rw[zam] at r
  cases r with
  |cons h t=>exact .cons (q93 h) (q5Y t)
abbrev KT (H:Hp):List (List Key×V)->List (List Key×Addr×Value)->Prop:=Paired fun p q=>p.1=q.1/\H q.2.1=some (.tup (p.1.map kV))/\RelV p.2 q.2.2
theorem KT.val {H:Hp}{kvs:List (List Key×V)}{xs:List (List Key×Addr×Value)}(r:KT H kvs xs)(k:List Key):RelO (valV kvs k) ((atKey xs k).map (·.2)):=by
 induction r with
 |nil=>exact True.intro
 | @cons p q ps qs h t ih=>
  obtain⟨h1,_,h2⟩:=h
  by_cases e:p.1=k
  ·have e':q.1=k:=h1.symm.trans e
   have b:atKey (q::qs) k=some q.2:=by simp[atKey,List.find?_cons,e']
   rw[q3n e,b];exact h2
  ·have e':¬q.1=k:=fun z=>e (h1.trans z)
   have b:atKey (q::qs) k=atKey qs k:=by simp[atKey,List.find?_cons,e']
   rw[q3o e,b];exact ih
theorem KT.repl {H:Hp}{kvs:List (List Key×V)}{xs:List (List Key×Addr×Value)}(r:KT H kvs xs)(k:List Key){y:V}{u:Value}(ry:RelV y u):
  KT H (kvs.map fun kv=>if kv.1=k then(kv.1,y) else kv) (xs.map (putAt k u)):=by
 induction r with
 |nil=>exact .nil
 | @cons p q ps qs h t ih=>
  rw[zam,zam]
  refine .cons ?_ ih
  obtain⟨h1,h2,h3⟩:=h
  unfold putAt
  by_cases e:p.1=k
  ·rw [zi e,zi (h1.symm.trans e)];exact⟨h1,h2,ry⟩
  ·rw [zd e,zd (fun z=>e (h1.trans z))];exact⟨h1,h2,h3⟩
theorem KT.put {H:Hp}{kvs:List (List Key×V)}{xs:List (List Key×Addr×Value)}(r:KT H kvs xs)(k:List Key){b:Addr}{y:V}{u:Value}(hb:H b=some (.tup (k.map kV)))(ry:RelV y u):
  KT H (putK kvs k y) (storedH xs k b u):=by
 have e:(kvs.any fun kv=>decide (kv.1=k))=(atKey xs k).isSome:=by
  rw[q3p,(r.val k).isSome_eq,Option.isSome_map]
 unfold putK storedH
 rw[e]
 by_cases q:(atKey xs k).isSome=true
 ·rw [zi q,zi q];exact r.repl k ry
 ·rw [zd q,zd q];exact Paired.snoc r ⟨rfl,hb,ry⟩
theorem KT.keeps {H H':Hp}{kvs:List (List Key×V)}{xs:List (List Key×Addr×Value)}(r:KT H kvs xs)(ht:∀b ys,H b=some (.tup ys)->H' b=some (.tup ys)):KT H' kvs xs:=
 Paired.mapP r fun _ _ z=>⟨z.1,ht _ _ z.2.1,z.2.2⟩
section
variable {P:Program}{w:World}{H:Hp}{h:Heap}{a:Addr}
theorem rd_of {u:HO}(ok:HOk P w H h)(e:Rd H a u):q0l P w H h a u:=e.ok ok
theorem q7U {kvs:List (Key×V)}(ok:HOk P w H h)(e:Rd H a (.dK kvs)):kvs.length<=sizeLine/\(a==sysModules)=false/\∃vs,KV kvs vs/\h.DictOf (qX P w) a vs:=
 show q0l P w H h a (.dK kvs) from rd_of ok e
theorem dk_of {kvs:List (Key×V)}(ok:HOk P w H h)(e:H a=some (.dK kvs)):kvs.length<=sizeLine/\(a==sysModules)=false/\∃vs,KV kvs vs/\h.DictOf (qX P w) a vs:=q7U ok (.inl e)
theorem q3g {ks:List Key}(ok:HOk P w H h)(e:H a=some (.tup (ks.map kV))):(tupleKind (qX P w)).is h ks a:=by
 obtain⟨_,its,r,o,h1,h2,n,h3⟩:=(show q0l P w H h a (.tup (ks.map kV)) from ok a _ e)
 exact⟨o,its.toArray,n,h1,h2,h3,by simpa using q5Y r⟩
theorem q7T {kvs:List (List Key×V)}(ok:HOk P w H h)(e:Rd H a (.dT kvs)):kvs.length<=sizeLine/\(a==sysModules)=false/\
  ∃xs,KT H kvs xs/\h.DictOfH (tupleKind (qX P w)) a xs:=by
 obtain⟨z,y,xs,r,o,es,ep,h1,h2,h3,h4,h5⟩:=(show q0l P w H h a (.dT kvs) from rd_of ok e)
 refine⟨z,y,xs,r,o,es,ep,h1,h2,h3,h4,fun x hx=>?_,h5⟩
 have all:∀{l:List (List Key×V)} {m:List (List Key×Addr×Value)},KT H l m->∀x∈m,(tupleKind (qX P w)).is h x.1 x.2.1:=by
  intro l m q
  induction q with
  |nil=>intro x hx;exact nomatch hx
  | @cons p q ps qs hq t ih=>
   intro x hx
   rcases zx.mp hx with e|hx
   ·subst e
    exact q3g ok (by rw[<-hq.1];exact hq.2.1)
   ·exact ih x hx
 exact all r x hx
theorem dt_of {kvs:List (List Key×V)}(ok:HOk P w H h)(e:H a=some (.dT kvs)):kvs.length<=sizeLine/\(a==sysModules)=false/\
  ∃xs,KT H kvs xs/\h.DictOfH (tupleKind (qX P w)) a xs:=q7T ok (.inl e)
end
def DGet (H:Hp)(a:Addr)(y:V)(r:Option V):Prop:=
 (∃kvs k,Rd H a (.dK kvs)/\y=kV k/\r=valV kvs k)\/∃kvs k b,Rd H a (.dT kvs)/\y= .ref b/\H b=some (.tup (k.map kV))/\r=valV kvs k
def DPut (H:Hp)(a:Addr)(y v:V)(H':Hp):Prop:=
 (∃kvs k,H a=some (.dK kvs)/\y=kV k/\kvs.length<sizeLine/\H'=upd H a (.dK (putK kvs k v)))\/
 ∃kvs k b,H a=some (.dT kvs)/\y= .ref b/\H b=some (.tup (k.map kV))/\kvs.length<sizeLine/\H'=upd H a (.dT (putK kvs k v))
theorem DPut.t {H:Hp}{a b:Addr}{kvs:List (List Key×V)}{k:List Key}{v:V}(e:H a=some (.dT kvs))(eb:H b=some (.tup (k.map kV)))(hl:kvs.length<sizeLine):
  DPut H a (.ref b) v (upd H a (.dT (putK kvs k v))):= .inr ⟨kvs,k,b,e,rfl,eb,hl,rfl⟩
section
variable {X:Cx}{pins:List (Addr×Obj)}{σ:St}{H:Hp}{s:Shared}{a:Addr}{y v:V}{u r:Value}{o:Option V}{A:Around}{E:Value->Shared->Prop}
theorem Inv.big (I:Inv X pins σ H s):sysModules<s.heap.objs.size:=by
 have h:mainGlobals<s.heap.objs.size:=(I.mod.glob.keeps I.bk).lt
 exact Nat.lt_trans (by decide) h
theorem q9z {Q:Value->Shared->Prop}(hu:A.units+1<cLine)(I:Inv X pins σ H s)(g:DGet H a y (some v))(ry:RelV y u)(h:∀w' s',Inv X pins σ H s'->RelV v w'->Q w' s'):
  wpAny (model X.prog X.w) A (getItem (.ref a) u) Q E s:=by
 rcases g with⟨kvs,k,e,ey,l⟩|⟨kvs,k,b,e,ey,eb,l⟩
 ·subst ey
  obtain⟨z,hd,vs,rel,dd⟩:=q7U I.hok e
  obtain⟨w',hw,rw'⟩:=RelO.some_of (v:=v) (o:=valueAt vs k) (by rw[l];exact rel.val k)
  exact wpAny_getItem_of (q93 ry) dd.mapOf hw (h w' _ (I.tok _) rw')
 ·subst ey
  cases(show u=Value.ref b from ry)
  obtain⟨z,hd,xs,rel,dd⟩:=q7T I.hok e
  obtain⟨w',hw,rw'⟩:=RelO.some_of (v:=v) (o:=(atKey xs k).map (·.2)) (by rw[l];exact rel.val k)
  obtain⟨p,hp,hp2⟩:=zaP.mp hw
  refine wpAny_getItem_heap (tupleKind_room_in1 hu) (q3g I.hok eb) dd hp ?_
  rw[hp2]
  exact h w' _ (I.tok _) rw'
theorem qdb {Q:Value->Shared->Prop}(hu:A.units+1<cLine)(I:Inv X pins σ H s)(g:DGet H a y o)(ry:RelV y u)(h:∀s',Inv X pins σ H s'->Q (.bool (!o.isSome)) s'):
  wpAny (model X.prog X.w) A (compareOp .NotIn u (.ref a)) Q E s:=by
 rcases g with⟨kvs,k,e,ey,l⟩|⟨kvs,k,b,e,ey,eb,l⟩
 ·subst ey
  obtain⟨z,hd,vs,rel,dd⟩:=q7U I.hok e
  refine wpAny_notIn_of (q93 ry) hd dd.mapOf ?_
  rw[<-(rel.val k).isSome_eq,<-l]
  exact h _ (I.tok _)
 ·subst ey
  cases(show u=Value.ref b from ry)
  obtain⟨z,hd,xs,rel,dd⟩:=q7T I.hok e
  refine wpAny_notIn_heap (tupleKind_room_in1 hu) (q3g I.hok eb) hd dd ?_
  have q:=(rel.val k).isSome_eq
  rw[Option.isSome_map] at q
  rw[<-q,<-l]
  exact h _ (I.tok _)
theorem q6D {h':Heap}{t':Nat}{ob:HO}(I:Inv X pins σ H s)(mu:Mut (H a))(hs:Heap.SameBut a s.heap h')(he:∃q,h'.get? a=some q)(new:q0l X.prog X.w (upd H a ob) h' a ob):
  Inv X pins σ (upd H a ob) {s with heap:=h',toks:=t'}:=
 I.write (x:=a) (e:=a) mu (.inl rfl) (fun b q hb z=>(hs.2 b hb).trans z) he new
theorem dk_new {P:Program}{w:World}{H':Hp}{h':Heap}{kvs:List (Key×V)}{vs:List (Key×Value)}(z:kvs.length<=sizeLine)(hd:(a==sysModules)=false)(rel:KV kvs vs)(dd:h'.DictOf (qX P w) a vs):
  q0l P w H' h' a (.dK kvs):=⟨z,hd,vs,rel,dd⟩
theorem q9y {H':Hp}{Q:Unit->Shared->Prop}(hu:A.units+1<cLine)(I:Inv X pins σ H s)(g:DPut H a y v H')(ry:RelV y u)(rv:RelV v r)(h:∀s',Inv X pins σ H' s'->Q () s'):
  wpAny (model X.prog X.w) A (setItem (.ref a) u r) Q E s:=by
 rcases g with⟨kvs,k,e,ey,l,eH⟩|⟨kvs,k,b,e,ey,eb,l,eH⟩
 ·subst ey eH
  obtain⟨z,hd,vs,rel,dd⟩:=dk_of I.hok e
  have hz:vs.length<=sizeLine:=by rw[<-rel.length];exact z
  have hl:(putK kvs k v).length<=sizeLine:=by have:=q3X kvs k v;omega
  refine wpAny_setItem_pairs (hsz:=hz) (q93 ry) dd fun h' dd' hs=>h _ ?_
  have he:∃q,h'.get? a=some q:=let ⟨q,_,_,hq,_⟩:=dd';⟨q,hq⟩
  exact q6D I (by rw[e];exact True.intro) hs he (dk_new hl hd (rel.put k rv) dd')
 ·subst ey eH
  cases(show u=Value.ref b from ry)
  obtain⟨z,hd,xs,rel,dd⟩:=dt_of I.hok e
  have hz:xs.length<=sizeLine:=by rw[<-Paired.length rel];exact z
  have hl:(putK kvs k v).length<=sizeLine:=by have:=q3X kvs k v;omega
  refine wpAny_setItem_heap (hsz:=hz) (tupleKind_room_in1 hu) (q3g I.hok eb) dd fun h' dd' hs=>h _ ?_
  obtain⟨q,es,ep,hq,h2,h3,h4,_,h5⟩:=dd'
  refine q6D I (by rw[e];exact True.intro) hs ⟨q,hq⟩ ⟨hl,hd,_,(rel.put k eb rv).keeps fun c ys ec=>?_,q,es,ep,hq,h2,h3,h4,h5⟩
  rw[qj (q2R ec e (fun z=>nomatch z))]
  exact ec
end
def NoSl (i:Expr):Prop:=∀ov iv,subscripted i false ov iv=operate [ov,iv] (getItem ov iv)
theorem qc2 {prog:Program}{w:World}{A:Around}{E:Value->Shared->Prop}{s:Shared}{env:Env}{value slice:Expr}{pos:Pos}{T id:String}{Q:Value->Shared->Prop}
  (hl:typeLookup (.type T) "__getitem__"=pure (some (.builtin id)))(hs:NoSl slice)
  (h:wpAny (model prog w) A (eval value env) (fun o s₁=>wpAny (model prog w) A (eval slice env) (fun i s₂=>s₂.TypeIs o T/\wpAny (model prog w) A (getItem o i) Q E s₂) E s₁) E s):
  wpAny (model prog w) A (eval (.Subscript value slice pos) env) Q E s:=by
 refine Subscript_ (zZ h (fun o s₁ h₁=>zZ h₁ (fun i s₂ h₂=>?_) fun _ _ x=>x) fun _ _ x=>x)
 obtain⟨hT,h₂⟩:=h₂
 unfold subscriptTail
 refine yD ?_
 rw[getitemInPython_of_ne hT.not_modules]
 refine yD (wpAny_specialOf hT hl ?_)
 have fin:wpAny (model prog w) A (subscripted slice false o i) (fun r s₃=>wpAny (model prog w) A (letTemporaryGo value o r >>= fun _=>pure r) Q E s₃) E s₂:=by
  rw[hs o i]
  exact wpAny_operating (zZ h₂ (fun r s₃ h₃=>yD (wpAny_letTemporaryGo (zc h₃))) fun _ _ x=>x)
 first
  |exact zc (yD fin)
  |exact yD (zc (yD fin))
  |exact yD fin
theorem q6C {X:Cx}{pins:List (Addr×Obj)}{σ:St}{H:Hp}{s:Shared}{a:Addr}{y:V}{o:Option V}(I:Inv X pins σ H s)(g:DGet H a y o):s.TypeIs (.ref a) "dict":=by
 rcases g with⟨kvs,k,e,_,_⟩|⟨kvs,k,b,e,_,_,_⟩
 ·obtain ⟨_,_,vs,_,dd⟩:=q7U I.hok e
  exact dd.typeIs
 ·obtain ⟨_,_,xs,_,dd⟩:=q7T I.hok e
  exact dd.typeIs
def tDGet (td ty:TE):TE:=fun σ H Q=>td σ H fun x H1=>ty σ H1 fun y H2=>∃a v,x= .ref a/\DGet H2 a y (some v)/\Q v H2
def q86 (ty td:TE):TE:=fun σ H Q=>ty σ H fun y H1=>td σ H1 fun x H2=>∃a o,x= .ref a/\DGet H2 a y o/\Q (.bl (!o.isSome)) H2
def sDPut (td ty tv:TE):TS:=fun D σ H=>tv σ H fun v H1=>td σ H1 fun x H2=>ty σ H2 fun y H3=>∃a H4,x= .ref a/\DPut H3 a y v H4/\D.nx σ H4
section
variable {X:Cx}{o i e value:Expr}{pos pos' tpos:Pos}{td ty tv:TE}
theorem q3P (hu:X.A.units+1<cLine)(ho:PE X o td)(hi:PE X i ty)(hs:NoSl i):PE X (.Subscript o i pos) (tDGet td ty):=by
 intro pins s σ H Q I h
 refine qc2 PySem.F.slot_dict_getitem.lookup hs (thn (ho pins s σ H _ I h) fun u s1 ⟨x,H1,I1,rx,q1⟩=>thn (hi pins s1 σ H1 _ I1 q1) fun iv s2 ⟨y,H2,I2,ry,a,v,ex,g,q2⟩=>?_)
 subst ex
 obtain rfl:u=Value.ref a:=rx
 exact⟨q6C I2 g,q9z hu I2 g ry fun w' s3 I3 rw'=>⟨v,H2,I3,rw',q2⟩⟩
theorem q3S (hu:X.A.units+1<cLine)(hi:PE X i ty)(ho:PE X o td):PC X .NotIn i o (q86 ty td):=by
 intro pins s σ H Q I h
 refine thn (hi pins s σ H _ I h) fun iv s1 ⟨y,H1,I1,ry,q1⟩=>thn (ho pins s1 σ H1 _ I1 q1) fun u s2 ⟨x,H2,I2,rx,a,ov,ex,g,q2⟩=>?_
 subst ex
 obtain rfl:u=Value.ref a:=rx
 exact qdb hu I2 g ry fun s3 I3=>⟨.bl (!ov.isSome),H2,I3,rfl,q2⟩
theorem q27 (hu:X.A.units+1<cLine)(ho:PE X o td)(hi:PE X i ty)(hv:PE X value tv)(hs:swapsWith value (some (.Subscript o i pos')) pos.line X.env=pure false):
  PS X (.Assign [.Subscript o i pos'] value pos) (sDPut td ty tv):=by
 intro pins s σ H D I h
 refine wpAny_Assign_Subscript (thn (hv pins s σ H _ I h) fun r s1 ⟨v,H1,I1,rv,q1⟩=>thn (ho pins s1 σ H1 _ I1 q1) fun u s2 ⟨x,H2,I2,rx,q2⟩=>thn (hi pins s2 σ H2 _ I2 q2) fun iv s3 ⟨y,H3,I3,ry,a,H4,ex,g,q3⟩=>?_) hs
 subst ex
 obtain rfl:u=Value.ref a:=rx
 exact q9y hu I3 g ry rv fun s4 I4=>⟨σ,H4,I4,q3⟩
end
theorem q7e {P:Program}{w:World}{H:Hp}(h:Heap)(hb:sysModules<h.objs.size):q0l P w H (h.push {cls:= .type "dict",data:= .dict #[]}) h.objs.size (.dT []):=
 ⟨zak _,beq_eq_false_iff_ne.mpr (Ne.symm (zC hb)),[],.nil,_,#[],0,zB _ rfl,⟨rfl,rfl,rfl⟩,rfl,rfl,List.nodup_nil⟩
def qbi:TE:=fun _ H Q=>∀p,H p=none->Q (.ref p) (upd H p (.dT []))
section
variable {X:Cx}{pos:Pos}
theorem q3v:PE X (.Dict [] [] pos) qbi:=fun pins s σ H Q I h=>
 wpAny_Dict_empty ⟨.ref s.heap.objs.size,_,I.laid (a:=s.heap.objs.size) (o:= .dT []) (t':=s.toks) (fun _ _ q=>zg _ q) (ze _) (q7e s.heap I.big),rfl,h _ (I.hok.fresh (ze _))⟩
end
def qbg:List (TE×TE)->St->Hp->(List (V×V)->Hp->Prop)->Prop
 |[],_,H,Q=>Q [] H
 |(tk,tv)::r,σ,H,Q=>tk σ H fun x H1=>tv σ H1 fun y H2=>qbg r σ H2 fun ps H3=>Q ((x,y)::ps) H3
abbrev VV:List (V×V)->List (Value×Value)->Prop:=Paired fun p q=>RelV p.1 q.1/\RelV p.2 q.2
def PPs (X:Cx)(pos:Pos)(keys:List (Option Expr))(values:List Expr)(trs:List (TE×TE)):Prop:=
 ∀(pins:List (Addr×Obj)) (s:Shared) (σ:St) (H:Hp) (Q:List (V×V)->Hp->Prop),Inv X pins σ H s->qbg trs σ H Q->
  wpAny (model X.prog X.w) X.A (evalPairs (pairTrees keys values X.env pos)) (fun vs s'=>∃ps H',Inv X pins σ H' s'/\VV ps vs/\Q ps H') X.xe s
theorem qcm {X:Cx}{pos:Pos}:PPs X pos [] [] []:=fun pins s σ H Q I h=>pairTrees_nil_walk ⟨[],H,I,.nil,h⟩
theorem qaf {X:Cx}{pos:Pos}{k v:Expr}{ks:List (Option Expr)}{vs:List Expr}{tk tv:TE}{trs:List (TE×TE)}(hk:PE X k tk)(hv:PE X v tv)(hr:PPs X pos ks vs trs):
  PPs X pos (some k::ks) (v::vs) ((tk,tv)::trs):=fun pins s σ H Q I h=>
 pairTrees_cons_walk (thn (hk pins s σ H _ I h) fun u s1 ⟨x,H1,I1,rx,q1⟩=>thn (hv pins s1 σ H1 _ I1 q1) fun w2 s2 ⟨y,H2,I2,ry,q2⟩=>
  thn (hr pins s2 σ H2 _ I2 q2) fun ws s3 ⟨ps,H3,I3,rel,q3⟩=>⟨(x,y)::ps,H3,I3,.cons ⟨rx,ry⟩ rel,q3⟩)
def mergeK (kvs more:List (Key×V)):List (Key×V):=more.foldl (fun acc kv=>putK acc kv.1 kv.2) kvs
end L2
namespace Att
open PySem PySem.W PySem.Calls PyProof.Rows
end Att
namespace L2
open PySem PySem.Spec PyProof.Rows
end L2
namespace L2
open PySem PySem.Spec PyProof.Rows
theorem q3D:∀{ps:List Addr} {us:List Value},Vals (ps.map V.ref) us->us=ps.map Value.ref
 |[],_,.nil=>rfl
 |p::ps,_,.cons r t=>by
  have r':=(show _=Value.ref p from r)
  rw[r',q3D t]
  rfl
end L2
namespace DI
open PySem PyProof.Rows
section
variable {prog:Program}{w:World}{A:Around}{E:Value->Shared->Prop}{s:Shared}{d it v:Addr}{o:Obj}{es:Array DictEntry}{ep i:Nat}
theorem ty (ho:s.heap.get? d=some o)(hx:o.ExactDict):s.TypeIs (.ref d) "dict":=⟨o,ho,hx.1⟩
theorem keys {Q:Value->Shared->Prop}(hd:(d==sysModules)=false)(ho:s.heap.get? d=some o)(hx:o.ExactDict)(hdat:o.data= .dict es ep)
  (hQ:Q (.ref s.heap.objs.size) {s with heap:=s.heap.push {cls:= .type "dict_keyiterator",data:= .fields #[.ref d,.int 0 0,.int es.size 0,.int ep 0]}}):wpAny (model prog w) A (pyIter (.ref d)) Q E s:=by
 have hT:=ty ho hx
 refine zcF hT F.slot_dict_iter (zap F.slot_dict_iter hT F.entry_dict_iter ?_ (F.args_dict_iter_1 _))
 unfold Builtin.«dict.__iter__» Builtin.Dict.dictSlotNone Builtin.Dict.showsAll
 refine yD (yD (wpAny_notOrdered_dict hT (zc (yD ?_))))
 refine zc (yD ?_)
 dsimp only
 rw[zd (by intro z;rw[hd] at z;cases z)]
 refine zc (yD (za5 ho hdat (yD (zbx ho hdat ?_))))
 refine yD (zad (zc ⟨_,rfl,"dict_keyiterator",_,⟨_,zB _ rfl,rfl⟩,zaI.lookup,?_⟩))
 simpa[rawInt] using hQ
theorem q90 {Q:Option Value->Shared->Prop}(hit:s.heap.IsKeyIter it d i es.size ep)(ho:s.heap.get? d=some o)(hdat:o.data= .dict es ep)(hi:i<es.size)
  (hQ:∀h',h'.IsKeyIter it d (i+1) es.size ep->Heap.SameBut it s.heap h'->Q (some es[i].key) {s with heap:=h'}):wpAny (model prog w) A (pyNext (.ref it)) Q E s:=by
 obtain⟨oi,hoi,hc,hf⟩:=id hit
 have hT:=hit.typeIs
 unfold pyNext
 refine yD (zb1 (zan (name:=Str.ofString "__next__") hT zaI (zap zaI hT zci ?_ (zcf _))))
 refine yD (zc (yD (yD ?_)))
 first|refine yD (za6 hT (zc (yD (za8 hoi hf ?_))))|refine yD (zbn hT (zc (yD (za8 hoi hf ?_))))
 simp only[show Builtin.Dict_items.ownsTuple "dict_keyiterator"=false by decide,Bool.false_eq_true,if_false]
 show wpAny _ _ (if (Value.ref d==Value.none)=true then _ else _) _ _ s
 rw[zd (by exact zl)]
 refine yD (zc (yD (za5 ho hdat ?_)))
 rw[zd (by simp)]
 refine yD (zc (yD (zbx ho hdat ?_)))
 rw[zd (by simp)]
 refine zc ?_
 simp only[show¬((i:Int)<0) by omega,if_false,Int.toNat_natCast,Array.getElem?_eq_getElem hi]
 refine yD ?_
 first|refine yD (za6 hT (zc (yD (zb7 hT ?_))))|refine yD (zbn hT (zc (yD (zb7 hT ?_))))
 show wpAny _ _ (setField (.ref it) 1 (rawInt ((i:Int)+1)) >>= _) _ _ s
 refine yD (zaU hoi hf (by simp) ?_)
 have hit':(s.heap.update it (Obj.mapFields (·.setIfInBounds 1 (rawInt ((i:Int)+1))))).IsKeyIter it d (i+1) es.size ep:=
  ⟨_,zaC _ hoi (zaV (zaG hf _)),(zcD ..).trans hc,by rw[zaG hf];simp[rawInt]⟩
 refine yD (zaR (yD (zb7 (s:={s with heap:=s.heap.update it (Obj.mapFields (·.setIfInBounds 1 (rawInt ((i:Int)+1))))}) hit'.typeIs ?_)))
 show wpAny _ _ (pure es[i].key) _ _ _
 exact zc (zc ⟨_,rfl,zc (hQ _ hit' (za7 ..))⟩)
theorem qbF {Q:Option Value->Shared->Prop}(hh:A.handled=none)(hit:s.heap.IsKeyIter it d i es.size ep)(ho:s.heap.get? d=some o)(hdat:o.data= .dict es ep)(hi:es.size<=i)
  (hQ:∀h',Heap.ExtBut it s.heap h'->Q none {s with heap:=h'}):wpAny (model prog w) A (pyNext (.ref it)) Q E s:=by
 obtain⟨oi,hoi,hc,hf⟩:=id hit
 have hT:=hit.typeIs
 unfold pyNext
 refine yD (zb1 (zan (name:=Str.ofString "__next__") hT zaI (zap zaI hT zci ?_ (zcf _))))
 refine yD (zc (yD (yD ?_)))
 first|refine yD (za6 hT (zc (yD (za8 hoi hf ?_))))|refine yD (zbn hT (zc (yD (za8 hoi hf ?_))))
 simp only[show Builtin.Dict_items.ownsTuple "dict_keyiterator"=false by decide,Bool.false_eq_true,if_false]
 show wpAny _ _ (if (Value.ref d==Value.none)=true then _ else _) _ _ s
 rw[zd (by exact zl)]
 refine yD (zc (yD (za5 ho hdat ?_)))
 rw[zd (by simp)]
 refine yD (zc (yD (zbx ho hdat ?_)))
 rw[zd (by simp)]
 refine zc ?_
 simp only[show¬((i:Int)<0) by omega,if_false,Int.toNat_natCast,Array.getElem?_eq_none hi]
 refine yD ?_
 first|refine yD (za6 hT (zc ?_))|refine yD (zbn hT (zc ?_))
 show wpAny _ _ (setField (.ref it) 0 .none >>= _) _ _ s
 refine yD (zaU hoi hf (by simp) ?_)
 show wpAny _ _ (newExc (.type "StopIteration") [] >>= _) _ _ _
 refine yD ?_
 simp only[newExc,newTuple]
 refine yD (zad (yD (m:=firstArgMember _ _) (wpAny_of_eq (a:=Value.none) (by first|rfl|(simp only[firstArgMember];rfl)) (zad ?_ (by size_fits)))) (by size_fits))
 simp only[raiseNew]
 refine yD (wpAny_handled ?_)
 rw[show A.in1.handled=none from hh]
 refine yD (zc (wpAny_throw ?_))
 refine yD (wpAny_isInstance (b:=true) (T:="StopIteration") ⟨_,zB _ rfl,rfl⟩ isSubtype_stop ?_)
 exact zc (hQ _ (((za7 ..).extBut.push _).push _))
theorem view (d:Addr)(hd:(d==sysModules)=false):MeetsIn prog w (Builtin.«dict.items» ⟨[.ref d],[]⟩) (fun _ R s=>(∃o,s.heap.get? d=some o/\o.ExactDict)/\
   R (.ok (.ret (.ref s.heap.objs.size))) {s with heap:=s.heap.push {cls:= .type "dict_items",data:= .fields #[.ref d]}}):=
 .of_wp fun A R s ⟨⟨o,ho,hx⟩,h⟩=>by
  unfold Builtin.«dict.items» Builtin.Dict.noArgs Builtin.Dict.showsAll
  refine yD (yD (wpAny_notOrdered_dict (ty ho hx) (zc (yD ?_))))
  rw[zd (by intro z;rw[hd] at z;cases z)]
  exact zc (yD (zad (zc ⟨_,rfl,h⟩)))
theorem items {Q:Value->Shared->Prop}(hv:s.heap.IsItemsView v d)(ho:s.heap.get? d=some o)(hdat:o.data= .dict es ep)
  (hQ:Q (.ref s.heap.objs.size) {s with heap:=s.heap.push {cls:= .type "dict_itemiterator",data:= .fields #[.none,.bool false,.ref d,.int 0 0,.int es.size 0,.int ep 0,.none,.none]}}):wpAny (model prog w) A (pyIter (.ref v)) Q E s:=by
 obtain⟨ov,hov,hcv,hdv⟩:=id hv
 refine zcF hv.typeIs F.slot_dict_items_iter (zap F.slot_dict_items_iter hv.typeIs F.entry_dict_items_iter ?_ (F.args_dict_items_iter_1 _))
 unfold Builtin.«dict_items.__iter__» Builtin.Dict_items.dictOf Builtin.Dict_items.newIterator
 refine yD (zc (yD (yD (zau hov hdv (x:= .ref d) rfl (zc ?_)))))
 refine yD (yD (za5 ho hdat (yD (zbx ho hdat ?_))))
 simp only[show Builtin.Dict_items.ownsTuple "dict_itemiterator"=true by decide,if_true]
 refine zad (zc ⟨_,rfl,"dict_itemiterator",_,⟨_,zB _ rfl,rfl⟩,zav.lookup,?_⟩)
  (by simp only[sizeOk,Builtin.Dict_items.ownedTupleFields,List.size_toArray,List.length_append,List.length_cons,List.length_nil,sizeLine_eq];omega)
 simpa[rawInt,Builtin.Dict_items.ownedTupleFields] using hQ
theorem qaU {ok ov:Value}{Q:Option Value->Shared->Prop}(hit:IsItemIter s.heap it d i es.size ep ok ov)(ho:s.heap.get? d=some o)(hdat:o.data= .dict es ep)(hi:i<es.size)
  (hQ:∀h',IsItemIterOut h' it d (i+1) es.size ep es[i].key es[i].val s.heap.objs.size->h'.get? s.heap.objs.size=some {cls:= .type "tuple",data:= .seq #[es[i].key,es[i].val]}->
   (∀b o,b≠it->s.heap.get? b=some o->h'.get? b=some o)->Q (some (.ref s.heap.objs.size)) {s with heap:=h'}):wpAny (model prog w) A (pyNext (.ref it)) Q E s:=by
 obtain⟨hp,g,dr,tk,os⟩:=s
 have hT:Shared.TypeIs ⟨hp,g,dr,tk,os⟩ (.ref it) "dict_itemiterator":=⟨_,hit,rfl⟩
 unfold pyNext
 refine yD (zb1 (zan (name:=Str.ofString "__next__") hT zav (zap zav hT zcg ?_ (zb9 _))))
 refine yD (zc (yD (yD ?_)))
 first|refine yD (za0 hT (zc (yD (za8 hit rfl ?_))))|refine yD (zbk hT (zc (yD (za8 hit rfl ?_))))
 simp only[show Builtin.Dict_items.ownsTuple "dict_itemiterator"=true by decide,if_true]
 show wpAny _ _ (if (Value.ref d==Value.none)=true then _ else _) _ _ _
 rw[zd (by exact zl)]
 refine yD (zc (yD (za5 ho hdat ?_)))
 rw[zd (by simp)]
 refine yD (zc (yD (zbx ho hdat ?_)))
 rw[zd (by simp)]
 refine zc ?_
 simp only[show¬((i:Int)<0) by omega,if_false,Int.toNat_natCast,Array.getElem?_eq_getElem hi]
 refine yD ?_
 first|refine yD (za0 hT (zc (yD (zbC hT ?_))))|refine yD (zbk hT (zc (yD (zbC hT ?_))))
 show wpAny _ _ (setField (.ref it) 3 (rawInt ((i:Int)+1)) >>= _) _ _ _
 refine yD (zby hit (by simp) fun h1 e1 b1=>?_)
 replace b1:Heap.SameBut it hp h1:=b1
 replace e1:IsItemIter h1 it d (i+1) es.size ep ok ov:=by
  unfold IsItemIter
  rw[show((i+1:Nat):Int)=(i:Int)+1 by omega]
  simpa[rawInt] using e1
 have T1:Shared.TypeIs ⟨h1,g,dr,tk,os⟩ (.ref it) "dict_itemiterator":=⟨_,e1,rfl⟩
 refine yD (zaR (yD (zbC T1 (yD (zbC T1 ?_)))))
 show wpAny _ _ (Builtin.Dict_items.pairFromOwner (.ref it) 6 es[i].key es[i].val) _ _ _
 unfold Builtin.Dict_items.pairFromOwner
 refine yD (wpAny_newTuple ?_)
 have z1:h1.objs.size=hp.objs.size:=b1.1
 have lt:it<hp.objs.size:=zt hit
 have ne:hp.objs.size≠it:=zcb lt
 obtain⟨h2,eh2⟩:∃h2,h2=h1.push {cls:= .type "tuple",data:= .seq #[es[i].key,es[i].val]}:=⟨_,rfl⟩
 have e2:IsItemIter h2 it d (i+1) es.size ep ok ov:=by rw[eh2];exact zg _ e1
 have t2:h2.get? hp.objs.size=some {cls:= .type "tuple",data:= .seq #[es[i].key,es[i].val]}:=by rw[eh2,<-z1];exact zB _ rfl
 have k2:∀b o,b≠it->hp.get? b=some o->h2.get? b=some o:=fun b o hb e=>by rw[eh2];exact zg _ (b1.extBut b o hb e)
 show wpAny _ _ (Builtin.Dict_items.ownedTupleIsFree (.ref it) >>= _) _ _ ⟨h1.push _,g,dr,tk,os⟩
 rw[z1,<-eh2]
 refine yD ?_
 unfold Builtin.Dict_items.ownedTupleIsFree
 refine yD (zau e2 rfl (x:= .none) rfl (zc ?_))
 simp only[if_true]
 refine yD (zau e2 rfl (x:=ok) rfl (yD (zau e2 rfl (x:=ov) rfl (yD (zby e2 (by simp) fun h3 e3 b3=>?_)))))
 replace b3:Heap.SameBut it h2 h3:=b3
 replace e3:IsItemIter h3 it d (i+1) es.size ep es[i].key ov:=e3
 refine yD (zby e3 (by simp) fun h4 e4 b4=>?_)
 replace b4:Heap.SameBut it h3 h4:=b4
 replace e4:IsItemIter h4 it d (i+1) es.size ep es[i].key es[i].val:=e4
 refine yD (zby e4 (by simp) fun h5 e5 b5=>?_)
 replace b5:Heap.SameBut it h4 h5:=b5
 replace e5:IsItemIterOut h5 it d (i+1) es.size ep es[i].key es[i].val hp.objs.size:=e5
 refine yD (zby e5 (by simp) fun h6 e6 b6=>?_)
 replace b6:Heap.SameBut it h5 h6:=b6
 replace e6:IsItemIterOut h6 it d (i+1) es.size ep es[i].key es[i].val hp.objs.size:=e6
 have kk:∀b o,b≠it->h2.get? b=some o->h6.get? b=some o:=fun b o hb e=>b6.extBut b o hb (b5.extBut b o hb (b4.extBut b o hb (b3.extBut b o hb e)))
 exact yD (wpAny_letGo (zc (zc ⟨_,rfl,zc (hQ h6 e6 (kk _ _ ne t2) fun b o hb e=>kk b o hb (k2 b o hb e))⟩)))
theorem qcU {ok ov:Value}{Q:Option Value->Shared->Prop}(hh:A.handled=none)(hit:IsItemIter s.heap it d i es.size ep ok ov)(ho:s.heap.get? d=some o)(hdat:o.data= .dict es ep)(hi:es.size<=i)
  (hQ:∀h',Heap.ExtBut it s.heap h'->Q none {s with heap:=h'}):wpAny (model prog w) A (pyNext (.ref it)) Q E s:=by
 have hT:s.TypeIs (.ref it) "dict_itemiterator":=⟨_,hit,rfl⟩
 unfold pyNext
 refine yD (zb1 (zan (name:=Str.ofString "__next__") hT zav (zap zav hT zcg ?_ (zb9 _))))
 refine yD (zc (yD (yD ?_)))
 first|refine yD (za0 hT (zc (yD (za8 hit rfl ?_))))|refine yD (zbk hT (zc (yD (za8 hit rfl ?_))))
 simp only[show Builtin.Dict_items.ownsTuple "dict_itemiterator"=true by decide,if_true]
 show wpAny _ _ (if (Value.ref d==Value.none)=true then _ else _) _ _ s
 rw[zd (by exact zl)]
 refine yD (zc (yD (za5 ho hdat ?_)))
 rw[zd (by simp)]
 refine yD (zc (yD (zbx ho hdat ?_)))
 rw[zd (by simp)]
 refine zc ?_
 simp only[show¬((i:Int)<0) by omega,if_false,Int.toNat_natCast,Array.getElem?_eq_none hi]
 refine yD ?_
 first|refine yD (za0 hT (zc ?_))|refine yD (zbk hT (zc ?_))
 show wpAny _ _ (setField (.ref it) 2 .none >>= _) _ _ s
 refine yD (zaU hit rfl (by simp) ?_)
 show wpAny _ _ (newExc (.type "StopIteration") [] >>= _) _ _ _
 refine yD ?_
 simp only[newExc,newTuple]
 refine yD (zad (yD (m:=firstArgMember _ _) (wpAny_of_eq (a:=Value.none) (by first|rfl|(simp only[firstArgMember];rfl)) (zad ?_ (by size_fits)))) (by size_fits))
 simp only[raiseNew]
 refine yD (wpAny_handled ?_)
 rw[show A.in1.handled=none from hh]
 refine yD (zc (wpAny_throw ?_))
 refine yD (wpAny_isInstance (b:=true) (T:="StopIteration") ⟨_,zB _ rfl,rfl⟩ isSubtype_stop ?_)
 exact zc (hQ _ (((za7 ..).extBut.push _).push _))
end
end DI
namespace L2
open PySem PySem.Spec PyProof.Rows
theorem Paired.at' {α β:Type}{F:α->β->Prop}:∀{l:List α} {m:List β} {i:Nat} {x:α} {y:β},Paired F l m->l[i]? =some x->m[i]? =some y->F x y
 |_,_,0,_,_,.cons r _,hx,hy=>by cases hx;cases hy;exact r
 |_,_,i+1,_,_,.cons _ t,hx,hy=>Paired.at' (i:=i) t hx hy
section
variable {X:Cx}{pins:List (Addr×Obj)}{σ:St}{H:Hp}{s:Shared}{a:Addr}
theorem Inv.hold {kvs:List (List Key×V)}(I:Inv X pins σ H s)(e:H a=some (.dT kvs)):∃o,Inv X pins σ (upd H a (.frz o (.dT kvs))) s:=by
 obtain⟨z,y,xs,r,o,es,ep,h1,h2⟩:=(show q0l X.prog X.w H s.heap a (.dT kvs) from I.hok a _ e)
 have ne:∀{b:Addr} {u:HO},H b=some u->(∀k,u≠ .dT k)->b≠a:=fun {b u} q n z=>by rw[z,e] at q;cases q;exact n _ rfl
 refine⟨o,I.un (h':=s.heap) (t':=s.toks) ⟨fun b ob q n _ _=>q,fun b ob q n _ _=>⟨ob.slots,q⟩,fun b ob q n _=>?_,fun b ob q _=>⟨ob,q⟩,fun b ts q=>?_,fun b ob u q=>?_,fun b ps q=>⟨#[],?_⟩⟩ fun b u q=>?_⟩
 ·rw [qj (fun z=>by rw[z,e] at n;cases n)];exact n
 ·rw [qj (ne q fun k z=>by cases z)];exact q
 ·rw [qj (ne q fun k z=>by cases z)];exact q
 ·rw [qj (ne q fun k z=>by cases z)];simpa using q
 ·have ht:∀c ts,H c=some (.tup ts)->upd H a (.frz o (.dT kvs)) c=some (.tup ts):=fun c ts q=>by rw[qj (ne q fun k z=>by cases z)];exact q
  have ho:∀c x,H c=some (.own x)->upd H a (.frz o (.dT kvs)) c=some (.own x):=fun c x q=>by rw[qj (ne q fun k z=>by cases z)];exact q
  by_cases hb:b=a
  ·subst hb
   rw[qd] at q
   cases q
   exact⟨h1,(I.hok b _ e).stay (fun c v _ q=>q) (fun c q=>ho c b q) ht⟩
  ·rw [qj hb] at q
   exact(I.hok b u q).stay (fun c v _ q=>q) (fun c q=>ho c b q) ht
theorem Inv.heldAt {o:Obj}{kvs:List (List Key×V)}{es:Array DictEntry}{ep:Nat}(I:Inv X pins σ H s)(e:H a=some (.frz o (.dT kvs)))(hd:o.data= .dict es ep):s.heap.get? a=some o/\o.ExactDict/\(a==sysModules)=false/\es.size=kvs.length/\
  ∀(i:Nat) (hi:i<kvs.length) (hj:i<es.size),∃b,es[i].key= .ref b/\H b=some (.tup (kvs[i].1.map kV))/\RelV kvs[i].2 es[i].val:=by
 obtain⟨h0,z,y,xs,r,o',es',ep',h1,h2,h3,h4,h5⟩:=(show q0l X.prog X.w H s.heap a (.frz o (.dT kvs)) from I.hok a _ e)
 rw[h0] at h1
 cases h1
 rw[hd] at h3
 cases h3
 have hl:kvs.length=xs.length:=r.length
 have hs:es.size=xs.length:=size_of_entries h4
 refine⟨h0,h2,y,by omega,fun i hi hj=>?_⟩
 have e1:=entry_at h4 i
 have hx:xs[i]? =some (xs[i]'(by omega)):=yB _
 rw[zbl hj,hx] at e1
 have e2:=zH e1
 have rq:=Paired.at' r (yB hi) hx
 refine⟨(xs[i]'(by omega)).2.1,by rw[e2];rfl,?_,?_⟩
 ·exact rq.2.1
 ·rw [e2];exact rq.2.2
end
def Itd (a:Addr)(o:Obj)(kvs:List (List Key×V)):It:=
 ⟨fun i H=>H a=some (.frz o (.dT kvs))/\i<kvs.length,fun i H x H'=>H'=H/\∃b p,kvs[i]? =some p/\x= .ref b/\H b=some (.tup (p.1.map kV)),fun i H=>H a=some (.frz o (.dT kvs))/\kvs.length<=i⟩
def Itp (a:Addr)(o:Obj)(kvs:List (List Key×V)):It:=
 ⟨fun i H=>H a=some (.frz o (.dT kvs))/\i<kvs.length,fun i H x H'=>∃T b p,H T=none/\kvs[i]? =some p/\x= .ref T/\H b=some (.tup (p.1.map kV))/\H'=upd H T (.tup [.ref b,p.2]),fun i H=>H a=some (.frz o (.dT kvs))/\kvs.length<=i⟩
theorem qbZ {P:Program}{w:World}{K:W.Frag}{tg:Expr}{a it:Addr}{o:Obj}{kvs:List (List Key×V)}{es:Array DictEntry}{ep:Nat}(hd:o.data= .dict es ep):Turn P w K tg (Itd a o kvs) [it] it (fun i h=>h.IsKeyIter it a i es.size ep) where
 mem:=by simp
 obj:=fun i h st b hb=>by
  have e:b=it:=by simpa using hb
  subst e
  obtain⟨o,e,c,d⟩:=st
  exact⟨o,e,fun v z=>by rw[d] at z;cases z⟩
 keep:=fun i h h' st k=>st.at fun o e=>k it (by simp) o e
 item:=by
  intro X hP hw hK hc i pins s σ H E I hf st hg
  subst hP hw hK
  obtain⟨ha,hi⟩:=hg
  obtain⟨f0,f1,f2,f3,f4,f5⟩:=hf it (by simp)
  obtain⟨g0,gx,gm,gs,gi⟩:=I.heldAt ha hd
  have hj:i<es.size:=by omega
  obtain⟨b,kb,tb,_⟩:=gi i hi hj
  refine DI.q90 st g0 hd hj fun h' st' sb=>?_
  have I1:Inv X pins σ H {s with heap:=h'}:=I.turned (t':=s.toks) (fun b o hb e=>(sb.2 b hb).trans e) f0 f1 f3 f4 f5
  obtain⟨o',e,c,d⟩:=id st'
  exact⟨_,rfl,go_of (s:={s with heap:=h'}) e c d (by decide) ⟨.ref b,H,I1,kb,⟨rfl,b,_,yB hi,rfl,tb⟩,st',fun b hb=>(hf b hb).1⟩⟩
 done:=by
  intro X hP hw hK hc i pins s σ H E I hf st hg
  subst hP hw hK
  obtain⟨ha,hi⟩:=hg
  obtain⟨f0,f1,f2,f3,f4,f5⟩:=hf it (by simp)
  obtain⟨g0,gx,gm,gs,gi⟩:=I.heldAt ha hd
  exact DI.qbF (I.ok.hd hc) st g0 hd (by omega) fun h' eb=>⟨rfl,I.turned (t':=s.toks) (fun b o hb e=>eb b o hb e) f0 f1 f3 f4 f5⟩
 self:=fun _ _ _ _ _ st h=>wpAny_pyIter_keyiter st h
theorem q63:entryFor table "dict_itemiterator.__iter__"=some Builtin.«dict_keyiterator.__iter__» :=entryFor_alias (id':="dict_keyiterator.__iter__") (by kernel_rfl) rfl (by walk_at "k") (by kernel_rfl)
theorem q6z {prog:Program}{w:World}{A:Around}{E:Value->Shared->Prop}{s:Shared}{it d:Addr}{i n ep:Nat}{ok ov:Value}{Q:Value->Shared->Prop}(hit:IsItemIter s.heap it d i n ep ok ov)(h:Q (.ref it) s):wpAny (model prog w) A (pyIter (.ref it)) Q E s:=by
 have hT:s.TypeIs (.ref it) "dict_itemiterator":=⟨_,hit,rfl⟩
 refine zcF hT zcj (zap zcj hT q63 ?_ (F.args_dict_itemiterator_iter_1 _))
 show wpAny _ _ (ret (.ref it)) _ _ s
 exact zc ⟨_,rfl,"dict_itemiterator",_,hT,zav.lookup,h⟩
theorem qbY {P:Program}{w:World}{K:W.Frag}{elts:List Expr}{k:Nat}{tp:Pos}{a it:Addr}{o:Obj}{kvs:List (List Key×V)}{es:Array DictEntry}{ep:Nat}(hd:o.data= .dict es ep):Turn P w K (.Tuple elts k tp) (Itp a o kvs) [it] it (fun i h=>∃ok ov,IsItemIter h it a i es.size ep ok ov) where
 mem:=by simp
 obj:=fun i h st b hb=>by
  have e:b=it:=by simpa using hb
  subst e
  obtain⟨_,_,e⟩:=st
  exact⟨_,e,fun v z=>by cases z⟩
 keep:=fun i h h' st kk=>let ⟨ok,ov,e⟩:=st;⟨ok,ov,kk it (by simp) _ e⟩
 item:=by
  intro X hP hw hK hc i pins s σ H E I hf st hg
  subst hP hw hK
  obtain⟨ha,hi⟩:=hg
  obtain⟨ok,ov,st⟩:=st
  obtain⟨g0,gx,gm,gs,gi⟩:=I.heldAt ha hd
  have hj:i<es.size:=by omega
  obtain⟨b,kb,tb,rb⟩:=gi i hi hj
  refine DI.qaU st g0 hd hj fun h' ho hT hk=>?_
  have ne:∀b∈[it],b≠s.heap.objs.size:=fun b hb=>by rw[zp.mp hb];exact zC (zt st)
  have kk:∀b o,b∉[it]->s.heap.get? b=some o->h'.get? b=some o:=fun b o hb q=>hk b o (fun z=>hb (by simp[z])) q
  have I1:Inv X pins σ (upd H s.heap.objs.size (.tup [.ref b,kvs[i].2])) {s with heap:=h',toks:=s.toks}:=I.yields (vals:=[es[i].key,es[i].val]) hf kk (ze _) ⟨_,hT,rfl,_,rfl⟩ (.cons kb (.cons rb .nil)) (by show 2<=sizeLine;decide)
  have hf1:=q9h (o:= .tup [.ref b,kvs[i].2]) hf ne
  refine⟨_,rfl,wpAny_letOwnedTupleGo_items ho fun h'' he'' sb=>?_⟩
  have I2:Inv X pins σ (upd H s.heap.objs.size (.tup [.ref b,kvs[i].2])) {s with heap:=h'',toks:=s.toks}:=I1.turnedL (t':=s.toks) hf1 fun b o hb q=>(sb.2 b fun z=>hb (by simp[z])).trans q
  exact⟨.ref s.heap.objs.size,_,I2,rfl,⟨_,b,_,I.hok.fresh (ze _),yB hi,rfl,tb,rfl⟩,⟨_,_,he''⟩,fun b hb=>(hf1 b hb).1⟩
 done:=by
  intro X hP hw hK hc i pins s σ H E I hf st hg
  subst hP hw hK
  obtain⟨ha,hi⟩:=hg
  obtain⟨ok,ov,st⟩:=st
  obtain⟨g0,gx,gm,gs,gi⟩:=I.heldAt ha hd
  exact DI.qcU (I.ok.hd hc) st g0 hd (by omega) fun h' eb=>⟨rfl,I.turnedL (t':=s.toks) (ch:=[it]) hf fun b o hb q=>eb b o (fun z=>hb (by simp[z])) q⟩
 self:=fun _ _ _ _ _ st h=>by obtain⟨_,_,st⟩:=st;exact q6z st h
section
variable {X:Cx}{tg:Expr}
def iDk (tl:TE):TI:=fun σ H R=>tl σ H fun x H1=>∃a o kvs,x= .ref a/\H1 a=some (.frz o (.dT kvs))/\R (Itd a o kvs) H1
theorem pi_dk {l:Expr}{tl:TE}(hl:PE X l tl):PI X tg l (iDk tl):=by
 intro pins s σ H R I h
 refine thn (hl pins s σ H _ I h) fun v s1 ⟨x,H1,I1,r1,q1⟩=>?_
 obtain⟨a,o,kvs,e,ha,q⟩:=q1
 subst e
 cases r1
 obtain⟨es,ep,hd⟩:∃es ep,o.data= .dict es ep:=by
  obtain⟨h0,z,y,xs,r,o',es',ep',h1,h2,h3,h4,h5⟩:=(show q0l X.prog X.w H1 s1.heap a (.frz o (.dT kvs)) from I1.hok a _ ha)
  rw[h0] at h1
  cases h1
  exact⟨_,_,h3⟩
 obtain⟨g0,gx,gm,gs,gi⟩:=I1.heldAt ha hd
 refine DI.keys gm g0 gx hd ?_
 refine⟨s1.heap.objs.size,[s1.heap.objs.size],_,_,H1,rfl,I1.kept (t':=s1.toks) fun b o e=>zg _ e,qbZ hd,⟨_,zB _ rfl,rfl,rfl⟩,fun b hb=>?_,q⟩
 have e:b=s1.heap.objs.size:=by simpa using hb
 subst e
 exact I1.fpOk (ze _) (I1.hok.fresh (ze _))
def iDp (tl:TE):TI:=fun σ H R=>tl σ H fun x H1=>∃a o kvs,x= .ref a/\H1 a=some (.frz o (.dT kvs))/\R (Itp a o kvs) H1
theorem pi_dp {elts:List Expr}{k:Nat}{tp:Pos}{l:Expr}{tl:TE}{apos cpos:Pos}(hl:PE X l tl)(hbase:attributeBase l "items" X.env (eval l X.env)=eval l X.env:=by rfl)(hline:(apos.endLine==cpos.line)=true:=by rfl):PI X (.Tuple elts k tp) (.Call (.Attribute l "items" apos) [] [] cpos) (iDp tl):=by
 intro pins s σ H R I h
 refine wpAny_Call_method0_late hbase hline (thn (hl pins s σ H _ I h) fun v s1 ⟨x,H1,I1,r1,q1⟩=>?_)
 obtain⟨a,o,kvs,e,ha,q⟩:=q1
 subst e
 cases r1
 obtain⟨es,ep,hd⟩:∃es ep,o.data= .dict es ep:=by
  obtain⟨h0,z,y,xs,r,o',es',ep',h1,h2,h3,h4,h5⟩:=(show q0l X.prog X.w H1 s1.heap a (.frz o (.dT kvs)) from I1.hok a _ ha)
  rw[h0] at h1
  cases h1
  exact⟨_,_,h3⟩
 obtain⟨g0,gx,gm,gs,gi⟩:=I1.heldAt ha hd
 refine⟨"dict","dict.items",F.plainAttrs_dict,F.slot_dict_items,F.type_dict_items,DI.ty g0 gx,fun b z=>by cases z;exact⟨o,g0,gx.2.1⟩,zbB rfl (PySem.evalArgs_none ?_)⟩
 refine call_meetsIn F.slot_dict_items (DI.ty g0 gx) F.entry_dict_items (F.args_dict_items_1 _) (DI.view a gm) ⟨⟨o,g0,gx⟩,?_⟩
 have I2:Inv X pins σ H1 {s1 with heap:=s1.heap.push {cls:= .type "dict_items",data:= .fields #[.ref a]}}:=I1.kept (t':=s1.toks) fun b o e=>zg _ e
 refine DI.items (s:={s1 with heap:=s1.heap.push {cls:= .type "dict_items",data:= .fields #[.ref a]}}) ⟨_,zB _ rfl,rfl,rfl⟩ (zg _ g0) hd ?_
 refine⟨_,[_],_,_,H1,rfl,I2.kept (t':=s1.toks) fun b o e=>zg _ e,qbY hd,⟨_,_,zB _ rfl⟩,fun b hb=>?_,q⟩
 rw[zp.mp hb]
 exact I2.fpOk (ze _) (I2.hok.fresh (ze _))
end
section
variable {K:W.Frag}{g:TG}{tb:TS}{nx:St->Hp->Prop}{rt:V->Hp->Prop}{σ:St}{H:Hp}{a:Addr}{o:Obj}{kvs:List (List Key×V)}
theorem for_dk (Pv:Nat->St->Hp->Prop)(h0:Pv 0 σ H)(hl:∀i σ H,Pv i σ H->H a=some (.frz o (.dT kvs)))
  (go:∀i b p σ H,kvs[i]? =some p->H b=some (.tup (p.1.map kV))->Pv i σ H->g (.ref b) σ H fun σ2 H2=>tb ⟨Pv (i+1),rt,nx,Pv (i+1)⟩ σ2 H2)(stop:∀σ H,Pv kvs.length σ H->nx σ H):ForG (Itd a o kvs) g tb nx rt σ H:=
 q43 kvs.length Pv h0 (fun i σ H hi p=>⟨⟨hl i σ H p,hi⟩,fun x H' ⟨e1,b,q,hq,ex,hb⟩=>by subst e1 ex;exact go i b q σ _ hq hb p⟩) fun σ H p=>⟨⟨hl _ σ H p,ze _⟩,stop σ H p⟩
theorem qbH (Pv:Nat->St->Hp->Prop)(h0:Pv 0 σ H)(hl:∀i σ H,Pv i σ H->H a=some (.frz o (.dT kvs)))
  (go:∀i b T p σ H,kvs[i]? =some p->H b=some (.tup (p.1.map kV))->H T=none->Pv i σ H->g (.ref T) σ (upd H T (.tup [.ref b,p.2])) fun σ2 H2=>tb ⟨Pv (i+1),rt,nx,Pv (i+1)⟩ σ2 H2)(stop:∀σ H,Pv kvs.length σ H->nx σ H):ForG (Itp a o kvs) g tb nx rt σ H:=
 q43 kvs.length Pv h0 (fun i σ H hi p=>⟨⟨hl i σ H p,hi⟩,fun x H' ⟨T,b,q,hT,hq,ex,hb,e1⟩=>by subst e1 ex;exact go i b T q σ _ hq hb hT p⟩) fun σ H p=>⟨⟨hl _ σ H p,ze _⟩,stop σ H p⟩
variable {tc:TT}{te:TE}{R:Hp->Prop}{D:Addr}
theorem q9B (Pv:Nat->St->Hp->Prop)(h0:Pv 0 σ H)(hl:∀i σ H,Pv i σ H->H a=some (.frz o (.dT kvs)))(go:∀i b p σ H,kvs[i]? =some p->H b=some (.tup (p.1.map kV))->Pv i σ H->g (.ref b) σ H fun σ3 H3=>tc σ3 H3 fun b H4=>
   if b=true then te σ3 H4 fun y H5=>∃ys,H5 D=some (.lst ys)/\ys.length<sizeLine/\Pv (i+1) σ3 (upd H5 D (.lst (ys++[y]))) else Pv (i+1) σ3 H4)(stop:∀σ H,Pv kvs.length σ H->R H):qbc (Itd a o kvs) g tc te R D σ H:=
 q54 kvs.length Pv h0 (fun i σ H hi p=>⟨⟨hl i σ H p,hi⟩,fun x H' ⟨e1,b,q,hq,ex,hb⟩=>by subst e1 ex;exact go i b q σ _ hq hb p⟩) fun σ H p=>⟨⟨hl _ σ H p,ze _⟩,stop σ H p⟩
end
theorem q0E {k:Nat}{A:Around}(hr:Room k A):A.units+1<cLine:=by have:=hr.un;omega
section
variable {σ:St}{H:Hp}{Q:VK}{td ty tv:TE}{nx:St->Hp->Prop}{rt:V->Hp->Prop}{bk ct:St->Hp->Prop}
theorem r_dnew (q:∀p,H p=none->Q (.ref p) (upd H p (.dT []))):qbi σ H Q:=q
theorem r_dget (q:td σ H fun x H1=>ty σ H1 fun y H2=>∃a v,x= .ref a/\DGet H2 a y (some v)/\Q v H2):tDGet td ty σ H Q:=q
theorem r_dnin (q:ty σ H fun y H1=>td σ H1 fun x H2=>∃a o,x= .ref a/\DGet H2 a y o/\Q (.bl (!o.isSome)) H2):q86 ty td σ H Q:=q
theorem r_dput (q:tv σ H fun v H1=>td σ H1 fun x H2=>ty σ H2 fun y H3=>∃a H4,x= .ref a/\DPut H3 a y v H4/\nx σ H4):sDPut td ty tv ⟨nx,rt,bk,ct⟩ σ H:=q
theorem r_dk {R:It->Hp->Prop}(q:td σ H fun x H1=>∃a o kvs,x= .ref a/\H1 a=some (.frz o (.dT kvs))/\R (Itd a o kvs) H1):iDk td σ H R:=q
theorem r_dp {R:It->Hp->Prop}(q:td σ H fun x H1=>∃a o kvs,x= .ref a/\H1 a=some (.frz o (.dT kvs))/\R (Itp a o kvs) H1):iDp td σ H R:=q
end
theorem r_augN {i:Nat}{v:V}{te:TE}{ip:V->V->Hp->VK->Prop}{σ:St}{H:Hp}{nx:St->Hp->Prop}{rt:V->Hp->Prop}{bk ct:St->Hp->Prop}(h:σ[i]? =some (some v))(q:te σ H fun y H1=>ip v y H1 fun z H2=>nx (σ.set i (some z)) H2):tAug i te ip ⟨nx,rt,bk,ct⟩ σ H:=⟨v,h,q⟩
theorem q6s {c:TT}{tb:TS}{σ:St}{H:Hp}{nx:St->Hp->Prop}{rt:V->Hp->Prop}{bk ct:St->Hp->Prop}(W:Nat->St->Hp->Prop)(m:Nat)(h0:W m σ H)
  (go:∀m σ H,W m σ H->c σ H fun b H1=>if b=true then∃N:St->Hp->Prop,(∀σ' H',N σ' H'->∃m',m'<m/\W m' σ' H')/\tb ⟨N,rt,nx,N⟩ σ H1 else nx σ H1):qbe c tb ⟨nx,rt,bk,ct⟩ σ H:=⟨W,⟨m,h0⟩,go⟩
theorem q8D {X:Cx}{tg l:Expr}{tl:TE}(K:W.Frag)(hl:PE X l tl):PI X tg l (iDk tl):=pi_dk hl
theorem qbt {X:Cx}{elts:List Expr}{k:Nat}{tp:Pos}{l:Expr}{tl:TE}{apos cpos:Pos}(K:W.Frag)(hl:PE X l tl)(hbase:attributeBase l "items" X.env (eval l X.env)=eval l X.env:=by rfl)(hline:(apos.endLine==cpos.line)=true:=by rfl):PI X (.Tuple elts k tp) (.Call (.Attribute l "items" apos) [] [] cpos) (iDp tl):=pi_dp hl hbase hline
end L2
namespace Ce
open L2 PySem PySem.Spec PyProof.Rows
def Sd.ns (s:Sd):List Int:=[s.rm,s.tk,s.op,s.b,s.wt]
def Sd.key (s:Sd):List Key:=[.inl s.rm,.inl s.tk,.inl s.op,.inl s.b,.inl s.wt]
theorem Sd.ns_inj {a b:Sd}(h:a.ns=b.ns):a=b:=by
 cases a;cases b;simp only[Sd.ns,List.cons.injEq,and_true] at h;obtain⟨h1,h2,h3,h4,h5⟩:=h;subst h1 h2 h3 h4 h5;rfl
theorem Sd.key_inj {a b:Sd}(h:a.key=b.key):a=b:=by
 cases a;cases b;simp only[Sd.key,List.cons.injEq,Sum.inl.injEq,and_true] at h;obtain⟨h1,h2,h3,h4,h5⟩:=h;subst h1 h2 h3 h4 h5;rfl
theorem Sd.vs_inj {a b:Sd}(h:a.vs=b.vs):a=b:=by
 cases a;cases b;simp only[Sd.vs,List.cons.injEq,V.int.injEq,and_true] at h;obtain⟨h1,h2,h3,h4,h5⟩:=h;subst h1 h2 h3 h4 h5;rfl
instance:DecidableEq Sd:=fun a b=>decidable_of_iff (a.ns=b.ns) ⟨Sd.ns_inj,fun h=>by rw[h]⟩
def SAt (H:Hp)(p:Addr)(s:Sd):Prop:=H p=some (.tup s.vs)
theorem SAt.mono {H H':Hp}(s:q0p H H'){p:Addr}{x:Sd}(h:SAt H p x):SAt H' p x:=s _ _ h
theorem SAt.put {H:Hp}{D:Addr}{xs:List V}{o:HO}(hD:H D=some (.lst xs)){p:Addr}{x:Sd}(h:SAt H p x):SAt (upd H D o) p x:=q0p.lst hD _ _ h
theorem q9u {K:W.Frag}{H:Hp}{a b:Addr}{s t:Sd}(ha:SAt H a s)(hb:SAt H b t):Deq K H 1 (.ref a) (.ref b) (decide (s=t)):=by
 by_cases e:a=b
 ·subst e
  have:s=t:=Sd.vs_inj (by have h:=ha.symm.trans hb;simpa using h)
  rw[zu this]
  exact .same a
 ·have h:=Deq.tup (K:=K) (n:=0) (e:=fun j=>eqV (s.vs.getD j .non) (t.vs.getD j .non)) e (SqT.of ha) (SqT.of hb) fun j h1 h2=> .flat (by
    have:j<5:=h1
    obtain rfl|rfl|rfl|rfl|rfl:j=0\/j=1\/j=2\/j=3\/j=4:=by omega
    all_goals rfl) (by
    have:j<5:=h1
    obtain rfl|rfl|rfl|rfl|rfl:j=0\/j=1\/j=2\/j=3\/j=4:=by omega
    all_goals rfl)
  have e2:((List.range (min s.vs.length t.vs.length)).all (fun j=>eqV (s.vs.getD j .non) (t.vs.getD j .non))&&s.vs.length==t.vs.length)=decide (s=t):=by
   have e3:decide (s=t)=(decide (s.rm=t.rm)&&(decide (s.tk=t.tk)&&(decide (s.op=t.op)&&(decide (s.b=t.b)&&decide (s.wt=t.wt))))):=by
    cases s;cases t;simp[Bool.decide_and]
   rw[e3]
   show((eqV (.int s.rm) (.int t.rm)&&(eqV (.int s.tk) (.int t.tk)&&(eqV (.int s.op) (.int t.op)&&(eqV (.int s.b) (.int t.b)&&(eqV (.int s.wt) (.int t.wt)&&true)))))&&true)=_
   simp[eqV]
   rfl
  rw[e2] at h
  exact h
theorem Rows.mem {α:Type}{At:Hp->Addr->α->Prop}{H:Hp}{ps:List Addr}{xs:List α}(h:Rows At H ps xs){b:Addr}(hb:b∈ps):∃x∈xs,At H b x:=by
 obtain⟨i,hi,e⟩:=zal hb
 have hj:i<xs.length:=by rw[<-h.1];exact hi
 exact⟨xs[i],zU hj,h.2 i b _ (by rw[yB hi,e]) (yB hj)⟩
abbrev Dk:=List (Sd×V)
def dkv (l:Dk):List (List Key×V):=l.map fun x=>(x.1.key,x.2)
def dat (l:Dk)(s:Sd):Option V:=(l.find? fun x=>decide (x.1=s)).map (·.2)
theorem q4Z (s:Sd):∀l:Dk,valV (dkv l) s.key=dat l s
 |[]=>rfl
 |x::l=>by
  by_cases e:x.1=s
  ·rw [show dkv (x::l)=(x.1.key,x.2)::dkv l from rfl,q3n (by rw[e])]
   simp[dat,e]
  ·rw [show dkv (x::l)=(x.1.key,x.2)::dkv l from rfl,q3o (fun z=>e (Sd.key_inj z)),q4Z s l]
   simp[dat,e]
theorem q51 {l:Dk}{s:Sd}:dat l s=none↔s∉l.map (·.1):=by
 unfold dat
 rw[Option.map_eq_none_iff,List.find?_eq_none]
 simp only[decide_eq_true_eq,List.mem_map,not_exists,not_and]
theorem q50 {l:Dk}{s:Sd}{v:V}(hn:(l.map (·.1)).Nodup)(h:(s,v)∈l):dat l s=some v:=by
 induction l with
 |nil=>cases h
 |cons x l ih=>
  rw[zam,zaZ] at hn
  rcases zx.mp h with e|h
  ·subst e;simp[dat]
  ·have ne:¬x.1=s:=fun e=>hn.1 (zK.mpr ⟨_,h,e.symm⟩)
   have:=ih hn.2 h
   simpa[dat,ne] using this
theorem q2l {l:Dk}{s:Sd}:(dat l s).isSome=decide (s∈l.map (·.1)):=by
 cases e:dat l s with
 |none=>rw[zn (q51.mp e)];rfl
 |some v=>
  have:¬dat l s=none:=by rw[e];simp
  rw[zu (Classical.byContradiction fun z=>this (q51.mpr z))];rfl
theorem qd6 {l:Dk}{s:Sd}{v:V}(h:s∉l.map (·.1)):putK (dkv l) s.key v=dkv (l++[(s,v)]):=by
 unfold putK
 rw[q3p,q4Z,q51.mpr h,zd (by decide)]
 simp[dkv]
def DAtS (H:Hp)(a:Addr)(l:Dk):Prop:=H a=some (.dT (dkv l))
theorem q2V {H:Hp}{a b:Addr}{l:Dk}{s:Sd}(h:Rd H a (.dT (dkv l)))(hb:SAt H b s):DGet H a (.ref b) (dat l s):= .inr ⟨_,s.key,b,h,rfl,hb,(q4Z s l).symm⟩
theorem q44 {H:Hp}{a b:Addr}{l:Dk}{s:Sd}{v:V}(h:DAtS H a l)(hb:SAt H b s)(hl:l.length<sizeLine)(hn:s∉l.map (·.1)):DPut H a (.ref b) v (upd H a (.dT (dkv (l++[(s,v)])))):=by
 have:=DPut.t (k:=s.key) (v:=v) h hb (by simpa[dkv] using hl)
 rwa [qd6 hn] at this
inductive Rch {α:Type}(R:α->α->Prop)(a:α):α->Prop where
 |refl:Rch R a a
 |step {b c:α}:Rch R a b->R b c->Rch R a c
structure Srch (R:Sd->Sd->Prop)(s0:Sd)(row:List Sd)(pl:Nat):Prop where
 nd:row.Nodup
 st:s0∈row
 rch:∀x∈row,Rch R s0 x
 cl:∀i (h:i<row.length),i<pl->∀y,R row[i] y->y∈row
theorem Srch.start {R:Sd->Sd->Prop}{s0:Sd}:Srch R s0 [s0] 0:=⟨by simp,by simp,fun x hx=>by rw[List.mem_singleton.mp hx];exact .refl,fun i _ h=>absurd h (zbO _)⟩
theorem Srch.end {R:Sd->Sd->Prop}{s0:Sd}{row:List Sd}{pl:Nat}(h:Srch R s0 row pl)(hp:row.length<=pl)(x:Sd):x∈row↔Rch R s0 x:=by
 refine⟨h.rch x,fun hx=>?_⟩
 induction hx with
 |refl=>exact h.st
 |step _ r ih=>
  obtain⟨i,hi,e⟩:=zal ih
  exact h.cl i hi (by omega) _ (by rw[e];exact r)
structure Mid (R:Sd->Sd->Prop)(s0 here:Sd)(row:List Sd)(pl:Nat)(done:List Sd):Prop where
 nd:row.Nodup
 st:s0∈row
 rch:∀x∈row,Rch R s0 x
 cl:∀i (h:i<row.length),i<pl->∀y,R row[i] y->y∈row
 at':row[pl]? =some here
 dn:∀y∈done,y∈row
theorem Srch.mid {R:Sd->Sd->Prop}{s0 here:Sd}{row:List Sd}{pl:Nat}(h:Srch R s0 row pl)(e:row[pl]? =some here):Mid R s0 here row pl []:=⟨h.nd,h.st,h.rch,h.cl,e,fun y z=>nomatch z⟩
theorem Mid.old {R:Sd->Sd->Prop}{s0 here y:Sd}{row done:List Sd}{pl:Nat}(h:Mid R s0 here row pl done)(hy:y∈row):Mid R s0 here row pl (done++[y]):=
 ⟨h.nd, h.st, h.rch, h.cl, h.at', fun x hx => by rcases zr.mp hx with z|z;· exact h.dn x z
                                                 ·rw [zp.mp z];exact hy⟩
theorem Mid.new {R:Sd->Sd->Prop}{s0 here y:Sd}{row done:List Sd}{pl:Nat}(h:Mid R s0 here row pl done)(hy:y∉row)(r:R here y):Mid R s0 here (row++[y]) pl (done++[y]):=by
 have hpl:pl<row.length:=(yA h.at').1
 refine⟨zaJ.mpr ⟨h.nd,by simp,fun a ha b hb e=>?_⟩,zY _ h.st,fun x hx=>?_,fun i hi hl z rz=>?_,?_,fun x hx=>?_⟩
 ·rw [zp.mp hb] at e;subst e;exact hy ha
 ·rcases zr.mp hx with z|z
  ·exact h.rch x z
  ·rw [zp.mp z]
   exact(h.rch here (zQ h.at')).step r
 ·rw [List.getElem_append_left (by omega)] at rz
  exact zY _ (h.cl i (by omega) hl z rz)
 ·rw [zA hpl];exact h.at'
 ·rcases zr.mp hx with z|z
  ·exact zY _ (h.dn x z)
  ·exact zI _ z
theorem Mid.next {R:Sd->Sd->Prop}{s0 here:Sd}{row done:List Sd}{pl:Nat}(h:Mid R s0 here row pl done)(hd:∀y,R here y->y∈done):Srch R s0 row (pl+1):=by
 refine⟨h.nd,h.st,h.rch,fun i hi hl z rz=>?_⟩
 by_cases e:i=pl
 ·subst e
  have:row[i]=here:=(yA h.at').2
  rw[this] at rz
  exact h.dn z (hd z rz)
 ·exact h.cl i hi (by omega) z rz
def Ord (l:List Sd):Prop:=l.Pairwise fun a b=>¬b.ns<a.ns
theorem q6Z:∀{l m:List Sd},l.Perm m->Ord l->Ord m->l=m:=fun {l m} hp hl hm=>
 hp.eq_of_pairwise (fun a b _ _ h1 h2=>Sd.ns_inj (List.le_antisymm (zbL.mp h1) (zbL.mp h2))) hl hm
end Ce
namespace Ce
open L2 PySem PySem.Spec PyProof.Rows
structure Small (C:Cl):Prop where
 r:C.rooms<=5
 w:C.ways.length<=4
 t:C.things.length<=2
 l:C.levers.length<=1
 v:C.wheels.length<=1
def nx (C:Cl)(s:Sd):List Sd:=(fitD C s).map fun x=>q1X C s x.1 (x.2:Int)
def NxR (C:Cl)(s t:Sd):Prop:=t∈nx C s
theorem nx_of {C:Cl}{s t:Sd}(h:NxR C s t):∃(d:Wd) (i:Nat),canD C s d (i:Int)=true/\t=q1X C s d (i:Int):=by
 obtain⟨⟨d,i⟩,hx,rfl⟩:=zK.mp h
 exact⟨d,i,q79.mp hx,rfl⟩
theorem nx_ok {C:Cl}{s t:Sd}(ok:ClOk C)(h:s.ok C)(r:NxR C s t):t.ok C:=by
 obtain⟨d,i,hc,rfl⟩:=nx_of r
 exact qd4 ok h hc
theorem q6E {C:Cl}{s t:Sd}(ok:ClOk C)(h:s.ok C)(r:Rch (NxR C) s t):t.ok C:=by
 induction r with
 |refl=>exact h
 |step _ r ih=>exact nx_ok ok ih r
def popc (n:Nat):Nat:=cnt (fun i=>n.testBit i) 4
def fits (d:Nat->Bool)(t o:Nat):Bool:=decide (popc o<=popc t)&&(List.range 4).all fun i=> !o.testBit i||d i
def num (d:Nat->Bool)(o:Nat):Nat:=cnt (fun i=> !d i||o.testBit i) 4
def prs (d:Nat->Bool):List (Nat×Nat):=((List.range 4).flatMap fun t=>(List.range 16).map fun o=>(t,o)).filter fun x=>fits d x.1 x.2
def mk4 (d0 d1 d2 d3:Bool)(i:Nat):Bool:=match i with|0=>d0|1=>d1|2=>d2|_=>d3
theorem qcl:∀d0 d1 d2 d3:Bool,((prs (mk4 d0 d1 d2 d3)).map fun x=>4*min 5 (1+2*num (mk4 d0 d1 d2 d3) x.2)).sum<=288:=by walk_at "k"
def ends (C:Cl)(i:Nat):List Int:=match C.ways[i]? with|some x=>[x.a,x.b]|none=>[0,0]
def dI (C:Cl):Nat->Bool:=mk4 (dsOf C 0).isSome (dsOf C 1).isSome (dsOf C 2).isSome (dsOf C 3).isSome
def rms (C:Cl)(s0:Sd)(o:Nat):List Int:=if 1+2*num (dI C) o<=5 then s0.rm::(List.range 4).flatMap fun i=>if (!dI C i||o.testBit i)=true then ends C i else [] else(List.range 5).map fun n:Nat=>(n:Int)
theorem qb6 (C:Cl)(i:Nat):(ends C i).length=2:=by unfold ends;split<;>rfl
theorem qcc (C:Cl)(s0:Sd)(o:Nat):(rms C s0 o).length=min 5 (1+2*num (dI C) o):=by
 unfold rms
 split
 ·rename_i h
  have e:((List.range 4).flatMap fun i=>if (!dI C i||o.testBit i)=true then ends C i else []).length=2*num (dI C) o:=by
   have:∀n,((List.range n).flatMap fun i=>if (!dI C i||o.testBit i)=true then ends C i else []).length=2*cnt (fun i=> !dI C i||o.testBit i) n:=fun n=>by
    induction n with
    |zero=>rfl
    |succ n ih=>
     rw[List.range_succ,List.flatMap_append,zm,ih]
     show _=2*(cnt _ n+_)
     simp only[List.flatMap_cons,List.flatMap_nil,List.append_nil]
     split
     ·rw [qb6];omega
     ·simp
   exact this 4
  rw[zac,e]
  omega
 ·rename_i h
  simp
  omega
def bs2 (C:Cl)(s0:Sd):List Int:=[s0.b,Builtin.bitXor s0.b (C.levers.getD 0 (0,0)).2]
def ws2 (C:Cl)(s0:Sd):List Int:=[s0.wt,(C.wheels.getD 0 (0,0)).2]
def uni (C:Cl)(s0:Sd):List Sd:=(prs (dI C)).flatMap fun x=>(rms C s0 x.2).flatMap fun r=>(bs2 C s0).flatMap fun b=>(ws2 C s0).map fun w=>(⟨r,(x.1:Int),(x.2:Int),b,w⟩:Sd)
theorem qbV (C:Cl)(s0:Sd):(uni C s0).length<=288:=by
 refine zaf (Nat.le_of_eq ?_) (qcl (dsOf C 0).isSome (dsOf C 1).isSome (dsOf C 2).isSome (dsOf C 3).isSome)
 unfold uni
 rw[List.length_flatMap]
 congr 1
 refine zab fun x _=>?_
 rw[List.length_flatMap]
 have:∀l:List Int,(l.map fun r=>((bs2 C s0).flatMap fun b=>(ws2 C s0).map fun w=>(⟨r,(x.1:Int),(x.2:Int),b,w⟩:Sd)).length).sum=4*l.length:=fun l=>by
  induction l with
  |nil=>rfl
  |cons r l ih=>
   rw[zam,List.sum_cons,ih,zac]
   simp[bs2,ws2]
   omega
 rw[this,qcc]
 rfl
structure Bnd (C:Cl)(s0 s:Sd):Prop where
 ok:s.ok C
 rm:s.rm=s0.rm\/∃(i:Nat) (x:Way),C.ways[i]? =some x/\((dsOf C i).isSome=false\/bit s.op i=true)/\(s.rm=x.a\/s.rm=x.b)
 b:s.b∈bs2 C s0
 wt:s.wt∈ws2 C s0
theorem q6M:∀{l m:List Sd},l.Nodup->(∀x∈l,x∈m)->l.length<=m.length
 |[],_,_,_=>zak _
 |x::l,m,hn,h=>by
  rw[zaZ] at hn
  have hx:=h x (.head _)
  have:=q6M (m:=m.erase x) hn.2 fun y hy=>(List.mem_erase_of_ne fun e=>hn.1 (by rw[<-e];exact hy)).mpr (h y (zw _ hy))
  rw[List.length_erase_of_mem hx] at this
  have:0<m.length:=List.length_pos_of_mem hx
  rw[zac]
  omega
end Ce
namespace L2
open PySem PySem.Spec PyProof.Rows PySem.W
theorem Inv.dictAt {X:Cx}{pins:List (Addr×Obj)}{σ:St}{H:Hp}{s:Shared}{a:Addr}{kvs:List (List Key×V)}(I:Inv X pins σ H s)(e:H a=some (.dT kvs)):∃(o:Obj) (es:Array DictEntry) (ep:Nat) (bs:List Addr),s.heap.get? a=some o/\o.ExactDict/\o.data= .dict es ep/\(a==sysModules)=false/\kvs.length<=sizeLine/\
  es.toList.map (·.key)=bs.map Value.ref/\bs.length=kvs.length/\∀(i:Nat) (b:Addr) (p:List Key×V),bs[i]? =some b->kvs[i]? =some p->H b=some (.tup (p.1.map kV)):=by
 obtain⟨z,y,xs,r,o,es,ep,h1,h2,h3,h4,h5⟩:=(show q0l X.prog X.w H s.heap a (.dT kvs) from I.hok a _ e)
 have hl:kvs.length=xs.length:=r.length
 refine⟨o,es,ep,xs.map fun x=>x.2.1,h1,h2,h3,y,z,?_,by rw[yC,hl],fun i b p hb hp=>?_⟩
 ·refine zbg fun i=>?_
  rw[zJ,zbe,zJ,zJ,entry_at h4 i]
  cases xs[i]? with
  |none=>rfl
  |some x=>rfl
 ·rw [zJ] at hb
  cases hx:xs[i]? with
  |none=>rw[hx] at hb;cases hb
  |some x=>
   rw[hx] at hb
   cases hb
   exact(Paired.at' r hp hx).2.1
def tDisp1 (tk tv:TE):TE:=fun σ H Q=>∀p,H p=none->tk σ (upd H p (.dT [])) fun x H1=>tv σ H1 fun y H2=>∃(b:Addr) (k:List Key),x= .ref b/\H2 p=some (.dT [])/\H2 b=some (.tup (k.map kV))/\Q (.ref p) (upd H2 p (.dT [(k,y)]))
theorem q71 {X:Cx}{pos:Pos}{k v:Expr}{tk tv:TE}(hu:X.A.units+1<cLine)(hk:PE X k tk)(hv:PE X v tv):PE X (.Dict [some k] [v] pos) (tDisp1 tk tv):=by
 intro pins s σ H Q I q
 have hn:=I.hok.fresh (ze s.heap.objs.size)
 have I1:=I.laid (a:=s.heap.objs.size) (o:= .dT []) (h':=s.heap.push {cls:= .type "dict",data:= .dict #[]}) (t':=s.toks) (fun _ _ q=>zg _ q) (ze _) (q7e s.heap I.big)
 have pp:=qaf (pos:=pos) hk hv qcm pins _ σ _ (fun ps H2=>match ps with|[(x,y)]=>∃(b:Addr) (k:List Key),x= .ref b/\H2 s.heap.objs.size=some (.dT [])/\H2 b=some (.tup (k.map kV))/\Q (.ref s.heap.objs.size) (upd H2 s.heap.objs.size (.dT [(k,y)]))|_=>False) I1 (q _ hn)
 rw[arm_eval_Dict,zip_pairTrees [some k] [v] X.env pos rfl rfl,dictDisplay_pairs _ (by intro z;cases z) (by show 1<17;decide)]
 refine yD (zcv (yD ?_))
 unfold subDict
 refine yD (wpAny_alloc ?_)
 refine yD (zaR ?_)
 rw[zi (by show 1<=15;decide)]
 refine yD (zZ pp (fun ws s2 z=>?_) fun _ _ e=>e)
 obtain⟨ps,H2,I2,rel,z⟩:=z
 cases rel with
 |nil=>exact z.elim
 | @cons p0 q0 _ _ r1 rel=>
 cases rel with
 |cons _ _=>exact z.elim
 |nil=>
  obtain⟨x,y⟩:=p0
  obtain⟨w1,w2⟩:=q0
  obtain⟨b,k,rfl,e,eb,q2⟩:=z
  obtain⟨ra,rb⟩:=r1
  cases(show w1=Value.ref b from ra)
  refine zaR ?_
  rw[List.forIn_cons]
  obtain⟨z,hd,xs,rel,dd⟩:=dt_of I2.hok e
  have hx:xs=[]:=by cases rel;rfl
  subst hx
  refine yD (yD (yD (wpAny_dictSet_heap (hsz:=zak _) (show X.A.units<cLine from zbh hu) (q3g I2.hok eb) dd fun h' dd' hs=>zc ?_)))
  dsimp only
  rw[List.forIn_nil]
  refine zc (zc (zc (zc ⟨.ref s.heap.objs.size,_,?_,rfl,q2⟩)))
  obtain⟨qo,es,ep,hq,h2,h3,h4,_,h5⟩:=dd'
  refine q6D I2 (by rw[e];exact True.intro) hs ⟨qo,hq⟩ ⟨by show 1<=sizeLine;decide,hd,_,((show KT H2 [] [] from .nil).put k eb rb).keeps fun c ys ec=>?_,qo,es,ep,hq,h2,h3,h4,h5⟩
  rw[qj (q2R ec e (fun z=>nomatch z))]
  exact ec
end L2
namespace L2
open PySem PySem.Spec PyProof.Rows
end L2
namespace L2
open PySem PySem.Spec PyProof.Rows
end L2
namespace L2
open PySem PySem.Spec PyProof.Rows
end L2
namespace L2
open PySem PySem.Spec PyProof.Rows
end L2
namespace L2
open PySem PySem.Spec PyProof.Rows
end L2
namespace L2
open PySem PySem.Spec PyProof.Rows
section
variable {κ:Type}[DecidableEq κ]
theorem RelO.getD {o:Option V}{u:Option Value}{d:V}{d':Value}(r:RelO o u)(rd:RelV d d'):RelV (o.getD d) (u.getD d'):=by
 cases o with
 |none=>cases u with
  |none=>exact rd
  |some _=>exact(show False from r).elim
 |some _=>cases u with
  |none=>exact(show False from r).elim
  |some _=>exact r
end
structure M1 (X:Cx)(o:Expr)(m:Str)(apos:Pos)(e:Expr)(cpos:Pos):Prop where
 base:attributeBase o m X.env (eval o X.env)=eval o X.env
 few:((backTo cpos (starEach [e] X.env)).all (fun x=> !x.1)&&(backToKw cpos (keywordEach [] X.env)).all (fun x=>x.1.isSome)
  &&decide (([e]:List Expr).length+([]:List Keyword).length+(if ([]:List Keyword).isEmpty then 0 else 1)<30))=true
 line:(apos.endLine==cpos.line)=true
 trees:backTo cpos (starEach [e] X.env)=[(false,eval e X.env)]
def IsD (H:Hp)(a:Addr):Prop:=(∃kvs,Rd H a (.dK kvs))\/∃kvs,Rd H a (.dT kvs)
theorem isD_at {X:Cx}{pins:List (Addr×Obj)}{σ:St}{H:Hp}{s:Shared}{a:Addr}(I:Inv X pins σ H s)(d:IsD H a):
  s.TypeIs (.ref a) "dict"/\(∀b,Value.ref a= .ref b->∃ob,s.heap.get? b=some ob/\ob.dict=none)/\(a==sysModules)=false:=by
 rcases d with⟨kvs,e⟩|⟨kvs,e⟩
 ·obtain ⟨_,hd,vs,_,dd⟩:=q7U I.hok e
  refine⟨dd.typeIs,fun b q=>?_,hd⟩
  cases q
  obtain⟨ob,_,_,h1,h2,_⟩:=dd
  exact⟨ob,h1,h2.2.1⟩
 ·obtain ⟨_,hd,xs,_,dd⟩:=q7T I.hok e
  refine⟨dd.typeIs,fun b q=>?_,hd⟩
  cases q
  obtain⟨ob,_,_,h1,h2,_⟩:=dd
  exact⟨ob,h1,h2.2.1⟩
section
variable {X:Cx}{pins:List (Addr×Obj)}{σ:St}{H:Hp}{s:Shared}{a:Addr}{y d:V}{u r:Value}{o:Option V}{A:Around}{E:Value->Shared->Prop}
theorem d_get1 {Q:Value->Shared->Prop}(hu:A.units+1<cLine)(I:Inv X pins σ H s)(g:DGet H a y o)(ry:RelV y u)(h:∀w' s',Inv X pins σ H s'->RelV (o.getD .non) w'->Q w' s'):
  wpAny (model X.prog X.w) A (call (.builtin "dict.get") [.ref a,u]) Q E s:=by
 rcases g with⟨kvs,k,e,ey,l⟩|⟨kvs,k,b,e,ey,eb,l⟩
 ·subst ey
  obtain⟨z,hd,vs,rel,dd⟩:=q7U I.hok e
  refine call_meetsIn zb8 dd.typeIs PySem.F.entry_dict_get (PySem.F.args_dict_get_2 _ _) (meets_dict_get (qX X.prog X.w) a (q93 ry) hd) ⟨_,dd.mapOf,h _ _ (I.tok _) ?_⟩
  rw[l]
  exact(rel.val k).getD rfl
 ·subst ey
  cases(show u=Value.ref b from ry)
  obtain⟨z,hd,xs,rel,dd⟩:=q7T I.hok e
  refine call_meetsIn zb8 dd.typeIs PySem.F.entry_dict_get (PySem.F.args_dict_get_2 _ _) (meetsH_dict_get (tupleKind (qX X.prog X.w)) a b hd) ⟨tupleKind_room_in1 hu,k,xs,q3g I.hok eb,dd,h _ _ (I.tok _) ?_⟩
  rw[l]
  exact(rel.val k).getD rfl
end
def qbj (td ty:TE):TE:=fun σ H Q=>td σ H fun x H1=>∃a,x= .ref a/\IsD H1 a/\ty σ H1 fun y H2=>∃o,DGet H2 a y o/\Q (o.getD .non) H2
section
variable {X:Cx}{o e f:Expr}{apos cpos:Pos}{td ty tx:TE}
theorem qam (hu:X.A.units+1<cLine)(ho:PE X o td)(he:PE X e ty)(m:M1 X o "get" apos e cpos):PE X (.Call (.Attribute o "get" apos) [e] [] cpos) (qbj td ty):=by
 intro pins s σ H Q I h
 refine wpAny_Call_method m.base m.few m.line PySem.F.plainAttrs_dict zb8 PySem.F.type_dict_get (thn (ho pins s σ H _ I h) fun u s1 ⟨x,H1,I1,rx,a,ex,d,q1⟩=>?_)
 subst ex
 obtain rfl:u=Value.ref a:=rx
 obtain⟨t1,t2,_⟩:=isD_at I1 d
 refine⟨t1,t2,?_⟩
 rw[m.trees]
 refine zbB rfl (zcd (Calls.spliced_cons (thn (he pins s1 σ H1 _ I1 q1) fun iv s2 ⟨y,H2,I2,ry,ov,g,q2⟩=>Calls.spliced_nil ?_)))
 exact d_get1 hu I2 g ry fun w' s3 I3 rw'=>⟨_,H2,I3,rw',q2⟩
end
end L2
namespace Att
open PySem PySem.W PySem.Calls PyProof.Rows
end Att
namespace L2
open PySem PySem.Spec PyProof.Rows
end L2
namespace L2
open PySem PySem.Spec PyProof.Rows
def qbh (te:TE):TE:=fun σ H Q=>te σ H fun x H1=>∃a kvs,x= .ref a/\H1 a=some (.dT kvs)/\∀o,Q x (upd H1 a (.frz o (.dT kvs)))
theorem q8E {X:Cx}{e:Expr}{te:TE}(he:PE X e te):PE X e (qbh te):=by
 intro pins s σ H Q I h
 refine thn (he pins s σ H _ I h) fun v s1 ⟨x,H1,I1,r1,q1⟩=>?_
 obtain⟨a,kvs,ex,e1,k⟩:=q1
 obtain⟨o,I2⟩:=I1.hold e1
 exact⟨x,_,I2,r1,k o⟩
section
variable {σ:St}{H:Hp}{Q:VK}{te td ty:TE}
theorem qch (q:te σ H fun x H1=>∃a kvs,x= .ref a/\H1 a=some (.dT kvs)/\∀o,Q x (upd H1 a (.frz o (.dT kvs)))):qbh te σ H Q:=q
theorem r_dgm (q:td σ H fun x H1=>∃a,x= .ref a/\IsD H1 a/\ty σ H1 fun y H2=>∃o,DGet H2 a y o/\Q (o.getD .non) H2):qbj td ty σ H Q:=q
end
end L2
namespace L2
open PySem PySem.Spec PyProof.Rows PySem.W
end L2
namespace L2
open PySem PySem.Spec PyProof.Rows
end L2
namespace L2
open PySem PySem.Spec PyProof.Rows
end L2
namespace L2
open PySem PySem.Spec PyProof.Rows
end L2
namespace L2
open PySem PySem.Spec PyProof.Rows
end L2
namespace L2
open PySem PySem.Spec PyProof.Rows
end L2
namespace L2
open PySem PySem.Spec PyProof.Rows
structure M2 (X:Cx)(o:Expr)(m:Str)(apos:Pos)(e f:Expr)(cpos:Pos):Prop where
 base:attributeBase o m X.env (eval o X.env)=eval o X.env
 few:((backTo cpos (starEach [e,f] X.env)).all (fun x=> !x.1)&&(backToKw cpos (keywordEach [] X.env)).all (fun x=>x.1.isSome)
  &&decide (([e,f]:List Expr).length+([]:List Keyword).length+(if ([]:List Keyword).isEmpty then 0 else 1)<30))=true
 line:(apos.endLine==cpos.line)=true
 trees:backTo cpos (starEach [e,f] X.env)=[(false,eval e X.env),(false,eval f X.env)]
end L2
namespace Att
open PySem PySem.W PySem.Calls PyProof.Rows
end Att
namespace L2
open PySem PySem.Spec PyProof.Rows
end L2
namespace L2
open PySem PySem.Spec PyProof.Rows
section
variable {σ:St}{H:Hp}{Q:VK}{td ty tx:TE}{nx bk ct:St->Hp->Prop}{rt:VK}
theorem r_cont (q:ct σ H):tCont ⟨nx,rt,bk,ct⟩ σ H:=q
end
end L2
namespace DI
open PySem PySem.W PyProof.Rows
theorem src {prog:Program}{w:World}{d:Addr}{o:Obj}{es:Array DictEntry}{ep:Nat}(hd:(d==sysModules)=false)(hx:o.ExactDict)(hdat:o.data= .dict es ep):KdlSrc prog w "dict" d d es.size (fun i v=>∃h:i<es.size,v=es[i].key) (fun h=>h.get? d=some o) where
 type:=fun s ho=>ty ho hx
 there:=fun _ ho=>⟨zt ho,zt ho⟩
 keep:=fun _ _ ho k=>k d (.inl rfl) o ho
 notList:=by decide
 notTuple:=by decide
 hint:=fun _ _ _ _ ho hq=>kdl_hint_dict (ty ho hx) hq
 iter:=fun A s hh ho=>by
  refine⟨_,fun i h=>h.IsKeyIter s.heap.objs.size d i es.size ep/\h.get? d=some o,(fun _ _ hq=>keys hd ho hx hdat hq),⟨?_,?_,?_,?_,?_⟩,⟨_,zB _ rfl,rfl,rfl⟩,zg _ ho⟩
  ·intro b hb
   exact zx.mpr (.inl (zp.mp hb))
  ·intro i h h' ⟨st,e⟩ k
   exact⟨st.at fun o e=>k _ (by simp) o e,k d (by simp) o e⟩
  ·intro i s' Q E hi ⟨st,e⟩ hQ
   refine q90 st e hdat hi fun h' st' sb=>?_
   have ne:d≠s.heap.objs.size:=zC (zt ho)
   exact hQ _ h' s'.toks ⟨hi,rfl⟩ ⟨st',(sb.2 d ne).trans e⟩ fun b o hb q=>(sb.2 b fun z=>hb (by simp[z])).trans q
  ·intro s' Q E ⟨st,e⟩ hQ
   exact qbF hh st e hdat (ze _) fun h' eb=>hQ h' s'.toks fun b o hb q=>eb b o (fun z=>hb (by simp[z])) q
  ·intro i s' Q E ⟨st,e⟩ hQ
   exact wpAny_pyIter_keyiter st hQ
end DI
namespace L2
open PySem PySem.Spec PyProof.Rows PySem.W
def rLstD:List V->Hp->VK->Prop:=fun xs H Q=>∃(a:Addr) (kvs:List (List Key×V)),xs=[.ref a]/\H a=some (.dT kvs)/\
 ∀(q:Addr) (bs:List Addr),H q=none->bs.length=kvs.length->(∀(i:Nat) (b:Addr) (p:List Key×V),bs[i]? =some b->kvs[i]? =some p->H b=some (.tup (p.1.map kV)))->Q (.ref q) (upd H q (.lst (bs.map V.ref)))
theorem lstD {X:Cx}(hc:X.calm=true:=by rfl):q1j X (.type "list") rLstD:=by
 intro pins s σ H xs us Q I r h
 obtain⟨a,kvs,rfl,ha,q⟩:=h
 obtain⟨u,rfl,rx⟩:=q3j r
 cases rx
 obtain⟨o,es,ep,bs,ho,hx,hd,hs,hz,hes,hbl,hb⟩:=I.dictAt ha
 have hsz:es.size=kvs.length:=by
  have:=zag List.length hes
  rw[yC,yC,zaa] at this
  omega
 refine kdl_call (DI.src hs hx hd) (I.ok.hd hc) ho (by omega) fun h' tk acc c hk hD hI=>?_
 have eacc:acc.toList=bs.map Value.ref:=by
  rw[<-hes]
  refine zbg fun j=>?_
  rw[zbe,zJ,zbe]
  by_cases hj:j<es.size
  ·have hj':j<acc.size:=by rw[hI.1];exact hj
   obtain⟨_,e⟩:=hI.2 j _ (zbl hj')
   rw[zbl hj',zbl hj,e]
   rfl
  ·rw [Array.getElem?_eq_none (by rw[hI.1];omega),Array.getElem?_eq_none (by omega)]
   rfl
 have rv:∀bs:List Addr,Vals (bs.map V.ref) (bs.map Value.ref):=fun bs=>by
  induction bs with
  |nil=>exact .nil
  |cons b bs ih=>exact .cons rfl ih
 refine⟨.ref s.heap.objs.size,_,I.laid (t':=tk) hk (ze _) (show q0l X.prog X.w _ h' _ (.lst (bs.map V.ref)) from⟨by rw[yC];omega,acc.toList,c,by rw[eacc];exact rv bs,by rw[Array.toArray_toList];exact hD⟩),rfl,q _ bs (I.hok.fresh (ze _)) hbl hb⟩
section
variable {prog:Program}{w:World}{A:Around}{E:Value->Shared->Prop}{s:Shared}
theorem q7K {d:Addr}{o:Obj}{es:Array DictEntry}{ep:Nat}(hd:(d==sysModules)=false)(hdat:o.data= .dict es ep):
  MeetsIn prog w (Builtin.«dict.__len__» ⟨[.ref d],[]⟩) (fun _ R s=>s.heap.get? d=some o/\R (.ok (.ret (.int es.size s.toks))) {s with toks:=s.toks+1}):=
 .of_wp fun A R s ⟨ho,h⟩=>by
  show wpAny _ _ (dictSize d >>= _) _ _ s
  unfold dictSize
  refine yD (yD (za5 ho hdat (zc ?_)))
  show wpAny _ _ (Builtin.Dict.pendingCount d >>= _) _ _ s
  refine yD (wpAny_pendingCount_other hd ?_)
  refine wpAny_ret_mkInt ?_
  rw[zcO]
  exact h
theorem q7W {d:Addr}{o:Obj}{es:Array DictEntry}{ep:Nat}{Q:Value->Shared->Prop}(hd:(d==sysModules)=false)(ho:s.heap.get? d=some o)(hx:o.ExactDict)(hdat:o.data= .dict es ep)(hfit:(es.size:Int)<2 ^ 63)
  (h:Q (.int es.size (s.toks+1)) {s with toks:=s.toks+1+1}):wpAny (model prog w) A (call (.builtin "len") [.ref d]) Q E s:=by
 refine zcI kind_len plain_len entry_len (args_len1 _) ?_
 unfold Builtin.«len»
 refine yD (m:=oneArg "len" _) (zc ?_)
 refine yD (m:=callSpecial? (.ref d) (Str.ofString "__len__")) (zan (name:=Str.ofString "__len__") (DI.ty ho hx) F.slot_dict_len
  (call_meetsIn F.slot_dict_len (DI.ty ho hx) F.entry_dict_len (F.args_dict_len_1 _) (q7K hd hdat) ⟨ho,?_⟩))
 show wpAny _ _ _ _ _ {s with toks:=s.toks+1}
 refine yD (zaR (zc ?_))
 refine yD (wpAny_letGo ?_)
 show wpAny _ _ (if ((es.size:Nat):Int)<0 then _ else _) _ _ _
 rw[zd (by omega)]
 show wpAny _ _ (if ((es.size:Nat):Int)≥2 ^ 63 then _ else _) _ _ _
 rw[zd (by omega)]
 exact yD (wpAny_mkInt (zc ⟨_,rfl,h⟩))
end
def rLenT:List V->Hp->VK->Prop:=fun xs H Q=>∃(a:Addr) (kvs:List (List Key×V)),xs=[.ref a]/\H a=some (.dT kvs)/\Q (.int kvs.length) H
theorem lenT {X:Cx}:q1j X (.builtin "len") rLenT:=by
 intro pins s σ H xs us Q I r h
 obtain⟨a,kvs,rfl,ha,q⟩:=h
 obtain⟨u,rfl,rx⟩:=q3j r
 cases rx
 obtain⟨o,es,ep,bs,ho,hx,hd,hs,hz,hes,hbl,hb⟩:=I.dictAt ha
 have hsz:es.size=kvs.length:=by
  have:=zag List.length hes
  rw[yC,yC,zaa] at this
  omega
 refine q7W hs ho hx hd (by rw[hsz];rw[sizeLine_eq] at hz;omega) ⟨.int kvs.length,H,(I.tok _).tok _,⟨s.toks+1,?_⟩,q⟩
 rw[hsz]
end L2
namespace L2
open PySem PySem.Spec PyProof.Rows
section
variable {prog:Program}{w:World}{A:Around}{R:Result->Shared->Prop}{s:Shared}
theorem q55 {elt target iter:Expr}{ifs:List Expr}{scope:Scope}{pos:Pos}{it acc:Value}{env:Env}(J:Nat->Shared->Prop)(Ex:Value->Shared->Prop)(hEx:∀x s,Ex x s->notedBy (model prog w) A env (fun x s'=>R (.error x) s') x s)
  (turn:∀n s,J n s->wpAny (model prog w) A (pyNext it) (fun r s₁=>match r with
   |none=>R (.ok .next) s₁
   | some v=>wpAny (model prog w) A (letOwnedTupleGo target it v) (fun _ s₂=>wpAny (model prog w) A (assign target env v) (fun _ s₃=>
     wpAny (model prog w) A (forIn ifs true fun c r=>if r=true then do let ok<-isTrue c env (eval c env);pure (ForInStep.yield ok) else pure (ForInStep.yield r)) (fun ok s₄=>
      if ok=true then wpAny (model prog w) A (eval elt env) (fun x s₅=>
       wpAny (model prog w) A (call (.builtin "list.append") [acc,x]) (fun _ s₆=>∃m,m<n/\J m s₆) Ex s₅) Ex s₄
      else∃m,m<n/\J m s₄) Ex s₃) Ex s₂) Ex s₁) Ex s)
  (n:Nat)(h:J n s):
  codeAny (model prog w) A (.compLoop (.ListComp elt [⟨target,iter,ifs,0⟩] scope pos) 0 it acc env) R s:=by
 refine codeAny_loop rfl J (fun n s hI=>?_) n h
 show wpAny _ A ((compTurn (.ListComp elt [⟨target,iter,ifs,0⟩] scope pos) 0 it acc env).onRaise (fun x=>do noteFrame x env;theTreesLotGoes x)) _ _ s
 refine wpAny_noted (zZ ?_ (fun _ _ q=>q) hEx)
 rw[compTurn_list]
 refine yD (zcv (yD (zZ (turn n s hI) (fun r s₁ h₁=>?_) fun _ _ h'=>h')))
 cases r with
 |none=>exact zc h₁
 |some v=>
  refine yD (zZ h₁ (fun _ s₂ h₂=>yD (zZ h₂ (fun _ s₃ h₃=>yD (zZ h₃ (fun ok s₄ h₄=>?_) fun _ _ h'=>h')) fun _ _ h'=>h')) fun _ _ h'=>h')
  cases ok with
  |false=>exact zc ⟨rfl,h₄⟩
  |true=>exact yD (yD (zZ h₄ (fun x s₅ h₅=>yD (zZ h₅ (fun _ s₆ h₆=>zc (zc ⟨rfl,h₆⟩)) fun _ _ h'=>h')) fun _ _ h'=>h'))
end
def xeC (X:Cx)(cenv:Env)(C:Addr):Value->Shared->Prop:=notedBy (model X.prog X.w) X.A cenv fun x s'=>∃m,s'.heap.Ns C m/\∀h',Heap.SameBut C s'.heap h'->∀cenv:Env,cenv.locals=C->wpAny (model X.prog X.w) X.A (PySem.passOn "comprehension.variables-let-go" x cenv:Sem Value) (fun _ _=>False) X.xe {s' with heap:=h'}
def q0t (X:Cx)(N:List Str)(scope:Scope)(C:Addr)(s:Shared)(H:Hp)(fp:List Addr):Cx:={q0v X N scope C s H fp with xe:=xeC X (compEnvC scope (clOf scope X.env) C X.env) C}
def Blk (X:Cx)(C:Addr)(s:Shared)(H:Hp)(fp:List Addr):Prop:=∃pins σ,Inv X pins σ H s/\C=s.heap.objs.size/\∀b∈fp,FpOk X pins H b
section
variable {X:Cx}{pins pins':List (Addr×Obj)}{σ σ':St}{H H':Hp}{s s':Shared}{N:List Str}{scope:Scope}{fp:List Addr}
theorem Inv.blockEndX (I:Inv X pins σ H s)(hf:∀b∈fp,FpOk X pins H b)(J:Inv (q0t X N scope s.heap.objs.size s H fp) pins' σ' H' s'):Inv X pins σ H' s':=
 I.call' (ch:=fp) J.os J.base J.hok J.bare fun b hb=>⟨(hf b hb).2.2.2.1,(hf b hb).2.1,(hf b hb).2.2.2.2.1,(hf b hb).2.2.2.2.2⟩
theorem Inv.toX (I:Inv (q0v X N scope s.heap.objs.size s H fp) pins' σ' H' s'):Inv (q0t X N scope s.heap.objs.size s H fp) pins' σ' H' s':=⟨⟨I.ok.mod,I.ok.kind,I.ok.glob,I.ok.blt,I.ok.above,I.ok.inj,I.ok.has,I.ok.cab,I.ok.hd,I.ok.frames,I.ok.stk,I.ok.exf,I.ok.bs,I.ok.bsz,I.ok.noex,I.ok.exfs,I.ok.funs,I.ok.frf⟩,I.os,I.bare,I.base,I.loc,I.cell,I.free,I.freeC,I.pin,I.hok,I.len⟩
end
section
variable {X:Cx}{N:List Str}{scope:Scope}{own:Nat}{caps:List Nat}{tg iter elt:Expr}{ifs:List Expr}{wi:TI}{g:TG}{tc:TT}{te:TE}{pos:Pos}
theorem q9A {use:Option (Value->Sem Unit)}{QQ:Value->Shared->Prop}(O:CompOk X N scope own caps)(hc:X.calm=true)(hi:PI X tg iter wi)(hg:∀C s H fp,Blk X C s H fp->PG (q0t X N scope C s H fp) tg g)(ht:∀C s H fp,Blk X C s H fp->PIfs (q0t X N scope C s H fp) ifs tc)
  (he:∀C s H fp,Blk X C s H fp->PE (q0t X N scope C s H fp) elt te)(hs:∀x,foldedSetIterable iter X.env x=pure x)
  {pins:List (Addr×Obj)}{s:Shared}{σ:St}{H:Hp}{Q:VK}(I:Inv X pins σ H s)(h:q7t wi g tc te own caps σ H Q)
  (fin:∀D C H' s' m,Inv X pins σ H' s'->Q (.ref D) H'->s'.heap.Ns C m->H' C=none->C≠X.env.locals->X.s₀.heap.objs.size<=C->(∀x c,X.env.cells.lookup x=some c->c≠C)->(∀p∈X.pn++pins,p.1≠C)->
   compPost (model X.prog X.w) X.A X.xe use QQ (.ref D) C (.ok .next) s'):
  wpAny (model X.prog X.w) X.A (comprehension (.ListComp elt [⟨tg,iter,ifs,0⟩] scope pos) scope X.env (firstIterPos [⟨tg,iter,ifs,0⟩] pos) (newList []) false (eval iter X.env) use) QQ X.xe s:=by
 refine wpAny_comprehension_free (use:=use) rfl hs (q2c (O.cells I.ok)) O.kind O.names (thn (hi pins s σ H _ I h) fun v s1 h1=>thn h1 fun itv s2 h2=>?_)
 obtain⟨it,fp,tn,J,H2,e,I2,T,st2,f2,q⟩:=h2
 subst e
 refine zad (wpAny_newFunctionEnv O.nocell (by intro y hy;simp at hy) (fun h₁ hns hsb=>?_) O.kind)
 dsimp only at hns hsb ⊢
 have hD:H2 s2.heap.objs.size=none:=I2.hok.fresh (ze _)
 obtain⟨W,⟨m0,w0⟩,turn⟩:=q s2.heap.objs.size hD
 have I3:Inv X pins σ (upd H2 s2.heap.objs.size (.lst [])) {s2 with heap:=s2.heap.push {cls:= .type "list",dict:=none,data:= .seq ([]:List Value).toArray}}:=
  I2.lnew (its:=[]) (t':=s2.toks) .nil (zak _)
 generalize hs3:({s2 with heap:=s2.heap.push {cls:= .type "list",dict:=none,data:= .seq ([]:List Value).toArray}}:Shared)=s3 at I3
 have hsz3:s3.heap.objs.size=s2.heap.objs.size+1:=by rw[<-hs3];exact zbG ..
 have hns':h₁.Ns s3.heap.objs.size (fun x=>([]:List (Str×Value)).reverse.lookup x):=by rw[<-hs3];exact hns
 have hk:∀b o,s3.heap.get? b=some o->h₁.get? b=some o:=fun b o e=>by
  rw[<-hs3] at e
  exact hsb.extBut b o (zC (zt e)) (zg _ e)
 have f3:∀b∈fp,FpOk X pins (upd H2 s2.heap.objs.size (.lst [])) b:=fun b hb=>by
  obtain⟨o,ho,_⟩:=T.obj _ _ st2 b hb
  exact⟨by rw[qj (zC (zt ho))];exact(f2 b hb).1,(f2 b hb).2⟩
 have hlt:∀b∈fp,b<s3.heap.objs.size:=fun b hb=>by
  obtain⟨o,ho,_⟩:=T.obj _ _ st2 b hb
  rw[hsz3]
  exact zbE (zt ho)
 have st3:tn 0 h₁:=T.keep _ _ _ st2 fun b hb o e=>hk b o (by rw[<-hs3];exact zg _ e)
 have C3:∀tk,Inv (q0t X N scope s3.heap.objs.size s3 (upd H2 s2.heap.objs.size (.lst [])) fp) [] (q2X own caps σ) (upd H2 s2.heap.objs.size (.lst [])) {s3 with heap:=h₁,toks:=tk}:=fun tk=>(I3.block O f3 hlt hns' hk).toX
 have nf3:∀b∈fp,(upd H2 s2.heap.objs.size (.lst [])) b=none:=fun b hb=>(f3 b hb).1
 have hCL:s3.heap.objs.size≠X.env.locals:=zcb I3.lt
 have hC1:X.s₀.heap.objs.size<=s3.heap.objs.size:=I3.sz
 have hC2:∀x c,X.env.cells.lookup x=some c->c≠s3.heap.objs.size:=fun x c e=>by
  obtain⟨v,z⟩:=I3.cell x c e
  exact zC z.lt
 have hC3:∀p∈X.pn++pins,p.1≠s3.heap.objs.size:=fun p hp=>zC (zt (I3.pin p hp).1)
 have hst:∀{H':Hp},(∀b∈fp,H' b=none)->∀b∈fp,FpOk (q0t X N scope s3.heap.objs.size s3 (upd H2 s2.heap.objs.size (.lst [])) fp) [] H' b:=fun hn b hb=>by
  refine⟨hn b hb,zC (hlt b hb),fun z=>?_,.inl hb,fun x c e=>(f3 b hb).2.2.2.2.1 x c (q56 (O.cells I.ok) e),fun p hp=>absurd (show p∈([]:List (Addr×Obj)) from hp) (by simp)⟩
  exact(C3 0).ok.exfs b hb z
 have loop:∀s4:Shared,(∃tk,s4={s3 with heap:=h₁,toks:=tk})->
   codeAny (model X.prog X.w) X.A (.compLoop (.ListComp elt [⟨tg,iter,ifs,0⟩] scope pos) 0 (.ref it) (.ref s2.heap.objs.size) (compEnvC scope (clOf scope X.env) s3.heap.objs.size X.env))
    (compPost (model X.prog X.w) X.A X.xe use QQ (.ref s2.heap.objs.size) s3.heap.objs.size) s4:=by
  rintro s4 ⟨tk,rfl⟩
  have hB:Blk X s3.heap.objs.size s3 (upd H2 s2.heap.objs.size (.lst [])) fp:=⟨pins,σ,I3,rfl,f3⟩
  refine q55 (fun n s'=>∃i σ' H',Inv (q0t X N scope s3.heap.objs.size s3 (upd H2 s2.heap.objs.size (.lst [])) fp) [] σ' H' s'/\tn i s'.heap/\(∀b∈fp,H' b=none)/\W i n σ' H') (q0t X N scope s3.heap.objs.size s3 (upd H2 s2.heap.objs.size (.lst [])) fp).xe (fun x s h=>by cases use<;>exact h) ?_ m0 ⟨0,_,_,C3 tk,st3,nf3,w0⟩
  rintro n s5 ⟨i,σ5,H5,I5,st5,fr5,w5⟩
  rcases turn i n σ5 H5 w5 with⟨stop,qn⟩|⟨go,NN,hN,step⟩
  ·refine thn (T.done (q0t X N scope s3.heap.objs.size s3 (upd H2 s2.heap.objs.size (.lst [])) fp) rfl rfl rfl hc i [] s5 σ5 H5 _ I5 (hst fr5) st5 stop) fun r s6 ⟨hr,I6⟩=>?_
   subst hr
   obtain⟨m6,hn6,_⟩:=id I6.loc
   exact fin _ _ H5 s6 m6 (I3.blockEndX f3 I6) qn hn6 I6.free hCL hC1 hC2 hC3
  ·refine thn (T.item (q0t X N scope s3.heap.objs.size s3 (upd H2 s2.heap.objs.size (.lst [])) fp) rfl rfl rfl hc i [] s5 σ5 H5 _ I5 (hst fr5) st5 go) fun r s6 ⟨u,hr,h6⟩=>?_
   subst hr
   refine thn h6 fun _ s7 ⟨x,H7,I7,r7,y7,st7,fr7⟩=>?_
   have I7':=I7.pinned (hst fr7) (T.obj _ _ st7)
   refine thn (hg _ _ _ _ hB _ s7 σ5 H7 x u _ I7' r7 (step x H7 y7)) fun _ s8 ⟨σ8,H8,I8,q8⟩=>?_
   refine thn (ht _ _ _ _ hB _ s8 σ8 H8 _ I8 q8) fun ok s9 ⟨H9,I9,q9⟩=>?_
   have again:∀{s10:Shared} {σ10:St} {H10:Hp},Inv (q0t X N scope s3.heap.objs.size s3 (upd H2 s2.heap.objs.size (.lst [])) fp) ([]++q4r fp s7.heap) σ10 H10 s10->NN σ10 H10->
     ∃m,m<n/\∃i σ' H',Inv (q0t X N scope s3.heap.objs.size s3 (upd H2 s2.heap.objs.size (.lst [])) fp) [] σ' H' s10/\tn i s10.heap/\(∀b∈fp,H' b=none)/\W i m σ' H':=fun {s10 σ10 H10} I10 n10=>by
    obtain⟨m',hm,w10⟩:=hN σ10 H10 n10
    refine⟨m',hm,i+1,σ10,H10,I10.unpinned,T.keep _ _ _ st7 fun b hb o e=>(I10.pin (b,o) (zI _ (zI _ (q13 hb e)))).1,fun b hb=>?_,w10⟩
    obtain⟨o,e,d⟩:=T.obj _ _ st7 b hb
    exact(I10.pin (b,o) (zI _ (zI _ (q13 hb e)))).2.1
   cases ok with
   |false=>
    rw[zd zl] at q9 ⊢
    exact again I9 q9
   |true=>
    rw[zi rfl] at q9 ⊢
    refine thn (he _ _ _ _ hB _ s9 σ8 H9 _ I9 q9) fun y s10 ⟨vy,H10,I10,r10,ys,hys,hyl,q10⟩=>?_
    refine thn (qS (X:=q0t X N scope s3.heap.objs.size s3 (upd H2 s2.heap.objs.size (.lst [])) fp) _ s10 σ8 H10 (.ref s2.heap.objs.size) [vy] (.ref s2.heap.objs.size) [y] (fun _ H11=>NN σ8 H11) I10 rfl (.cons r10 .nil) ⟨_,ys,vy,rfl,rfl,hys,hyl,q10⟩) fun _ s11 ⟨_,H11,I11,_,q11⟩=>?_
    exact again I11 q11
 subst hs3
 exact codeAny_compStart_list (loop _ ⟨_,rfl⟩) (T.self _ _ _ _ _ st3 (loop _ ⟨_,rfl⟩))
theorem qan (O:CompOk X N scope own caps)(hc:X.calm=true)(hi:PI X tg iter wi)(hg:∀C s H fp,Blk X C s H fp->PG (q0t X N scope C s H fp) tg g)(ht:∀C s H fp,Blk X C s H fp->PIfs (q0t X N scope C s H fp) ifs tc)
  (he:∀C s H fp,Blk X C s H fp->PE (q0t X N scope C s H fp) elt te)(hs:∀x,foldedSetIterable iter X.env x=pure x:=by intro _;rfl):PE X (.ListComp elt [⟨tg,iter,ifs,0⟩] scope pos) (q7t wi g tc te own caps):=by
 intro pins s σ H Q I h
 rw[eval_ListComp]
 refine q9A (use:=none) O hc hi hg ht he hs I h fun D C H' s' m I' q hn h0 h1 h2 h3 h4=>?_
 exact⟨m,hn,fun h' sb=>⟨.ref D,H',I'.off h0 h1 h2 h3 h4 sb,rfl,q⟩⟩
end
def hOne (K:W.Frag)(C:Addr)(t:TS):TH:=fun cls od D σ H=>PySem.W.exmOne K cls (.ref C)=some true/\t D σ H
theorem qbu {X:Cx}{x:Str}{C:Addr}{b0:Stmt}{suite:List Stmt}{np pos:Pos}{rest:List ExceptHandler}{t:TS}(K:W.Frag)(hx:X.ex=[])(hg:Gl X x)(hm:X.mg x=some (.ref C))
  (hs:∀v,PSs (X.marked v) (b0::suite) t)(hd:(x==("__debug__":Str))=false:=by decide)(hK:X.K=K:=by rfl):
  PH X (.ExceptHandler (some (.Name x np)) none (b0::suite) pos::rest) (hOne K C t):=by
 subst hK
 intro pins s σ H D a cls od c ⟨h1,h2⟩
 refine wpAny_handleBy_cons (codeAny_handlers_test (q2b (X:=X.marked (.ref a)) (c.inv.marked _) hg hm ?_ hd)) (by intro y;cases y)
 refine(PySem.W.exm_one c.inv.kIn c.type h1).here ?_
 refine codeAny_handlers_suite ?_
 obtain⟨base,a0,fly,back⟩:=c.opened hx
 refine q6f fly c.fly.dict fun h6 fly6 D6 up6=>?_
 have c6:=back h6 fly6 D6 up6
 exact zZ (hs (.ref a) pins _ σ H D (c6.inv.marked _) h2) (fun f s7 y=>y.unmarked c.inv.ok) fun _ _ y=>False.elim y
def d3 (a1 b1 a2 b2 a3 b3:Str):List (Key×V):=mergeK [] [(.inr a1,.str b1),(.inr a2,.str b2),(.inr a3,.str b3)]
end L2
namespace Srt
open PySem PySem.W PyProof.Rows
variable {O:KeyOrd}{key:Nat->O.α}{n:Nat}
end Srt
namespace Srt
open PySem PySem.W PyProof.Rows
def LO:KeyOrd where
 α:=List Int
 blt a b:=decide (a<b)
 irrefl a:=zn (List.lt_irrefl a)
 trans a b c h1 h2:=zu (List.lt_trans (za4 h1) (za4 h2))
 negTrans a b c h:=by
  have h:=za4 h
  by_cases h1:a<b
  ·exact .inl (zu h1)
  ·by_cases h2:b<c
   ·exact .inr (zu h2)
   ·exact absurd h (zbL.mpr (List.le_trans (zbL.mp h2) (zbL.mp h1)))
 total a b h1 h2:=List.le_antisymm (zbL.mp (zaW h2)) (zbL.mp (zaW h1))
section
variable {prog:Program}{w:World}{A:Around}{E:Value->Shared->Prop}{s:Shared}{Q:Bool->Shared->Prop}
theorem lex:∀{us vs:List Value} {ks js:List Int} {i:Nat},IntsAre us ks->IntsAre vs js->ks.length=js.length->Q (decide (ks<js)) s->KatLex prog w A true false Q (us.zip vs) i s
 |_,_,[],[],i,.nil,.nil,_,h=>by
  have e:decide (([]:List Int)<[])=false:=rfl
  rw[e] at h
  exact h
 |_,_,k::ks,j::js,i,.cons _ t hu,.cons _ t' hv,hl,h=>by
  refine kat_cons (zcK ?_)
  by_cases e:k=j
  ·subst e
   rw[show(k==k)=true by simp]
   refine kat_yes (lex hu hv (by simpa using hl) ?_)
   have e2:decide (k::ks<k::js)=decide (ks<js):=by simp[List.cons_lt_cons_iff]
   rw[e2] at h
   exact h
  ·rw [show(k==j)=false by simpa using e]
   have e2:decide (k::ks<j::js)=decide (k<j):=by simp[List.cons_lt_cons_iff,e]
   rw[e2] at h
   refine kat_no ?_
   by_cases hi:i=0
   ·subst hi
    exact oneLt_int h
   ·rw [show(true&&i==0)=false by simpa using hi]
    exact kat_one _ _ (lt_int h)
end
end Srt
namespace L2
open PySem PySem.Spec PyProof.Rows PySem.W
theorem pw_two {α:Type}{R:α->α->Prop}:∀{l:List α},l.length<2->l.Pairwise R
 |[],_=> .nil
 |[_],_=>List.pairwise_singleton _ _
 |_::_::_,h=>absurd h (by simp)
theorem q4E {X:Cx}{pins:List (Addr×Obj)}{σ:St}{H:Hp}{s:Shared}{b:Addr}{ks:List Int}(I:Inv X pins σ H s)(e:H b=some (.tup (ks.map V.int))):∃(o:Obj) (us:List Value) (n:Nat),s.heap.get? b=some o/\o.cls= .type "tuple"/\o.data= .seq us.toArray n/\IntsAre us ks:=by
 obtain⟨_,its,r,o,h1,h2,n,h3⟩:=(show q0l X.prog X.w H s.heap b (.tup (ks.map V.int)) from I.hok b _ e)
 exact⟨o,its,n,h1,h2,h3,q2i r⟩
theorem q4W {us:List Value}{ks:List Int}(h:IntsAre us ks):us.length=ks.length:=by
 induction h with
 |nil=>rfl
 |cons _ _ _ ih=>simp[ih]
end L2
namespace Tim
open PySem PySem.W PyProof.Rows
def q38:Bool->Keyed->Array Keyed->Nat->Nat->Nat->StateT SortSt Sem (Option Nat):=sortPriv% PySem.Builtin.gallop
def qaN:Array Keyed->Array Keyed->StateT SortSt Sem (Array Keyed):=sortPriv% PySem.Builtin.mergeLo
def qaO:Array Keyed->Array Keyed->StateT SortSt Sem (Array Keyed):=sortPriv% PySem.Builtin.mergeHi
structure Cmp (prog:Program)(w:World)(A:Around)(s:Shared)(κ:SortKind)(O:KeyOrd)(kf:Keyed->O.α)(Ok:Keyed->Prop):Prop where
 lt:∀(x y:Keyed) (Q:Bool->Shared->Prop) (E:Value->Shared->Prop),Ok x->Ok y->Q (O.blt (kf x) (kf y)) s->wpAny (model prog w) A (keyLt' κ x.1 y.1) Q E s
section
variable {prog:Program}{w:World}{A:Around}{E:Value->Shared->Prop}{s:Shared}{κ:SortKind}{O:KeyOrd}{kf:Keyed->O.α}{Ok:Keyed->Prop}
theorem w_lt (c:Cmp prog w A s κ O kf Ok){x y:Keyed}{st:SortSt}{Q:Option Bool->SortSt->Prop}(hk:kindOf st=κ)(hx:Ok x)(hy:Ok y)(h:Q (some (O.blt (kf x) (kf y))) st):wpS (model prog w) A E s (lt' x y) Q st:=by
 rw[lt'_eq]
 refine zf (zbM (zf (zcn (zb1 ?_))))
 rw[hk]
 exact c.lt x y _ _ hx hy ⟨rfl,zj h⟩
theorem q0b {arr:Array Keyed}{i:Nat}{p:Keyed}{st:SortSt}{Q:Keyed->SortSt->Prop}(hp:arr[i]? =some p)(h:Q p st):wpS (model prog w) A E s (elem' arr i) Q st:=by
 rw[elem'_eq,hp]
 exact zj h
def bey (left:Bool)(key:Keyed)(arr:Array Keyed)(base i:Nat):StateT SortSt Sem (Option Bool):=
 elem' arr (base+i) >>= fun x=>if left=true then lt' x key else lt' key x >>= fun r=>pure (r.map (!·))
abbrev bdB (kf:Keyed->O.α)(left:Bool)(key p:Keyed):Bool:=if left=true then O.blt (kf p) (kf key) else !O.blt (kf key) (kf p)
theorem w_bey (c:Cmp prog w A s κ O kf Ok){left:Bool}{key p:Keyed}{arr:Array Keyed}{base i:Nat}{st:SortSt}{Q:Option Bool->SortSt->Prop}(hk:kindOf st=κ)(hp:arr[base+i]? =some p)(op:Ok p)(ok:Ok key)(h:Q (some (bdB kf left key p)) st):wpS (model prog w) A E s (bey left key arr base i) Q st:=by
 refine zf (q0b hp ?_)
 cases left with
 |true=>exact w_lt c hk op ok h
 |false=>exact zf (w_lt c hk ok op (zj h))
theorem q2E (c:Cmp prog w A s κ O kf Ok){left:Bool}{key:Keyed}{arr:Array Keyed}{base n hint:Nat}{B:Nat->Bool}{st:SortSt}{Q:Option Nat->SortSt->Prop}(hk:kindOf st=κ)(hn:hint<n)(ok:Ok key)
  (hB:∀i,i<n->∃p,arr[base+i]? =some p/\Ok p/\bdB kf left key p=B i)(mo:∀i j,i<=j->j<n->B j=true->B i=true)
  (h:∀k,k<=n->(∀i,i<k->B i=true)->(∀i,k<=i->i<n->B i=false)->Q (some k) st):wpS (model prog w) A E s (q38 left key arr base n hint) Q st:=by
 have bq:∀{i:Nat} {R:Option Bool->SortSt->Prop},i<n->R (some (B i)) st->wpS (model prog w) A E s (bey left key arr base i) R st:=fun {i R} hi hR=>by
  obtain⟨p,h1,h2,h3⟩:=hB i hi
  rw[<-h3] at hR
  exact w_bey c hk h1 h2 ok hR
 have mf:∀i j,i<=j->j<n->B i=false->B j=false:=fun i j h1 h2 h3=>by
  cases e:B j with
  |false=>rfl
  |true=>rw[mo i j h1 h2 e] at h3;cases h3
 refine zf (bq hn ?_)
 dsimp only
 cases hb:B hint with
 |true=>
  rw[zi rfl]
  refine zf (zaH (zaA (I:=fun(x:Nat) (c:Option (Option Nat)×Nat×Nat) (st':SortSt)=>st=st'/\c.1=none/\c.2.1<c.2.2/\x+1<=c.2.2/\hint+c.2.1<n/\B (hint+c.2.1)=true)
   (Q:=fun(c:Option (Option Nat)×Nat×Nat) (st':SortSt)=>st=st'/\c.1=none/\c.2.1<c.2.2/\hint+c.2.1<n/\B (hint+c.2.1)=true/\(n - hint<=c.2.2\/hint+c.2.2<n/\B (hint+c.2.2)=false)) ?_ ?_ (show _/\_ from⟨rfl,rfl,Nat.zero_lt_one,ze _,hn,hb⟩)) ?_)
  ·rintro x ⟨r,lo,ofs⟩ st' _ hx ⟨rfl,rfl,h1,h2,h3,h4⟩
   dsimp only at h1 h2 h3 h4 ⊢
   by_cases hge:ofs≥n - hint
   ·rw [zi hge]
    exact zj ⟨rfl,rfl,h1,h3,h4,.inl hge⟩
   ·rw [zd hge]
    refine zf (bq (i:=hint+ofs) (by omega) ?_)
    dsimp only
    cases e:B (hint+ofs) with
    |true=>
     rw[zd (by decide)]
     exact zj ⟨rfl,rfl,by show ofs<2*ofs+1;omega,by show x+1+1<=2*ofs+1;omega,by show hint+ofs<n;omega,e⟩
    |false=>
     rw[zi (by decide)]
     exact zj ⟨rfl,rfl,h1,h3,h4,.inr ⟨by show hint+ofs<n;omega,e⟩⟩
  ·rintro ⟨r,lo,ofs⟩ st' ⟨rfl,rfl,h1,h2,h3,h4⟩
   exact⟨rfl,rfl,h1,h3,h4,.inl (by show n - hint<=ofs;have h2':max 0 n+1<=ofs:=h2;omega)⟩
  ·rintro ⟨r,lo,ofs⟩ st' ⟨rfl,rfl,h1,h3,h4,h5⟩
   dsimp only at h1 h3 h4 h5 ⊢
   have k1:hint+lo+1<=hint+min ofs (n - hint):=by omega
   have k2:hint+min ofs (n - hint)<=n:=by omega
   have k3:∀i,i<hint+lo+1->B i=true:=fun i hi=>mo i (hint+lo) (by omega) h3 h4
   have k4:∀i,hint+min ofs (n - hint)<=i->i<n->B i=false:=fun i h1 h2=>by
    rcases h5 with h5|⟨h5,h6⟩
    ·omega
    ·exact mf (hint+ofs) i (by omega) h2 h6
   generalize hint+lo+1=lo' at k1 k3 ⊢
   generalize hint+min ofs (n - hint)=hi' at k1 k2 k4 ⊢
   refine zf (zaH (zaA (I:=fun(x:Nat) (c:Option (Option Nat)×Nat×Nat) (st':SortSt)=>st=st'/\c.1=none/\c.2.1<=c.2.2/\c.2.2<=n/\c.2.2 - c.2.1<=n - x/\(∀i,i<c.2.1->B i=true)/\∀i,c.2.2<=i->i<n->B i=false)
    (Q:=fun(c:Option (Option Nat)×Nat×Nat) (st':SortSt)=>st=st'/\c.1=none/\c.2.1=c.2.2/\c.2.2<=n/\(∀i,i<c.2.1->B i=true)/\∀i,c.2.2<=i->i<n->B i=false) ?_ ?_ (show _/\_ from⟨rfl,rfl,by show lo'<=hi';omega,k2,by show hi' - lo'<=n - 0;omega,k3,k4⟩)) ?_)
   ·rintro x ⟨r,lo,hi⟩ st' _ hx ⟨rfl,rfl,g1,g2,g3,g4,g5⟩
    dsimp only at g1 g2 g3 g4 g5 ⊢
    by_cases hge:lo≥hi
    ·rw [zi hge]
     exact zj ⟨rfl,rfl,by show lo=hi;omega,g2,g4,g5⟩
    ·rw [zd hge]
     refine zf (bq (i:=lo+(hi - lo) / 2) (by omega) ?_)
     dsimp only
     cases e:B (lo+(hi - lo) / 2) with
     |true=>
      rw[zi rfl]
      exact zj ⟨rfl,rfl,by show lo+(hi - lo) / 2+1<=hi;omega,g2,by show hi - (lo+(hi - lo) / 2+1)<=n - (x+1);omega,fun i hi'=>mo i _ (zcG hi') (by omega) e,g5⟩
     |false=>
      rw[zd (by decide)]
      exact zj ⟨rfl,rfl,by show lo<=lo+(hi - lo) / 2;omega,by show lo+(hi - lo) / 2<=n;omega,by show lo+(hi - lo) / 2 - lo<=n - (x+1);omega,g4,fun i h1 h2=>mf _ i h1 h2 e⟩
   ·rintro ⟨r,lo,hi⟩ st' ⟨rfl,rfl,g1,g2,g3,g4,g5⟩
    exact⟨rfl,rfl,by show lo=hi;have g1':lo<=hi:=g1;have g3':hi - lo<=n - max 0 n:=g3;omega,g2,g4,g5⟩
   ·rintro ⟨r,lo,hi⟩ st' ⟨rfl,rfl,g1,g2,g4,g5⟩
    dsimp only at g1 g2 g4 g5 ⊢
    subst g1
    exact zj (h lo g2 g4 g5)
 |false=>
  rw[zd (by decide)]
  refine zf (zaH (zaA (I:=fun(x:Nat) (c:Option (Option Nat)×Nat×Nat) (st':SortSt)=>st=st'/\c.1=none/\c.2.1<c.2.2/\x+1<=c.2.2/\c.2.1<=hint/\B (hint - c.2.1)=false)
   (Q:=fun(c:Option (Option Nat)×Nat×Nat) (st':SortSt)=>st=st'/\c.1=none/\c.2.1<c.2.2/\c.2.1<=hint/\B (hint - c.2.1)=false/\(hint+1<=c.2.2\/c.2.2<=hint/\B (hint - c.2.2)=true)) ?_ ?_ (show _/\_ from⟨rfl,rfl,Nat.zero_lt_one,ze _,zak _,hb⟩)) ?_)
  ·rintro x ⟨r,lo,ofs⟩ st' _ hx ⟨rfl,rfl,h1,h2,h3,h4⟩
   dsimp only at h1 h2 h3 h4 ⊢
   by_cases hge:ofs≥hint+1
   ·rw [zi hge]
    exact zj ⟨rfl,rfl,h1,h3,h4,.inl hge⟩
   ·rw [zd hge]
    refine zf (bq (i:=hint - ofs) (by omega) ?_)
    dsimp only
    cases e:B (hint - ofs) with
    |false=>
     rw[zd (by decide)]
     exact zj ⟨rfl,rfl,by show ofs<2*ofs+1;omega,by show x+1+1<=2*ofs+1;omega,by show ofs<=hint;omega,e⟩
    |true=>
     rw[zi rfl]
     exact zj ⟨rfl,rfl,h1,h3,h4,.inr ⟨by show ofs<=hint;omega,e⟩⟩
  ·rintro ⟨r,lo,ofs⟩ st' ⟨rfl,rfl,h1,h2,h3,h4⟩
   exact⟨rfl,rfl,h1,h3,h4,.inl (by show hint+1<=ofs;have h2':max 0 n+1<=ofs:=h2;omega)⟩
  ·rintro ⟨r,lo,ofs⟩ st' ⟨rfl,rfl,h1,h3,h4,h5⟩
   dsimp only at h1 h3 h4 h5 ⊢
   have k1:hint+1 - min ofs (hint+1)<=hint - lo:=by omega
   have k2:hint - lo<=n:=by omega
   have k3:∀i,i<hint+1 - min ofs (hint+1)->B i=true:=fun i hi=>by
    rcases h5 with h5|⟨h5,h6⟩
    ·omega
    ·exact mo i (hint - ofs) (by omega) (by omega) h6
   have k4:∀i,hint - lo<=i->i<n->B i=false:=fun i g1 g2=>mf (hint - lo) i g1 g2 h4
   generalize hint+1 - min ofs (hint+1)=lo' at k1 k3 ⊢
   generalize hint - lo=hi' at k1 k2 k4 ⊢
   refine zf (zaH (zaA (I:=fun(x:Nat) (c:Option (Option Nat)×Nat×Nat) (st':SortSt)=>st=st'/\c.1=none/\c.2.1<=c.2.2/\c.2.2<=n/\c.2.2 - c.2.1<=n - x/\(∀i,i<c.2.1->B i=true)/\∀i,c.2.2<=i->i<n->B i=false)
    (Q:=fun(c:Option (Option Nat)×Nat×Nat) (st':SortSt)=>st=st'/\c.1=none/\c.2.1=c.2.2/\c.2.2<=n/\(∀i,i<c.2.1->B i=true)/\∀i,c.2.2<=i->i<n->B i=false) ?_ ?_ (show _/\_ from⟨rfl,rfl,by show lo'<=hi';omega,k2,by show hi' - lo'<=n - 0;omega,k3,k4⟩)) ?_)
   ·rintro x ⟨r,lo,hi⟩ st' _ hx ⟨rfl,rfl,g1,g2,g3,g4,g5⟩
    dsimp only at g1 g2 g3 g4 g5 ⊢
    by_cases hge:lo≥hi
    ·rw [zi hge]
     exact zj ⟨rfl,rfl,by show lo=hi;omega,g2,g4,g5⟩
    ·rw [zd hge]
     refine zf (bq (i:=lo+(hi - lo) / 2) (by omega) ?_)
     dsimp only
     cases e:B (lo+(hi - lo) / 2) with
     |true=>
      rw[zi rfl]
      exact zj ⟨rfl,rfl,by show lo+(hi - lo) / 2+1<=hi;omega,g2,by show hi - (lo+(hi - lo) / 2+1)<=n - (x+1);omega,fun i hi'=>mo i _ (zcG hi') (by omega) e,g5⟩
     |false=>
      rw[zd (by decide)]
      exact zj ⟨rfl,rfl,by show lo<=lo+(hi - lo) / 2;omega,by show lo+(hi - lo) / 2<=n;omega,by show lo+(hi - lo) / 2 - lo<=n - (x+1);omega,g4,fun i h1 h2=>mf _ i h1 h2 e⟩
   ·rintro ⟨r,lo,hi⟩ st' ⟨rfl,rfl,g1,g2,g3,g4,g5⟩
    exact⟨rfl,rfl,by show lo=hi;have g1':lo<=hi:=g1;have g3':hi - lo<=n - max 0 n:=g3;omega,g2,g4,g5⟩
   ·rintro ⟨r,lo,hi⟩ st' ⟨rfl,rfl,g1,g2,g4,g5⟩
    dsimp only at g1 g2 g4 g5 ⊢
    subst g1
    exact zj (h lo g2 g4 g5)
end
end Tim
namespace Tim
open PySem PySem.W PyProof.Rows
section
variable {O:KeyOrd}{kf:Keyed->O.α}
def Srd (kf:Keyed->O.α)(l:List Keyed):Prop:=l.Pairwise fun x y=>O.kle (kf x) (kf y)
structure MI (kf:Keyed->O.α)(al bl ol:List Keyed)(ia ib:Nat):Prop where
 pm:ol.Perm (al.take ia++bl.take ib)
 so:Srd kf ol
 la:∀x∈ol,∀y∈al.drop ia,O.kle (kf x) (kf y)
 lb:∀x∈ol,∀y∈bl.drop ib,O.kle (kf x) (kf y)
def Res (kf:Keyed->O.α)(al bl:List Keyed)(r:Array Keyed):Prop:=r.toList.Perm (al++bl)/\Srd kf r.toList
theorem q9r {l:List Keyed}(h:Srd kf l){i j:Nat}(hij:i<=j){x y:Keyed}(hx:x∈(l.drop i).take (j - i))(hy:y∈l.drop j):O.kle (kf x) (kf y):=by
 have e:l.drop i=(l.drop i).take (j - i)++l.drop j:=by
  have:=(zD (j - i) (l.drop i)).symm
  rwa [List.drop_drop,show i+(j - i)=j by omega] at this
 have h2:Srd kf (l.drop i):=h.sublist (zar _ _)
 rw[e] at h2
 exact(zE.mp h2).2.2 x hx y hy
theorem q3T {l:List Keyed}{i j:Nat}(hij:i<=j){y:Keyed}(hy:y∈l.drop j):y∈l.drop i:=by
 have e:l.drop j=(l.drop i).drop (j - i):=by rw[List.drop_drop,show i+(j - i)=j by omega]
 rw[e] at hy
 exact za1 hy
theorem q5q {l:List Keyed}{i k:Nat}:l.take (i+k)=l.take i++(l.drop i).take k:=List.take_add
theorem MI.as {al bl ol:List Keyed}{ia ib:Nat}(k:Nat)(h:MI kf al bl ol ia ib)(sa:Srd kf al)(hl:∀x∈(al.drop ia).take k,∀z∈bl.drop ib,O.kle (kf x) (kf z)):MI kf al bl (ol++(al.drop ia).take k) (ia+k) ib:=by
 refine⟨?_,?_,fun x hx y hy=>?_,fun x hx y hy=>?_⟩
 ·rw [q5q,zq]
  refine(h.pm.append_right _).trans ?_
  rw[zq]
  exact zai _ zaD
 ·refine zE.mpr ⟨h.so,sa.sublist ((z8 _ _).trans (zar _ _)),fun x hx y hy=>h.la x hx y (zao hy)⟩
 ·rcases zr.mp hx with hx|hx
  ·exact h.la x hx y (q3T (by omega) hy)
  ·exact q9r sa (i:=ia) (j:=ia+k) (by omega) (by rw[show ia+k - ia=k by omega];exact hx) hy
 ·rcases zr.mp hx with hx|hx
  ·exact h.lb x hx y hy
  ·exact hl x hx y hy
theorem MI.bs {al bl ol:List Keyed}{ia ib:Nat}(k:Nat)(h:MI kf al bl ol ia ib)(sb:Srd kf bl)(hl:∀x∈(bl.drop ib).take k,∀z∈al.drop ia,O.kle (kf x) (kf z)):MI kf al bl (ol++(bl.drop ib).take k) ia (ib+k):=by
 refine⟨?_,?_,fun x hx y hy=>?_,fun x hx y hy=>?_⟩
 ·rw [q5q,<-zq]
  exact h.pm.append_right _
 ·refine zE.mpr ⟨h.so,sb.sublist ((z8 _ _).trans (zar _ _)),fun x hx y hy=>h.lb x hx y (zao hy)⟩
 ·rcases zr.mp hx with hx|hx
  ·exact h.la x hx y hy
  ·exact hl x hx y hy
 ·rcases zr.mp hx with hx|hx
  ·exact h.lb x hx y (q3T (by omega) hy)
  ·exact q9r sb (i:=ib) (j:=ib+k) (by omega) (by rw[show ib+k - ib=k by omega];exact hx) hy
theorem q3A {l:List Keyed}{i:Nat}{x:Keyed}(h:l[i]? =some x):(l.drop i).take 1=[x]:=by
 obtain⟨hi,e⟩:=yA h
 rw[zbP hi,e]
 rfl
theorem MI.a {al bl ol:List Keyed}{ia ib:Nat}{x:Keyed}(h:MI kf al bl ol ia ib)(sa:Srd kf al)(hx:al[ia]? =some x)(hl:∀z∈bl.drop ib,O.kle (kf x) (kf z)):MI kf al bl (ol++[x]) (ia+1) ib:=by
 have:=h.as 1 sa (by rw[q3A hx];intro y hy z hz;rw[zp.mp hy];exact hl z hz)
 rwa [q3A hx] at this
theorem MI.b {al bl ol:List Keyed}{ia ib:Nat}{x:Keyed}(h:MI kf al bl ol ia ib)(sb:Srd kf bl)(hx:bl[ib]? =some x)(hl:∀z∈al.drop ia,O.kle (kf x) (kf z)):MI kf al bl (ol++[x]) ia (ib+1):=by
 have:=h.bs 1 sb (by rw[q3A hx];intro y hy z hz;rw[zp.mp hy];exact hl z hz)
 rwa [q3A hx] at this
theorem MI.ab {al bl ol:List Keyed}{ia ib:Nat}{r:Array Keyed}(h:MI kf al bl ol ia ib)(sa:Srd kf al)(sb:Srd kf bl)(hl:∀x∈al.drop ia,∀y∈bl.drop ib,O.kle (kf x) (kf y))(er:r.toList=ol++al.drop ia++bl.drop ib):Res kf al bl r:=by
 unfold Res
 rw[er]
 constructor
 ·refine ((h.pm.append_right _).append_right _).trans ?_
  rw[zq (al.take ia),zq,zq]
  refine(zai _ ?_).trans (zbz (by rw[<-zq,zD]))
  refine List.Perm.trans ?_ (zai _ (zbz (zD ib bl)))
  rw[<-zq,<-zq]
  exact zaD.append_right _
 ·exact zE.mpr ⟨zE.mpr ⟨h.so,sa.sublist (zar _ _),h.la⟩,sb.sublist (zar _ _),fun x hx y hy=>by
   rcases zr.mp hx with hx|hx
   ·exact h.lb x hx y hy
   ·exact hl x hx y hy⟩
theorem MI.ba {al bl ol:List Keyed}{ia ib:Nat}{r:Array Keyed}(h:MI kf al bl ol ia ib)(sa:Srd kf al)(sb:Srd kf bl)(hl:∀y∈bl.drop ib,∀x∈al.drop ia,O.kle (kf y) (kf x))(er:r.toList=ol++bl.drop ib++al.drop ia):Res kf al bl r:=by
 unfold Res
 rw[er]
 constructor
 ·refine ((h.pm.append_right _).append_right _).trans ?_
  rw[zq (al.take ia),zD,zq]
  refine(zai _ zaD).trans ?_
  rw[<-zq,zD]
 ·exact zE.mpr ⟨zE.mpr ⟨h.so,sb.sublist (zar _ _),h.lb⟩,sa.sublist (zar _ _),fun x hx y hy=>by
   rcases zr.mp hx with hx|hx
   ·exact h.la x hx y hy
   ·exact hl x hx y hy⟩
end
end Tim
namespace Tim
open PySem PySem.W PyProof.Rows
abbrev Stq (st st':SortSt):Prop:=kindOf st'=kindOf st/\arrOf st'=arrOf st/\pendingOf st'=pendingOf st/\failedOf st'=failedOf st
theorem q3a (a:Array Keyed)(i:Nat):(a.extract i a.size).toList=a.toList.drop i:=by
 rw[zbm,zaX]
 exact List.take_of_length_le (by simp)
theorem q9m (a:Array Keyed)(i k:Nat):(a.extract i (i+k)).toList=(a.toList.drop i).take k:=by
 rw[zbm,zaX,show i+k - i=k by omega]
theorem q0o {a:Array Keyed}{i:Nat}(h:i<a.size):∃x,a[i]? =some x/\a.toList[i]? =some x/\x∈a.toList:=⟨a[i],by simp[h],by simp[h],by simp⟩
theorem q3x {l:List Keyed}{i k:Nat}{x:Keyed}(h:x∈(l.drop i).take k):∃j,j<k/\l[i+j]? =some x:=by
 obtain⟨j,hj,e⟩:=zal h
 rw[zo] at hj
 refine⟨j,by omega,?_⟩
 rw[List.getElem_take,zcH] at e
 rw[<-e]
 exact yB _
theorem q0Q {l:List Keyed}{i:Nat}{x:Keyed}(h:x∈l.drop i):∃j,i+j<l.length/\l[i+j]? =some x:=by
 obtain⟨j,hj,e⟩:=zal h
 rw[zaF] at hj
 refine⟨j,by omega,?_⟩
 rw[zcH] at e
 rw[<-e]
 exact yB _
theorem use1 {P:Nat->Prop}{G:Prop}(h:∀n,P n)(k:(∀n,P n)->G):G:=k h
theorem use3 {F P:Array Keyed->Nat->Nat->Prop}{G:Prop}(h:∀o i j,F o i j->P o i j)(k:(∀o i j,F o i j->P o i j)->G):G:=k h
section
variable {prog:Program}{w:World}{A:Around}{E:Value->Shared->Prop}{s:Shared}{κ:SortKind}{O:KeyOrd}{kf:Keyed->O.α}{Ok:Keyed->Prop}
theorem q14 {l:List Keyed}(h:Srd kf l){i j:Nat}{x y:Keyed}(hij:i<=j)(hx:l[i]? =some x)(hy:l[j]? =some y):O.kle (kf x) (kf y):=by
 by_cases e:i=j
 ·subst e
  rw[hx] at hy
  cases hy
  exact zaL _
 ·obtain ⟨h1,e1⟩:=yA hx
  obtain⟨h2,e2⟩:=yA hy
  have:=zcJ.mp h i j h1 h2 (by omega)
  rwa [e1,e2] at this
theorem w_gl (c:Cmp prog w A s κ O kf Ok){key:Keyed}{arr:Array Keyed}{base:Nat}{st:SortSt}{Q:Option Nat->SortSt->Prop}(hk:kindOf st=κ)(hn:base<arr.size)(ok:Ok key)(oa:∀x∈arr.toList,Ok x)(sa:Srd kf arr.toList)
  (h:∀k,base+k<=arr.size->(∀x∈(arr.toList.drop base).take k,O.klt (kf x) (kf key))->(∀x∈arr.toList.drop (base+k),O.kle (kf key) (kf x))->Q (some k) st):wpS (model prog w) A E s (q38 true key arr base (arr.size - base) 0) Q st:=by
 refine q2E c (B:=fun i=>match arr[base+i]? with|some p=>O.blt (kf p) (kf key)|none=>false) hk (by omega) ok (fun i hi=>?_) (fun i j h1 h2 h3=>?_) fun k k1 k2 k3=>?_
 ·obtain ⟨x,h1,h2,h3⟩:=q0o (a:=arr) (i:=base+i) (by omega)
  exact⟨x,h1,oa x h3,by rw[h1];rfl⟩
 ·obtain ⟨x,x1,x2,x3⟩:=q0o (a:=arr) (i:=base+i) (by omega)
  obtain⟨y,y1,y2,y3⟩:=q0o (a:=arr) (i:=base+j) (by omega)
  rw[y1] at h3
  rw[x1]
  exact zbo (q14 sa (by omega) x2 y2) h3
 ·refine h k (by omega) (fun x hx=>?_) fun x hx=>?_
  ·obtain ⟨j,hj,e⟩:=q3x hx
   have:=k2 j hj
   rw[show arr[base+j]? =some x by simpa using e] at this
   exact this
  ·obtain ⟨j,hj,e⟩:=q0Q hx
   have:=k3 (k+j) (by omega) (by simp at hj;omega)
   rw[show arr[base+(k+j)]? =some x by rw[<-Nat.add_assoc];simpa using e] at this
   exact this
theorem w_gr (c:Cmp prog w A s κ O kf Ok){key:Keyed}{arr:Array Keyed}{base:Nat}{st:SortSt}{Q:Option Nat->SortSt->Prop}(hk:kindOf st=κ)(hn:base<arr.size)(ok:Ok key)(oa:∀x∈arr.toList,Ok x)(sa:Srd kf arr.toList)
  (h:∀k,base+k<=arr.size->(∀x∈(arr.toList.drop base).take k,O.kle (kf x) (kf key))->(∀x∈arr.toList.drop (base+k),O.klt (kf key) (kf x))->Q (some k) st):wpS (model prog w) A E s (q38 false key arr base (arr.size - base) 0) Q st:=by
 refine q2E c (B:=fun i=>match arr[base+i]? with|some p=> !O.blt (kf key) (kf p)|none=>false) hk (by omega) ok (fun i hi=>?_) (fun i j h1 h2 h3=>?_) fun k k1 k2 k3=>?_
 ·obtain ⟨x,h1,h2,h3⟩:=q0o (a:=arr) (i:=base+i) (by omega)
  exact⟨x,h1,oa x h3,by rw[h1];rfl⟩
 ·obtain ⟨x,x1,x2,x3⟩:=q0o (a:=arr) (i:=base+i) (by omega)
  obtain⟨y,y1,y2,y3⟩:=q0o (a:=arr) (i:=base+j) (by omega)
  rw[y1] at h3
  rw[x1]
  have h3':O.kle (kf y) (kf key):=by show O.blt (kf key) (kf y)=false;simpa using h3
  have:=z9 (q14 sa (by omega) x2 y2) h3'
  show(!O.blt (kf key) (kf x))=true
  rw[this]
  rfl
 ·refine h k (by omega) (fun x hx=>?_) fun x hx=>?_
  ·obtain ⟨j,hj,e⟩:=q3x hx
   have:=k2 j hj
   rw[show arr[base+j]? =some x by simpa using e] at this
   show O.blt (kf key) (kf x)=false
   simpa using this
  ·obtain ⟨j,hj,e⟩:=q0Q hx
   have:=k3 (k+j) (by omega) (by simp at hj;omega)
   rw[show arr[base+(k+j)]? =some x by rw[<-Nat.add_assoc];simpa using e] at this
   show O.blt (kf key) (kf x)=true
   simpa using this
theorem w_T {α:Type}{c:Prop}[Decidable c]{t e:StateT SortSt Sem α}{Q:α->SortSt->Prop}{st:SortSt}(h:c)(k:wpS (model prog w) A E s t Q st):wpS (model prog w) A E s (if c then t else e) Q st:=by rw[zi h];exact k
theorem w_F {α:Type}{c:Prop}[Decidable c]{t e:StateT SortSt Sem α}{Q:α->SortSt->Prop}{st:SortSt}(h:¬c)(k:wpS (model prog w) A E s e Q st):wpS (model prog w) A E s (if c then t else e) Q st:=by rw[zd h];exact k
theorem q7m {β:Type}{a b:Nat}{f:Nat->β->StateT SortSt Sem (ForInStep β)}{M:Model}(I:Nat->β->SortSt->Prop){Q:β->SortSt->Prop}(hs:∀(g:Nat->β->StateT SortSt Sem (ForInStep β)) (R:Nat->ForInStep β->SortSt->Prop),(∀i c,g i c=f i c)->(∀{i c st},Q c st->R i (.done c) st)->(∀{i c st},I (i+1) c st->R i (.yield c) st)->∀i c st,a<=i->i<b->I i c st->wpS M A E s (g i c) (R i) st)(he:∀c st,I (max a b) c st->Q c st){c:β}{st:SortSt}(h:I a c st):wpS M A E s (forIn [a:b] c f) Q st:=
 zaA I (fun i c st h1 h2 h3=>hs f (fun i r st'=>match r with| .done c'=>Q c' st'| .yield c'=>I (i+1) c' st') (fun _ _=>rfl) (fun h=>h) (fun h=>h) i c st h1 h2 h3) he h
theorem q80 (c:Cmp prog w A s κ O kf Ok){a b:Array Keyed}{st:SortSt}{Q:Array Keyed->SortSt->Prop}(hk:kindOf st=κ)(oa:∀x∈a.toList,Ok x)(ob:∀x∈b.toList,Ok x)(sa:Srd kf a.toList)(sb:Srd kf b.toList)(ha:0<a.size)(hb:0<b.size)
  (hd:∀x∈a.toList,∀y,b.toList[0]? =some y->O.kle (kf y) (kf x))(hl:∀y∈b.toList,∀x,a.toList[a.size - 1]? =some x->O.kle (kf y) (kf x))
  (h:∀r st',Res kf a.toList b.toList r->Stq st st'->Q r st'):wpS (model prog w) A E s (qaN a b) Q st:=by
 have fA:∀{out:Array Keyed} {ia ib:Nat},MI kf a.toList b.toList out.toList ia ib->ia+1=a.size->Res kf a.toList b.toList (out++b.extract ib++a.extract ia):=fun {out ia ib} m e=>by
  refine m.ba sa sb (fun y hy x hx=>?_) (by rw[zX,zX,q3a,q3a])
  obtain⟨j,hj,ej⟩:=q0Q hx
  have:ia+j=a.size - 1:=by simp at hj;omega
  rw[this] at ej
  exact hl y (za1 hy) x ej
 have fB:∀{out:Array Keyed} {ia ib:Nat},MI kf a.toList b.toList out.toList ia ib->ib=b.size->Res kf a.toList b.toList (out++a.extract ia++b.extract ib):=fun {out ia ib} m e=>by
  refine m.ab sa sb (fun x hx y hy=>?_) (by rw[zX,zX,q3a,q3a])
  rw[zaQ (by simp;omega)] at hy
  cases hy
 have fC:∀{out:Array Keyed} {ia ib:Nat},MI kf a.toList b.toList out.toList ia ib->ia=a.size->Res kf a.toList b.toList (out++a.extract ia++b.extract ib):=fun {out ia ib} m e=>by
  refine m.ab sa sb (fun x hx y hy=>?_) (by rw[zX,zX,q3a,q3a])
  rw[zaQ (by simp;omega)] at hx
  cases hx
 obtain⟨b0,b1,b2,b3⟩:=q0o hb
 have m0:MI kf a.toList b.toList (#[b0]:Array Keyed).toList 0 1:=by
  have:=(show MI kf a.toList b.toList [] 0 0 from⟨by simp,List.Pairwise.nil,fun x hx=>(nomatch hx),fun x hx=>(nomatch hx)⟩).b sb b2 fun z hz=>hd z (by simpa using hz) b0 b2
  simpa using this
 refine zf (zcn (zbj ⟨rfl,?_⟩))
 refine zf (q0b b1 ?_)
 dsimp only
 by_cases e1:1=b.size
 ·exact w_T (by simpa using e1) (zj (h _ _ (fB m0 e1) ⟨rfl,rfl,rfl,rfl⟩))
 refine w_F (by simpa using e1) ?_
 by_cases e2:0+1=a.size
 ·exact w_T (by simpa using e2) (zj (h _ _ (fA m0 e2) ⟨rfl,rfl,rfl,rfl⟩))
 refine w_F (by simpa using e2) ?_
 refine zf (zbM ?_)
 refine zf (zaH (q7m (I:=fun(x:Nat) (c:Option (Array Keyed)×Array Keyed×Nat×Nat×Nat) (st':SortSt)=>c.1=none/\Stq st st'/\MI kf a.toList b.toList c.2.1.toList c.2.2.1 c.2.2.2.1/\c.2.2.1+1<a.size/\c.2.2.2.1<b.size/\x+1<=c.2.2.1+c.2.2.2.1)
  (Q:=fun(c:Option (Array Keyed)×Array Keyed×Nat×Nat×Nat) (st':SortSt)=>Stq st st'/\∃r,c.1=some r/\Res kf a.toList b.toList r) ?_ ?_ (show _/\_ from⟨rfl,⟨rfl,rfl,rfl,rfl⟩,m0,by show 0+1<a.size;omega,by show 1<b.size;omega,ze _⟩)) ?_)
 ·rintro g R eg dn yl x ⟨r,out,ia,ib,mg⟩ st1 _ hx ⟨rfl,q,m,ba,bb,pr⟩
  rw[eg]
  dsimp only at m ba bb pr ⊢
  have hk1:kindOf st1=κ:=by rw[q.1];exact hk
  refine zf (zaH (q7m (I:=fun(y:Nat) (c:Option (Array Keyed)×Array Keyed×Nat×Nat×Nat×Nat) (st':SortSt)=>st1=st'/\c.1=none/\MI kf a.toList b.toList c.2.1.toList c.2.2.1 c.2.2.2.1/\c.2.2.1+1<a.size/\c.2.2.2.1<b.size/\ia+ib+y<=c.2.2.1+c.2.2.2.1)
   (Q:=fun(c:Option (Array Keyed)×Array Keyed×Nat×Nat×Nat×Nat) (st':SortSt)=>st1=st'/\((∃r,c.1=some r/\Res kf a.toList b.toList r)\/c.1=none/\MI kf a.toList b.toList c.2.1.toList c.2.2.1 c.2.2.2.1/\c.2.2.1+1<a.size/\c.2.2.2.1<b.size/\ia+ib+1<=c.2.2.1+c.2.2.2.1)) ?_ ?_ (show _/\_ from⟨rfl,rfl,m,ba,bb,ze _⟩)) ?_)
  ·rintro g R eg dn yl y ⟨r,out',ia',ib',ac,bc⟩ st2 _ hy ⟨rfl,rfl,m',ba',bb',pr'⟩
   rw[eg]
   dsimp only at m' ba' bb' pr' ⊢
   obtain⟨y0,y1,y2,y3⟩:=q0o (a:=b) (i:=ib') (by omega)
   obtain⟨x0,x1,x2,x3⟩:=q0o (a:=a) (i:=ia') (by omega)
   refine zf (q0b y1 (zf (q0b x1 (zf (w_lt c hk1 (ob y0 y3) (oa x0 x3) ?_)))))
   dsimp only
   cases e:O.blt (kf y0) (kf x0) with
   |true=>
    refine w_T rfl ?_
    refine zf (q0b y1 ?_)
    have m2:=m'.b sb y2 fun z hz=>by
     obtain⟨j,_,ej⟩:=q0Q hz
     exact zah (KeyOrd.klt_of_klt_of_kle e (q14 sa (by omega) x2 ej))
    rw[<-zaj] at m2
    by_cases he:ib'+1=b.size
    ·exact w_T (by simpa using he) (zj (dn ⟨rfl,.inl ⟨_,rfl,fB m2 he⟩⟩))
    ·refine w_F (by simpa using he) ?_
     split
     ·exact zj (dn ⟨rfl,.inr ⟨rfl,m2,ba',by show ib'+1<b.size;omega,by show ia+ib+1<=ia'+(ib'+1);omega⟩⟩)
     ·exact zj (yl ⟨rfl,rfl,m2,ba',by show ib'+1<b.size;omega,by show ia+ib+(y+1)<=ia'+(ib'+1);omega⟩)
   |false=>
    refine w_F (by decide) ?_
    refine zf (q0b x1 ?_)
    have m2:=m'.a sa x2 fun z hz=>by
     obtain⟨j,_,ej⟩:=q0Q hz
     exact z9 e (q14 sb (by omega) y2 ej)
    rw[<-zaj] at m2
    by_cases he:ia'+1+1=a.size
    ·exact w_T (by simpa using he) (zj (dn ⟨rfl,.inl ⟨_,rfl,fA m2 he⟩⟩))
    ·refine w_F (by simpa using he) ?_
     split
     ·exact zj (dn ⟨rfl,.inr ⟨rfl,m2,by show ia'+1+1<a.size;omega,bb',by show ia+ib+1<=ia'+1+ib';omega⟩⟩)
     ·exact zj (yl ⟨rfl,rfl,m2,by show ia'+1+1<a.size;omega,bb',by show ia+ib+(y+1)<=ia'+1+ib';omega⟩)
  ·rintro ⟨r,out',ia',ib',ac,bc⟩ st2 ⟨rfl,rfl,m',ba',bb',pr'⟩
   have pr2:ia+ib+max 0 (a.size+b.size)<=ia'+ib':=pr'
   exact⟨rfl,.inr ⟨rfl,m',ba',bb',by show ia+ib+1<=ia'+ib';omega⟩⟩
  ·rintro ⟨r,out',ia',ib',ac,bc⟩ st2 ⟨rfl,hq⟩
   dsimp only at hq ⊢
   rcases hq with⟨r0,e0,hr0⟩|⟨e0,m',ba',bb',pr'⟩
   ·subst e0
    exact zj (dn ⟨q,_,rfl,hr0⟩)
   ·subst e0
    dsimp only
    refine zf (zcn (zbj ⟨rfl,?_⟩))
    generalize hs1:ia+ib+1=s1 at pr'
    refine zf (zaH (q7m (I:=fun(y:Nat) (c:Option (Array Keyed)×Array Keyed×Nat×Nat×Nat×Nat×Nat) (st':SortSt)=>Stq st st'/\c.1=none/\MI kf a.toList b.toList c.2.1.toList c.2.2.1 c.2.2.2.1/\c.2.2.1+1<a.size/\c.2.2.2.1<b.size/\s1<=c.2.2.1+c.2.2.2.1)
     (Q:=fun(c:Option (Array Keyed)×Array Keyed×Nat×Nat×Nat×Nat×Nat) (st':SortSt)=>Stq st st'/\((∃r,c.1=some r/\Res kf a.toList b.toList r)\/c.1=none/\MI kf a.toList b.toList c.2.1.toList c.2.2.1 c.2.2.2.1/\c.2.2.1+1<a.size/\c.2.2.2.1<b.size/\s1<=c.2.2.1+c.2.2.2.1)) ?_ ?_ (show _/\_ from⟨q,rfl,m',ba',bb',pr'⟩)) ?_)
    ·clear m' ba' bb' pr' q m ba bb pr hk1
     rintro g R eg dn yl y ⟨r,out,ia,ib,mg,ac,bc⟩ st1 _ hy ⟨q,rfl,m,ba,bb,pr⟩
     rw[eg]
     dsimp only at m ba bb pr ⊢
     apply use1
     rotate_left
     ·intro key
      by_cases hg:mg>1
      ·refine w_T hg ?_
       generalize mg - 1=mg2
       exact key mg2
      ·refine w_F hg ?_
       exact key mg
     ·intro mg2
      refine zf (zba ?_)
      obtain⟨y0,y1,y2,y3⟩:=q0o (a:=b) (i:=ib) (by omega)
      refine zf (q0b y1 ?_)
      have q3:=q
      have hk3:kindOf st1=κ:=by rw[q.1];exact hk
      refine zf (w_gr c hk3 (by omega) (ob y0 y3) oa sa fun k k1 k2 k3=>?_)
      have le1:∀z∈b.toList.drop ib,O.kle (kf y0) (kf z):=fun z hz=>by
       obtain⟨j,_,ej⟩:=q0Q hz
       exact q14 sb (by omega) y2 ej
      have m2:=m.as k sa fun x hx z hz=>z9 (k2 x hx) (le1 z hz)
      rw[<-q9m,<-zX] at m2
      dsimp only
      apply use3 (F:=fun o i j=>MI kf a.toList b.toList o.toList i j/\i+1<a.size/\j<b.size/\s1<=i+j)
      rotate_left
      ·intro key
       by_cases hk0:k>0
       ·refine w_T hk0 ?_
        by_cases he:ia+k+1=a.size
        ·exact w_T (by simpa using he) (zj (dn ⟨q3,.inl ⟨_,rfl,fA m2 he⟩⟩))
        refine w_F (by simpa using he) ?_
        by_cases he2:ia+k=a.size
        ·exact w_T (by simpa using he2) (zj (dn ⟨q3,.inl ⟨_,rfl,fC m2 he2⟩⟩))
        refine w_F (by simpa using he2) ?_
        refine zf (q0b y1 ?_)
        have m3:=m2.b sb y2 fun z hz=>zah (k3 z hz)
        rw[<-zaj] at m3
        have ba2:ia+k+1<a.size:=by omega
        have pr2:s1<=ia+k+ib:=by omega
        generalize (out++a.extract ia (ia+k)).push y0=out3 at m3 ⊢
        generalize ia+k=ia2 at m3 ba2 pr2 ⊢
        by_cases hf:ib+1=b.size
        ·exact w_T (by simpa using hf) (zj (dn ⟨q3,.inl ⟨_,rfl,fB m3 hf⟩⟩))
        refine w_F (by simpa using hf) ?_
        have bb3:ib+1<b.size:=by omega
        have pr3:s1<=ia2+(ib+1):=by omega
        generalize ib+1=ib3 at m3 bb3 pr3 ⊢
        exact key out3 ia2 ib3 ⟨m3,ba2,bb3,pr3⟩
       ·refine w_F hk0 ?_
        refine zf (q0b y1 ?_)
        have m3:=m.b sb y2 fun z hz=>zah (k3 z (by rw[show k=0 by omega];exact hz))
        rw[<-zaj] at m3
        by_cases hf:ib+1=b.size
        ·exact w_T (by simpa using hf) (zj (dn ⟨q3,.inl ⟨_,rfl,fB m3 hf⟩⟩))
        refine w_F (by simpa using hf) ?_
        exact key (out.push y0) ia (ib+1) ⟨m3,ba,by omega,by omega⟩
      ·rintro out3 ia2 ib3 ⟨m3,ba2,bb3,pr3⟩
       obtain⟨x0,x1,x2,x3⟩:=q0o (a:=a) (i:=ia2) (by omega)
       refine zf (q0b x1 ?_)
       refine zf (w_gl c hk3 (by omega) (oa x0 x3) ob sb fun k' k1' k2' k3'=>?_)
       have le0:∀z∈a.toList.drop ia2,O.kle (kf x0) (kf z):=fun z hz=>by
        obtain⟨j,_,ej⟩:=q0Q hz
        exact q14 sa (by omega) x2 ej
       have m4:=m3.bs k' sb fun x hx z hz=>z9 (zah (k2' x hx)) (le0 z hz)
       rw[<-q9m,<-zX] at m4
       dsimp only
       by_cases hk0':k'>0
       ·rw [zi hk0']
        by_cases he:ib3+k'=b.size
        ·exact w_T (by simpa using he) (zj (dn ⟨q3,.inl ⟨_,rfl,fB m4 he⟩⟩))
        ·refine w_F (by simpa using he) ?_
         have m5:=m4.a sa x2 k3'
         rw[<-zaj] at m5
         refine zf (q0b x1 ?_)
         by_cases hf:ia2+1+1=a.size
         ·exact w_T (by simpa using hf) (zj (dn ⟨q3,.inl ⟨_,rfl,fA m5 hf⟩⟩))
         ·refine w_F (by simpa using hf) ?_
          split
          ·exact zj (dn ⟨q3,.inr ⟨rfl,m5,by show ia2+1+1<a.size;omega,by show ib3+k'<b.size;omega,by show s1<=ia2+1+(ib3+k');omega⟩⟩)
          ·exact zj (yl ⟨q3,rfl,m5,by show ia2+1+1<a.size;omega,by show ib3+k'<b.size;omega,by show s1<=ia2+1+(ib3+k');omega⟩)
       ·rw [zd hk0']
        have hz:k'=0:=by omega
        subst hz
        have m5:=m3.a sa x2 k3'
        rw[<-zaj] at m5
        refine zf (q0b x1 ?_)
        by_cases hf:ia2+1+1=a.size
        ·exact w_T (by simpa using hf) (zj (dn ⟨q3,.inl ⟨_,rfl,fA m5 hf⟩⟩))
        ·refine w_F (by simpa using hf) ?_
         split
         ·exact zj (dn ⟨q3,.inr ⟨rfl,m5,by show ia2+1+1<a.size;omega,by show ib3<b.size;omega,by show s1<=ia2+1+ib3;omega⟩⟩)
         ·exact zj (yl ⟨q3,rfl,m5,by show ia2+1+1<a.size;omega,by show ib3<b.size;omega,by show s1<=ia2+1+ib3;omega⟩)
    ·rintro ⟨r,out',ia',ib',mg',ac,bc⟩ st2 ⟨q',rfl,z⟩
     exact⟨q',.inr ⟨rfl,z⟩⟩
    ·rintro ⟨r,out2,ia2,ib2,mg2,ac,bc⟩ st2 ⟨q',hq⟩
     dsimp only at hq ⊢
     rcases hq with⟨r0,e0,hr0⟩|⟨e0,m2,ba2,bb2,pr2⟩
     ·subst e0
      exact zj (dn ⟨q',_,rfl,hr0⟩)
     ·subst e0
      dsimp only
      refine zf (zba ?_)
      exact zj (yl ⟨rfl,q',m2,ba2,bb2,by show x+1+1<=ia2+ib2;omega⟩)
 ·rintro ⟨r,out,ia,ib,mg⟩ st1 ⟨rfl,q,m,ba,bb,pr⟩
  dsimp only at ba bb pr
  omega
 ·rintro ⟨r,out,ia,ib,mg⟩ st1 ⟨q,r0,e0,hr0⟩
  dsimp only at e0 ⊢
  subst e0
  exact zj (h _ _ hr0 q)
end
end Tim
namespace Tim
open PySem PySem.W PyProof.Rows
section
variable {prog:Program}{w:World}{A:Around}{E:Value->Shared->Prop}{s:Shared}{κ:SortKind}{O:KeyOrd}{kf:Keyed->O.α}{Ok:Keyed->Prop}
structure MH (kf:Keyed->O.α)(al bl ol:List Keyed)(na nb:Nat):Prop where
 pm:ol.Perm (al.drop na++bl.drop nb)
 so:Srd kf ol.reverse
 la:∀x∈ol,∀y∈al.take na,O.kle (kf y) (kf x)
 lb:∀x∈ol,∀y∈bl.take nb,O.kle (kf y) (kf x)
theorem q64 {l:List Keyed}{i j:Nat}(h:i<=j):l.drop i=(l.take j).drop i++l.drop j:=by
 have e:=zD j l
 conv=>lhs;rw[<-e]
 by_cases hl:i<=(l.take j).length
 ·rw [zck hl]
 ·rw [zo] at hl
  rw[zaQ (show(l.take j).length<=i by rw[zo];omega),List.nil_append,zaQ (show l.length<=j by omega),zM,zaQ (by rw[zo];omega)]
theorem MH.as {al bl ol:List Keyed}{na nb:Nat}(k:Nat)(hk:k<=na)(h:MH kf al bl ol na nb)(sa:Srd kf al)(hl:∀x∈(al.take na).drop k,∀z∈bl.take nb,O.kle (kf z) (kf x)):MH kf al bl (ol++((al.take na).drop k).reverse) k nb:=by
 refine⟨?_,?_,fun x hx y hy=>?_,fun x hx y hy=>?_⟩
 ·rw [q64 (l:=al) hk]
  refine((h.pm.append (zbX _)).trans ?_)
  refine zaD.trans ?_
  rw[zq]
 ·rw [List.reverse_append,List.reverse_reverse]
  exact zE.mpr ⟨sa.sublist ((zar _ _).trans (z8 _ _)),h.so,fun x hx y hy=>h.la y (zaq.mp hy) x (za1 hx)⟩
 ·rcases zr.mp hx with hx|hx
  ·refine h.la x hx y ?_
   have e:al.take k=(al.take na).take k:=by rw[zco,zbA hk]
   rw[e] at hy
   exact zao hy
  ·have hx':=zaq.mp hx
   have e:al.take na=al.take k++(al.take na).drop k:=by
    have:=(zD k (al.take na)).symm
    rwa [zco,zbA hk] at this
   have h2:Srd kf (al.take na):=sa.sublist (z8 _ _)
   rw[e] at h2
   exact(zE.mp h2).2.2 y hy x hx'
 ·rcases zr.mp hx with hx|hx
  ·exact h.lb x hx y hy
  ·exact hl x (zaq.mp hx) y hy
theorem MH.bs {al bl ol:List Keyed}{na nb:Nat}(k:Nat)(hk:k<=nb)(h:MH kf al bl ol na nb)(sb:Srd kf bl)(hl:∀x∈(bl.take nb).drop k,∀z∈al.take na,O.kle (kf z) (kf x)):MH kf al bl (ol++((bl.take nb).drop k).reverse) na k:=by
 refine⟨?_,?_,fun x hx y hy=>?_,fun x hx y hy=>?_⟩
 ·rw [q64 (l:=bl) hk]
  refine((h.pm.append (zbX _)).trans ?_)
  rw[zq]
  exact zai _ zaD
 ·rw [List.reverse_append,List.reverse_reverse]
  exact zE.mpr ⟨sb.sublist ((zar _ _).trans (z8 _ _)),h.so,fun x hx y hy=>h.lb y (zaq.mp hy) x (za1 hx)⟩
 ·rcases zr.mp hx with hx|hx
  ·exact h.la x hx y hy
  ·exact hl x (zaq.mp hx) y hy
 ·rcases zr.mp hx with hx|hx
  ·refine h.lb x hx y ?_
   have e:bl.take k=(bl.take nb).take k:=by rw[zco,zbA hk]
   rw[e] at hy
   exact zao hy
  ·have hx':=zaq.mp hx
   have e:bl.take nb=bl.take k++(bl.take nb).drop k:=by
    have:=(zD k (bl.take nb)).symm
    rwa [zco,zbA hk] at this
   have h2:Srd kf (bl.take nb):=sb.sublist (z8 _ _)
   rw[e] at h2
   exact(zE.mp h2).2.2 y hy x hx'
theorem q3y {l:List Keyed}{n:Nat}{x:Keyed}(h:l[n]? =some x):(l.take (n+1)).drop n=[x]:=by
 obtain⟨hi,e⟩:=yA h
 rw[zh hi,zck (by rw[zo];omega),zaQ (by rw[zo];omega),e]
 rfl
theorem MH.a {al bl ol:List Keyed}{na nb:Nat}{x:Keyed}(h:MH kf al bl ol (na+1) nb)(sa:Srd kf al)(hx:al[na]? =some x)(hl:∀z∈bl.take nb,O.kle (kf z) (kf x)):MH kf al bl (ol++[x]) na nb:=by
 have:=h.as na (by omega) sa (by rw[q3y hx];intro y hy z hz;rw[zp.mp hy];exact hl z hz)
 rwa [q3y hx] at this
theorem MH.b {al bl ol:List Keyed}{na nb:Nat}{x:Keyed}(h:MH kf al bl ol na (nb+1))(sb:Srd kf bl)(hx:bl[nb]? =some x)(hl:∀z∈al.take na,O.kle (kf z) (kf x)):MH kf al bl (ol++[x]) na nb:=by
 have:=h.bs nb (by omega) sb (by rw[q3y hx];intro y hy z hz;rw[zp.mp hy];exact hl z hz)
 rwa [q3y hx] at this
theorem MH.ab {al bl ol:List Keyed}{na nb:Nat}{r:Array Keyed}(h:MH kf al bl ol na nb)(sa:Srd kf al)(sb:Srd kf bl)(hl:∀x∈al.take na,∀y∈bl.take nb,O.kle (kf x) (kf y))(er:r.toList=al.take na++bl.take nb++ol.reverse):Res kf al bl r:=by
 unfold Res
 rw[er]
 constructor
 ·refine (zai _ ((zbX _).trans h.pm)).trans ?_
  rw[zq]
  refine(zai _ (?_:(bl.take nb++(al.drop na++bl.drop nb)).Perm (al.drop na++(bl.take nb++bl.drop nb)))).trans ?_
  ·rw [<-zq,<-zq]
   exact zaD.append_right _
  ·rw [<-zq,zD,zD]
 ·exact zE.mpr ⟨zE.mpr ⟨sa.sublist (z8 _ _),sb.sublist (z8 _ _),hl⟩,h.so,fun x hx y hy=>by
   rcases zr.mp hx with hx|hx
   ·exact h.la y (zaq.mp hy) x hx
   ·exact h.lb y (zaq.mp hy) x hx⟩
theorem MH.ba {al bl ol:List Keyed}{na nb:Nat}{r:Array Keyed}(h:MH kf al bl ol na nb)(sa:Srd kf al)(sb:Srd kf bl)(hl:∀y∈bl.take nb,∀x∈al.take na,O.kle (kf y) (kf x))(er:r.toList=bl.take nb++al.take na++ol.reverse):Res kf al bl r:=by
 unfold Res
 rw[er]
 constructor
 ·refine (zai _ ((zbX _).trans h.pm)).trans ?_
  rw[zq]
  refine(zai _ (zbz (show al.take na++(al.drop na++bl.drop nb)=al++bl.drop nb by rw[<-zq,zD]))).trans ?_
  rw[<-zq]
  refine(zaD.append_right _).trans ?_
  rw[zq,zD]
 ·exact zE.mpr ⟨zE.mpr ⟨sb.sublist (z8 _ _),sa.sublist (z8 _ _),hl⟩,h.so,fun x hx y hy=>by
   rcases zr.mp hx with hx|hx
   ·exact h.lb y (zaq.mp hy) x hx
   ·exact h.la y (zaq.mp hy) x hx⟩
theorem q2k (a:Array Keyed)(n:Nat):(a.extract 0 n).toList=a.toList.take n:=by
 rw[zbm,zaX,List.drop_zero,Nat.sub_zero]
theorem q7c (a:Array Keyed)(i n:Nat):((a.extract i n).reverse).toList=((a.toList.take n).drop i).reverse:=by
 rw[zbI,zbm,zaX,List.drop_take]
theorem q0s {l:List Keyed}{n:Nat}{x:Keyed}(h:x∈l.take n):∃j,j<n/\l[j]? =some x:=by
 obtain⟨j,hj,e⟩:=q3x (i:=0) (by simpa using h)
 exact⟨j,hj,by simpa using e⟩
theorem q4v {l:List Keyed}{i n:Nat}{x:Keyed}(h:x∈(l.take n).drop i):∃j,i<=j/\j<n/\l[j]? =some x:=by
 rw[List.drop_take] at h
 obtain⟨j,hj,e⟩:=q3x h
 exact⟨i+j,by omega,by omega,e⟩
theorem w_hl (c:Cmp prog w A s κ O kf Ok){key:Keyed}{arr:Array Keyed}{n:Nat}{st:SortSt}{Q:Option Nat->SortSt->Prop}(hk:kindOf st=κ)(h0:0<n)(hn:n<=arr.size)(ok:Ok key)(oa:∀x∈arr.toList,Ok x)(sa:Srd kf arr.toList)
  (h:∀k,k<=n->(∀x∈arr.toList.take k,O.klt (kf x) (kf key))->(∀x∈(arr.toList.take n).drop k,O.kle (kf key) (kf x))->Q (some k) st):wpS (model prog w) A E s (q38 true key arr 0 n (n - 1)) Q st:=by
 refine q2E c (B:=fun i=>match arr[0+i]? with|some p=>O.blt (kf p) (kf key)|none=>false) hk (by omega) ok (fun i hi=>?_) (fun i j h1 h2 h3=>?_) fun k k1 k2 k3=>?_
 ·obtain ⟨x,h1,h2,h3⟩:=q0o (a:=arr) (i:=0+i) (by omega)
  exact⟨x,h1,oa x h3,by rw[h1];rfl⟩
 ·obtain ⟨x,x1,x2,x3⟩:=q0o (a:=arr) (i:=0+i) (by omega)
  obtain⟨y,y1,y2,y3⟩:=q0o (a:=arr) (i:=0+j) (by omega)
  rw[y1] at h3
  rw[x1]
  exact zbo (q14 sa (by omega) x2 y2) h3
 ·refine h k k1 (fun x hx=>?_) fun x hx=>?_
  ·obtain ⟨j,hj,e⟩:=q0s hx
   have:=k2 j hj
   rw[show arr[0+j]? =some x by rw[zch];simpa using e] at this
   exact this
  ·obtain ⟨j,hj1,hj2,e⟩:=q4v hx
   have:=k3 j hj1 hj2
   rw[show arr[0+j]? =some x by rw[zch];simpa using e] at this
   exact this
theorem w_hr (c:Cmp prog w A s κ O kf Ok){key:Keyed}{arr:Array Keyed}{n:Nat}{st:SortSt}{Q:Option Nat->SortSt->Prop}(hk:kindOf st=κ)(h0:0<n)(hn:n<=arr.size)(ok:Ok key)(oa:∀x∈arr.toList,Ok x)(sa:Srd kf arr.toList)
  (h:∀k,k<=n->(∀x∈arr.toList.take k,O.kle (kf x) (kf key))->(∀x∈(arr.toList.take n).drop k,O.klt (kf key) (kf x))->Q (some k) st):wpS (model prog w) A E s (q38 false key arr 0 n (n - 1)) Q st:=by
 refine q2E c (B:=fun i=>match arr[0+i]? with|some p=> !O.blt (kf key) (kf p)|none=>false) hk (by omega) ok (fun i hi=>?_) (fun i j h1 h2 h3=>?_) fun k k1 k2 k3=>?_
 ·obtain ⟨x,h1,h2,h3⟩:=q0o (a:=arr) (i:=0+i) (by omega)
  exact⟨x,h1,oa x h3,by rw[h1];rfl⟩
 ·obtain ⟨x,x1,x2,x3⟩:=q0o (a:=arr) (i:=0+i) (by omega)
  obtain⟨y,y1,y2,y3⟩:=q0o (a:=arr) (i:=0+j) (by omega)
  rw[y1] at h3
  rw[x1]
  have h3':O.kle (kf y) (kf key):=by show O.blt (kf key) (kf y)=false;simpa using h3
  have:=z9 (q14 sa (by omega) x2 y2) h3'
  show(!O.blt (kf key) (kf x))=true
  rw[this]
  rfl
 ·refine h k k1 (fun x hx=>?_) fun x hx=>?_
  ·obtain ⟨j,hj,e⟩:=q0s hx
   have:=k2 j hj
   rw[show arr[0+j]? =some x by rw[zch];simpa using e] at this
   show O.blt (kf key) (kf x)=false
   simpa using this
  ·obtain ⟨j,hj1,hj2,e⟩:=q4v hx
   have:=k3 j hj1 hj2
   rw[show arr[0+j]? =some x by rw[zch];simpa using e] at this
   show O.blt (kf key) (kf x)=true
   simpa using this
theorem MH.a' {al bl ol:List Keyed}{na nb:Nat}{x:Keyed}(h1:1<=na)(h:MH kf al bl ol na nb)(sa:Srd kf al)(hx:al[na - 1]? =some x)(hl:∀z∈bl.take nb,O.kle (kf z) (kf x)):MH kf al bl (ol++[x]) (na - 1) nb:=by
 obtain⟨n,rfl⟩:∃n,na=n+1:=⟨na - 1,by omega⟩
 exact h.a sa hx hl
theorem MH.b' {al bl ol:List Keyed}{na nb:Nat}{x:Keyed}(h1:1<=nb)(h:MH kf al bl ol na nb)(sb:Srd kf bl)(hx:bl[nb - 1]? =some x)(hl:∀z∈al.take na,O.kle (kf z) (kf x)):MH kf al bl (ol++[x]) na (nb - 1):=by
 obtain⟨n,rfl⟩:∃n,nb=n+1:=⟨nb - 1,by omega⟩
 exact h.b sb hx hl
theorem q81 (c:Cmp prog w A s κ O kf Ok){a b:Array Keyed}{st:SortSt}{Q:Array Keyed->SortSt->Prop}(hk:kindOf st=κ)(oa:∀x∈a.toList,Ok x)(ob:∀x∈b.toList,Ok x)(sa:Srd kf a.toList)(sb:Srd kf b.toList)(ha:0<a.size)(hb:0<b.size)
  (hd:∀x∈a.toList,∀y,b.toList[0]? =some y->O.kle (kf y) (kf x))(hl:∀y∈b.toList,∀x,a.toList[a.size - 1]? =some x->O.kle (kf y) (kf x))
  (h:∀r st',Res kf a.toList b.toList r->Stq st st'->Q r st'):wpS (model prog w) A E s (qaO a b) Q st:=by
 have fA:∀{out:Array Keyed} {na nb:Nat},MH kf a.toList b.toList out.toList na nb->na=0->Res kf a.toList b.toList (a.extract 0 na++b.extract 0 nb++out.reverse):=fun {out na nb} m e=>by
  refine m.ab sa sb (fun x hx y hy=>?_) (by rw[zX,zX,q2k,q2k,zbI])
  subst e
  simp at hx
 have fC:∀{out:Array Keyed} {na nb:Nat},MH kf a.toList b.toList out.toList na nb->nb=0->Res kf a.toList b.toList (a.extract 0 na++b.extract 0 nb++out.reverse):=fun {out na nb} m e=>by
  refine m.ab sa sb (fun x hx y hy=>?_) (by rw[zX,zX,q2k,q2k,zbI])
  subst e
  simp at hy
 have fB:∀{out:Array Keyed} {na nb:Nat},MH kf a.toList b.toList out.toList na nb->nb=1->Res kf a.toList b.toList (b.extract 0 nb++a.extract 0 na++out.reverse):=fun {out na nb} m e=>by
  refine m.ba sa sb (fun y hy x hx=>?_) (by rw[zX,zX,q2k,q2k,zbI])
  obtain⟨j,hj,ej⟩:=q0s hy
  have:j=0:=by omega
  subst this
  exact hd x (zao hx) y ej
 obtain⟨x0,x1,x2,x3⟩:=q0o (a:=a) (i:=a.size - 1) (by omega)
 have m0:MH kf a.toList b.toList (#[x0]:Array Keyed).toList (a.size - 1) b.size:=by
  have:=(show MH kf a.toList b.toList [] a.size b.size from⟨by simp,List.Pairwise.nil,fun x hx=>(nomatch hx),fun x hx=>(nomatch hx)⟩).a' ha sa x2 fun z hz=>hl z (zao hz) x0 x2
  simpa using this
 refine zf (zcn (zbj ⟨rfl,?_⟩))
 refine zf (q0b x1 ?_)
 dsimp only
 by_cases e1:a.size - 1=0
 ·exact w_T (by simpa using e1) (zj (h _ _ (fA m0 e1) ⟨rfl,rfl,rfl,rfl⟩))
 refine w_F (by simpa using e1) ?_
 by_cases e2:b.size=1
 ·exact w_T (by simpa using e2) (zj (h _ _ (fB m0 e2) ⟨rfl,rfl,rfl,rfl⟩))
 refine w_F (by simpa using e2) ?_
 refine zf (zbM ?_)
 refine zf (zaH (q7m (I:=fun(x:Nat) (c:Option (Array Keyed)×Nat×Nat×Array Keyed×Nat) (st':SortSt)=>c.1=none/\Stq st st'/\MH kf a.toList b.toList c.2.2.2.1.toList c.2.1 c.2.2.1/\1<=c.2.1/\2<=c.2.2.1/\c.2.1+c.2.2.1+x+1<=a.size+b.size/\c.2.1<=a.size/\c.2.2.1<=b.size)
  (Q:=fun(c:Option (Array Keyed)×Nat×Nat×Array Keyed×Nat) (st':SortSt)=>Stq st st'/\∃r,c.1=some r/\Res kf a.toList b.toList r) ?_ ?_ (show _/\_ from⟨rfl,⟨rfl,rfl,rfl,rfl⟩,m0,by show 1<=a.size - 1;omega,by show 2<=b.size;omega,by show a.size - 1+b.size+0+1<=a.size+b.size;omega,by show a.size - 1<=a.size;omega,ze _⟩)) ?_)
 ·rintro g R eg dn yl x ⟨r,na,nb,out,mg⟩ st1 _ hx ⟨rfl,q,m,ba,bb,pr,za,zb⟩
  rw[eg]
  dsimp only at m ba bb pr za zb ⊢
  have hk1:kindOf st1=κ:=by rw[q.1];exact hk
  refine zf (zaH (q7m (I:=fun(y:Nat) (c:Option (Array Keyed)×Nat×Nat×Array Keyed×Nat×Nat) (st':SortSt)=>st1=st'/\c.1=none/\MH kf a.toList b.toList c.2.2.2.1.toList c.2.1 c.2.2.1/\1<=c.2.1/\2<=c.2.2.1/\c.2.1+c.2.2.1+y<=na+nb/\c.2.1<=a.size/\c.2.2.1<=b.size)
   (Q:=fun(c:Option (Array Keyed)×Nat×Nat×Array Keyed×Nat×Nat) (st':SortSt)=>st1=st'/\((∃r,c.1=some r/\Res kf a.toList b.toList r)\/c.1=none/\MH kf a.toList b.toList c.2.2.2.1.toList c.2.1 c.2.2.1/\1<=c.2.1/\2<=c.2.2.1/\c.2.1+c.2.2.1+1<=na+nb/\c.2.1<=a.size/\c.2.2.1<=b.size)) ?_ ?_ (show _/\_ from⟨rfl,rfl,m,ba,bb,ze _,za,zb⟩)) ?_)
  ·rintro g R eg dn yl y ⟨r,na',nb',out',ac,bc⟩ st2 _ hy ⟨rfl,rfl,m',ba',bb',pr',za',zb'⟩
   rw[eg]
   dsimp only at m' ba' bb' pr' za' zb' ⊢
   obtain⟨y0,y1,y2,y3⟩:=q0o (a:=b) (i:=nb' - 1) (by omega)
   obtain⟨x0,x1,x2,x3⟩:=q0o (a:=a) (i:=na' - 1) (by omega)
   refine zf (q0b y1 (zf (q0b x1 (zf (w_lt c hk1 (ob y0 y3) (oa x0 x3) ?_)))))
   dsimp only
   cases e:O.blt (kf y0) (kf x0) with
   |true=>
    refine w_T rfl ?_
    refine zf (q0b x1 ?_)
    have m2:=m'.a' ba' sa x2 fun z hz=>by
     obtain⟨j,hj,ej⟩:=q0s hz
     exact zah (zbo (q14 sb (by omega) ej y2) e)
    rw[<-zaj] at m2
    by_cases he:na' - 1=0
    ·exact w_T (by simpa using he) (zj (dn ⟨rfl,.inl ⟨_,rfl,fA m2 he⟩⟩))
    ·refine w_F (by simpa using he) ?_
     split
     ·exact zj (dn ⟨rfl,.inr ⟨rfl,m2,by show 1<=na' - 1;omega,bb',by show na' - 1+nb'+1<=na+nb;omega,by show na' - 1<=a.size;omega,zb'⟩⟩)
     ·exact zj (yl ⟨rfl,rfl,m2,by show 1<=na' - 1;omega,bb',by show na' - 1+nb'+(y+1)<=na+nb;omega,by show na' - 1<=a.size;omega,zb'⟩)
   |false=>
    refine w_F (by decide) ?_
    refine zf (q0b y1 ?_)
    have m2:=m'.b' (by omega) sb y2 fun z hz=>by
     obtain⟨j,hj,ej⟩:=q0s hz
     exact z9 (q14 sa (by omega) ej x2) e
    rw[<-zaj] at m2
    by_cases he:nb' - 1=1
    ·exact w_T (by simpa using he) (zj (dn ⟨rfl,.inl ⟨_,rfl,fB m2 he⟩⟩))
    ·refine w_F (by simpa using he) ?_
     split
     ·exact zj (dn ⟨rfl,.inr ⟨rfl,m2,ba',by show 2<=nb' - 1;omega,by show na'+(nb' - 1)+1<=na+nb;omega,za',by show nb' - 1<=b.size;omega⟩⟩)
     ·exact zj (yl ⟨rfl,rfl,m2,ba',by show 2<=nb' - 1;omega,by show na'+(nb' - 1)+(y+1)<=na+nb;omega,za',by show nb' - 1<=b.size;omega⟩)
  ·rintro ⟨r,na',nb',out',ac,bc⟩ st2 ⟨rfl,rfl,m',ba',bb',pr',zz⟩
   have pr2:na'+nb'+max 0 (a.size+b.size)<=na+nb:=pr'
   exact⟨rfl,.inr ⟨rfl,m',ba',bb',by show na'+nb'+1<=na+nb;omega,zz⟩⟩
  ·rintro ⟨r,na',nb',out',ac,bc⟩ st2 ⟨rfl,hq⟩
   dsimp only at hq ⊢
   rcases hq with⟨r0,e0,hr0⟩|⟨e0,m',ba',bb',pr',za',zb'⟩
   ·subst e0
    exact zj (dn ⟨q,_,rfl,hr0⟩)
   ·subst e0
    dsimp only
    refine zf (zcn (zbj ⟨rfl,?_⟩))
    obtain⟨s1,hs1⟩:∃s1,s1+1=na+nb:=⟨na+nb - 1,by omega⟩
    have pr1:na'+nb'<=s1:=by omega
    refine zf (zaH (q7m (I:=fun(y:Nat) (c:Option (Array Keyed)×Nat×Nat×Array Keyed×Nat×Nat×Nat) (st':SortSt)=>Stq st st'/\c.1=none/\MH kf a.toList b.toList c.2.2.2.1.toList c.2.1 c.2.2.1/\1<=c.2.1/\2<=c.2.2.1/\c.2.1+c.2.2.1<=s1/\c.2.1<=a.size/\c.2.2.1<=b.size)
     (Q:=fun(c:Option (Array Keyed)×Nat×Nat×Array Keyed×Nat×Nat×Nat) (st':SortSt)=>Stq st st'/\((∃r,c.1=some r/\Res kf a.toList b.toList r)\/c.1=none/\MH kf a.toList b.toList c.2.2.2.1.toList c.2.1 c.2.2.1/\1<=c.2.1/\2<=c.2.2.1/\c.2.1+c.2.2.1<=s1/\c.2.1<=a.size/\c.2.2.1<=b.size)) ?_ ?_ (show _/\_ from⟨q,rfl,m',ba',bb',pr1,za',zb'⟩)) ?_)
    ·clear m' ba' bb' pr' q m ba bb hk1 za zb za' zb' pr1 x2 x3 x1
     rintro g R eg dn yl y ⟨r,na,nb,out,mg,ac,bc⟩ st1 _ hy ⟨q,rfl,m,ba,bb,pr,za,zb⟩
     rw[eg]
     dsimp only at m ba bb pr za zb ⊢
     apply use1
     rotate_left
     ·intro key
      by_cases hg:mg>1
      ·refine w_T hg ?_
       generalize mg - 1=mg2
       exact key mg2
      ·refine w_F hg ?_
       exact key mg
     ·intro mg2
      refine zf (zba ?_)
      obtain⟨y0,y1,y2,y3⟩:=q0o (a:=b) (i:=nb - 1) (by omega)
      refine zf (q0b y1 ?_)
      have q3:=q
      have hk3:kindOf st1=κ:=by rw[q.1];exact hk
      refine zf (w_hr c hk3 (by omega) (by omega) (ob y0 y3) oa sa fun k k1 k2 k3=>?_)
      have le1:∀z∈b.toList.take nb,O.kle (kf z) (kf y0):=fun z hz=>by
       obtain⟨j,hj,ej⟩:=q0s hz
       exact q14 sb (by omega) ej y2
      have m2:=m.as k k1 sa fun x hx z hz=>z9 (le1 z hz) (zah (k3 x hx))
      rw[<-q7c,<-zX] at m2
      dsimp only
      generalize hkc:na - k=kc
      apply use3 (F:=fun o i j=>MH kf a.toList b.toList o.toList i j/\1<=i/\i<=a.size/\2<=j/\j<=b.size/\i+j<=s1)
      rotate_left
      ·intro key
       by_cases hk0:kc>0
       ·refine w_T hk0 ?_
        by_cases he:k=0
        ·exact w_T (by simpa using he) (zj (dn ⟨q3,.inl ⟨_,rfl,fA m2 he⟩⟩))
        refine w_F (by simpa using he) ?_
        refine zf (q0b y1 ?_)
        have m3:=m2.b' (by omega) sb y2 k2
        rw[<-zaj] at m3
        have ba2:1<=k:=by omega
        have za2:k<=a.size:=by omega
        have pr2:k+nb<=s1:=by omega
        generalize (out++(a.extract k na).reverse).push y0=out3 at m3 ⊢
        generalize k=na2 at m3 ba2 pr2 za2 ⊢
        by_cases hf:nb - 1=1
        ·exact w_T (by simpa using hf) (zj (dn ⟨q3,.inl ⟨_,rfl,fB m3 hf⟩⟩))
        refine w_F (by simpa using hf) ?_
        have bb3:2<=nb - 1:=by omega
        have zb3:nb - 1<=b.size:=by omega
        have pr3:na2+(nb - 1)<=s1:=by omega
        generalize nb - 1=nb3 at m3 bb3 pr3 zb3 ⊢
        exact key out3 na2 nb3 ⟨m3,ba2,za2,bb3,zb3,pr3⟩
       ·refine w_F hk0 ?_
        refine zf (q0b y1 ?_)
        have m3:=m.b' (by omega) sb y2 (by rw[show k=na by omega] at k2;exact k2)
        rw[<-zaj] at m3
        by_cases hf:nb - 1=1
        ·exact w_T (by simpa using hf) (zj (dn ⟨q3,.inl ⟨_,rfl,fB m3 hf⟩⟩))
        refine w_F (by simpa using hf) ?_
        exact key (out.push y0) na (nb - 1) ⟨m3,ba,za,by omega,by omega,by omega⟩
      ·rintro out3 na2 nb3 ⟨m3,ba2,za2,bb3,zb3,pr3⟩
       obtain⟨x0,x1,x2,x3⟩:=q0o (a:=a) (i:=na2 - 1) (by omega)
       refine zf (q0b x1 ?_)
       refine zf (w_hl c hk3 (by omega) (by omega) (oa x0 x3) ob sb fun k' k1' k2' k3'=>?_)
       have le0:∀z∈a.toList.take na2,O.kle (kf z) (kf x0):=fun z hz=>by
        obtain⟨j,hj,ej⟩:=q0s hz
        exact q14 sa (by omega) ej x2
       have m4:=m3.bs k' k1' sb fun x hx z hz=>z9 (le0 z hz) (k3' x hx)
       rw[<-q7c,<-zX] at m4
       dsimp only
       by_cases hk0':nb3 - k'>0
       ·rw [zi hk0']
        by_cases he:k'=1
        ·exact w_T (by simpa using he) (zj (dn ⟨q3,.inl ⟨_,rfl,fB m4 he⟩⟩))
        refine w_F (by simpa using he) ?_
        by_cases he2:k'=0
        ·exact w_T (by simpa using he2) (zj (dn ⟨q3,.inl ⟨_,rfl,fC m4 he2⟩⟩))
        refine w_F (by simpa using he2) ?_
        have m5:=m4.a' (by omega) sa x2 fun z hz=>zah (k2' z hz)
        rw[<-zaj] at m5
        refine zf (q0b x1 ?_)
        by_cases hf:na2 - 1=0
        ·exact w_T (by simpa using hf) (zj (dn ⟨q3,.inl ⟨_,rfl,fA m5 hf⟩⟩))
        ·refine w_F (by simpa using hf) ?_
         split
         ·exact zj (dn ⟨q3,.inr ⟨rfl,m5,by show 1<=na2 - 1;omega,by show 2<=k';omega,by show na2 - 1+k'<=s1;omega,by show na2 - 1<=a.size;omega,by show k'<=b.size;omega⟩⟩)
         ·exact zj (yl ⟨q3,rfl,m5,by show 1<=na2 - 1;omega,by show 2<=k';omega,by show na2 - 1+k'<=s1;omega,by show na2 - 1<=a.size;omega,by show k'<=b.size;omega⟩)
       ·rw [zd hk0']
        have hz:k'=nb3:=by omega
        subst hz
        have m5:=m3.a' (by omega) sa x2 fun z hz=>zah (k2' z hz)
        rw[<-zaj] at m5
        refine zf (q0b x1 ?_)
        by_cases hf:na2 - 1=0
        ·exact w_T (by simpa using hf) (zj (dn ⟨q3,.inl ⟨_,rfl,fA m5 hf⟩⟩))
        ·refine w_F (by simpa using hf) ?_
         split
         ·exact zj (dn ⟨q3,.inr ⟨rfl,m5,by show 1<=na2 - 1;omega,by show 2<=k';omega,by show na2 - 1+k'<=s1;omega,by show na2 - 1<=a.size;omega,by show k'<=b.size;omega⟩⟩)
         ·exact zj (yl ⟨q3,rfl,m5,by show 1<=na2 - 1;omega,by show 2<=k';omega,by show na2 - 1+k'<=s1;omega,by show na2 - 1<=a.size;omega,by show k'<=b.size;omega⟩)
    ·rintro ⟨r,na',nb',out',mg',ac,bc⟩ st2 ⟨q',rfl,z⟩
     exact⟨q',.inr ⟨rfl,z⟩⟩
    ·rintro ⟨r,na2,nb2,out2,mg2,ac,bc⟩ st2 ⟨q',hq⟩
     dsimp only at hq ⊢
     rcases hq with⟨r0,e0,hr0⟩|⟨e0,m2,ba2,bb2,pr2,zz⟩
     ·subst e0
      exact zj (dn ⟨q',_,rfl,hr0⟩)
     ·subst e0
      dsimp only
      refine zf (zba ?_)
      exact zj (yl ⟨rfl,q',m2,ba2,bb2,by show na2+nb2+(x+1)+1<=a.size+b.size;omega,zz⟩)
 ·rintro ⟨r,na,nb,out,mg⟩ st1 ⟨rfl,q,m,ba,bb,pr,zz⟩
  dsimp only at ba bb pr
  omega
 ·rintro ⟨r,na,nb,out,mg⟩ st1 ⟨q,r0,e0,hr0⟩
  dsimp only at e0 ⊢
  subst e0
  exact zj (h _ _ hr0 q)
end
end Tim
namespace Tim
open PySem PySem.W PyProof.Rows
theorem q8u:∀(m:List Keyed) (o:Nat) (k:Nat) (a:Array Keyed),o+k+m.length<=a.size->
  ((m.zipIdx k).foldl (fun a (p,j)=>a.setIfInBounds (o+j) p) a).toList=a.toList.take (o+k)++m++a.toList.drop (o+k+m.length)
 |[],o,k,a,_=>by simp
 |p::m,o,k,a,h=>by
  rw[zac] at h
  rw[List.zipIdx_cons,List.foldl_cons,q8u m o (k+1) _ (by rw[Array.size_setIfInBounds];omega)]
  have hlt:o+k<a.toList.length:=by simp;omega
  rw[zcz,show o+(k+1)=o+k+1 by omega,List.take_set,List.drop_set]
  rw[zi (by omega),zh hlt,List.set_append_right _ _ (by rw[zo];omega)]
  have e:o+k - (a.toList.take (o+k)).length=0:=by rw[zo];omega
  rw[e,List.set_cons_zero,zac,show o+k+1+m.length=o+k+(m.length+1) by omega]
  simp
theorem q6R {A B:List Keyed}{n:Nat}(h:n=A.length):(A++B).drop n=B:=by subst h;simp
theorem seg {A B C:List Keyed}{i j:Nat}(hi:i=A.length)(hj:j=i+B.length){a:Array Keyed}(e:a.toList=A++B++C):(a.extract i j).toList=B:=by
 rw[zbm,zaX,e,zq,q6R hi,show j - i=B.length by omega,zcT]
 rfl
theorem q8j {A B C:List Keyed}{i j:Nat}(hi:i=A.length)(hj:j<B.length){a:Array Keyed}(e:a.toList=A++B++C):a[i+j]? =some B[j]:=by
 rw[<-zbe,e,zq,zS (by omega),zA (by omega),show i+j - A.length=j by omega]
 exact yB hj
section
variable {prog:Program}{w:World}{A:Around}{E:Value->Shared->Prop}{s:Shared}{κ:SortKind}{O:KeyOrd}{kf:Keyed->O.α}{Ok:Keyed->Prop}
theorem w_seg (c:Cmp prog w A s κ O kf Ok){left:Bool}{key:Keyed}{arr:Array Keyed}{n hint base:Nat}{L B R:List Keyed}{st:SortSt}{Q:Option Nat->SortSt->Prop}(hk:kindOf st=κ)(e:arr.toList=L++B++R)(hb:base=L.length)(hn:n=B.length)(hh:hint<n)(ok:Ok key)(ob:∀x∈B,Ok x)(sb:Srd kf B)
  (h:∀k,k<=n->(∀x∈B.take k,bdB kf left key x=true)->(∀x∈B.drop k,bdB kf left key x=false)->Q (some k) st):wpS (model prog w) A E s (q38 left key arr base n hint) Q st:=by
 refine q2E c (B:=fun i=>match B[i]? with|some p=>bdB kf left key p|none=>false) hk hh ok (fun i hi=>?_) (fun i j h1 h2 h3=>?_) fun k k1 k2 k3=>?_
 ·have hi':i<B.length:=by omega
  exact⟨B[i],q8j hb hi' e,ob _ (zU hi'),by rw[yB hi']⟩
 ·have hi:i<B.length:=by omega
  have hj:j<B.length:=by omega
  rw[yB hj] at h3
  rw[yB hi]
  have le:=q14 sb h1 (yB hi) (yB hj)
  cases left with
  |true=>exact zbo le h3
  |false=>
   have h3':O.kle (kf B[j]) (kf key):=by show O.blt (kf key) (kf B[j])=false;simpa[bdB] using h3
   have:=z9 le h3'
   show(!O.blt (kf key) (kf B[i]))=true
   rw[this]
   rfl
 ·refine h k k1 (fun x hx=>?_) fun x hx=>?_
  ·obtain ⟨j,hj,ej⟩:=q0s hx
   have:=k2 j hj
   rw[ej] at this
   exact this
  ·obtain ⟨j,hj,ej⟩:=q0Q hx
   have:=k3 (k+j) (by omega) (by omega)
   rw[ej] at this
   exact this
theorem qbS {st st1:SortSt}{Q:PUnit->SortSt->Prop}(h:Q ⟨⟩ st1):wpS (model prog w) A E s (set st1:StateT SortSt Sem PUnit) Q st:=by
 unfold wpS;rw[StateT.run_set];exact wpAny_pure ⟨rfl,h⟩
def offs:Nat->List (List Keyed)->List (Nat×Nat)
 |_,[]=>[]
 |o,r::rs=>(o,r.length)::offs (o+r.length) rs
theorem q3w:∀(o:Nat) (A B:List (List Keyed)),offs o (A++B)=offs o A++offs (o+A.flatten.length) B
 |o,[],B=>by simp[offs]
 |o,r::A,B=>by
  simp only[List.cons_append,offs,q3w (o+r.length) A B,List.flatten_cons,List.length_append]
  rw[show o+r.length+A.flatten.length=o+(r.length+A.flatten.length) by omega]
theorem q1Q:∀(o:Nat) (A:List (List Keyed)),(offs o A).length=A.length
 |_,[]=>rfl
 |o,r::A=>by simp[offs,q1Q (o+r.length) A]
abbrev pr2 (p:Nat×Nat×Nat):Nat×Nat:=(p.1,p.2.1)
structure Rns (kf:Keyed->O.α)(Ok:Keyed->Prop)(a0:List Keyed)(st:SortSt)(Rs:List (List Keyed))(rest:List Keyed):Prop where
 arr:(arrOf st).toList=Rs.flatten++rest
 pm:(arrOf st).toList.Perm a0
 so:∀r∈Rs,Srd kf r/\r≠[]
 pd:(pendingOf st).toList.map pr2=offs 0 Rs
 fl:failedOf st=none
theorem q7D {p:Array (Nat×Nat×Nat)}{P S:List (List Keyed)}{X Y Z:List Keyed}{i sa na nb pw:Nat}(e:p.toList.map pr2=offs 0 (P++X::Y::S))(hi:i=P.length)(h1:sa=P.flatten.length)(h2:na+nb=Z.length)(hz:Z.length=X.length+Y.length):
  ((p.setIfInBounds i (sa,na+nb,pw)).eraseIdxIfInBounds (i+1)).toList.map pr2=offs 0 (P++Z::S):=by
 rw[q3w] at e ⊢
 rw[zch] at e ⊢
 obtain⟨l1,l',el,e1,e'⟩:=List.map_eq_append_iff.mp e
 simp only[offs] at e'
 obtain⟨x,l'',ex,e3,e4⟩:=List.map_eq_cons_iff.mp e'
 obtain⟨y,l2,ey,e5,e6⟩:=List.map_eq_cons_iff.mp e4
 have hl1:l1.length=i:=by have:=zag List.length e1;rw[yC,q1Q] at this;omega
 rw[Array.toList_eraseIdxIfInBounds,zcz,el,ex,ey]
 subst hi
 rw[show(l1++x::y::l2).set P.length (sa,na+nb,pw)=l1++(sa,na+nb,pw)::y::l2 by rw[List.set_append_right _ _ (by omega),hl1,Nat.sub_self];rfl]
 rw[show(l1++(sa,na+nb,pw)::y::l2).eraseIdx (P.length+1)=l1++(sa,na+nb,pw)::l2 by rw[List.eraseIdx_append_of_length_le (by omega),hl1,show P.length+1 - P.length=1 by omega];rfl]
 rw[zR,zam,e1,e6]
 simp only[offs,pr2,h1,h2]
 rw[hz,show P.flatten.length+X.length+Y.length=P.flatten.length+(X.length+Y.length) by omega]
theorem q5d (c:Cmp prog w A s κ O kf Ok){a0:List Keyed}{st:SortSt}{P:List (List Keyed)}{X Y:List Keyed}{S:List (List Keyed)}{rest:List Keyed}{i:Nat}{Q:Bool->SortSt->Prop}(o0:∀x∈a0,Ok x)(hk:kindOf st=κ)(hi:i=P.length)(R:Rns kf Ok a0 st (P++X::Y::S) rest)
  (h:∀(Z:List Keyed) (st':SortSt),kindOf st'=κ->Rns kf Ok a0 st' (P++Z::S) rest->Q true st'):wpS (model prog w) A E s (mergeAt' i) Q st:=by
 have oall:∀x∈(arrOf st).toList,Ok x:=fun x hx=>o0 x (R.pm.mem_iff.mp hx)
 obtain⟨sX,nX⟩:=R.so X (by simp)
 obtain⟨sY,nY⟩:=R.so Y (by simp)
 have hpX:0<X.length:=zbN.mpr nX
 have hpY:0<Y.length:=zbN.mpr nY
 have ea:(arrOf st).toList=P.flatten++X++Y++(S.flatten++rest):=by rw[R.arr];simp
 have epd:=R.pd
 rw[q3w] at epd
 obtain⟨pa,ha,ea1⟩:∃pa,(pendingOf st)[i]? =some pa/\pr2 pa=(P.flatten.length,X.length):=by
  have:((pendingOf st).toList.map pr2)[i]? =some (P.flatten.length,X.length):=by
   rw[epd,zS (by rw[q1Q];omega),q1Q,show i - P.length=0 by omega]
   simp[offs]
  rw[zJ] at this
  obtain⟨pa,h1,h2⟩:=zaP.mp this
  exact⟨pa,by simpa using h1,h2⟩
 obtain⟨pb,hb,eb1⟩:∃pb,(pendingOf st)[i+1]? =some pb/\pr2 pb=(P.flatten.length+X.length,Y.length):=by
  have:((pendingOf st).toList.map pr2)[i+1]? =some (P.flatten.length+X.length,Y.length):=by
   rw[epd,zS (by rw[q1Q];omega),q1Q,show i+1 - P.length=1 by omega]
   simp[offs]
  rw[zJ] at this
  obtain⟨pb,h1,h2⟩:=zaP.mp this
  exact⟨pb,by simpa using h1,h2⟩
 obtain⟨sa,na,pw⟩:=pa
 obtain⟨sb,nb,pw'⟩:=pb
 simp only[pr2,Prod.mk.injEq] at ea1 eb1
 refine zf (zbM ?_)
 dsimp only
 obtain⟨esa,ena⟩:=ea1
 obtain⟨esb,enb⟩:=eb1
 have fin:∀(Z:List Keyed) (st':SortSt),kindOf st'=κ->failedOf st'=none->pendingOf st'=((pendingOf st).setIfInBounds i (sa,na+nb,pw)).eraseIdxIfInBounds (i+1)->(arrOf st').toList=P.flatten++Z++(S.flatten++rest)->Z.Perm (X++Y)->Srd kf Z->Q true st':=fun Z st' g1 g2 g3 g4 g5 g6=>by
  have hz:Z.length=X.length+Y.length:=by rw[g5.length_eq,zm]
  refine h Z st' g1 ⟨by rw[g4];simp,?_,fun r hr=>?_,by rw[g3];exact q7D R.pd hi esa (by omega) hz,g2⟩
  ·refine List.Perm.trans ?_ R.pm
   rw[g4,ea]
   refine List.Perm.append_right _ ?_
   rw[zq]
   exact zai _ g5
  ·rcases zr.mp hr with hr|hr
   ·exact R.so r (by simp[hr])
   ·rcases zx.mp hr with rfl|hr
    ·exact ⟨g6,fun z=>by rw[z] at hz;simp at hz;omega⟩
    ·exact R.so r (by simp[hr])
 have same:(arrOf st).toList=P.flatten++(X++Y)++(S.flatten++rest):=by rw[ea];simp
 have oX:∀x∈X,Ok x:=fun x hx=>oall x (by rw[ea];simp[hx])
 have oY:∀x∈Y,Ok x:=fun x hx=>oall x (by rw[ea];simp[hx])
 have hY0:(arrOf st)[sb]? =some Y[0]:=by
  have:=q8j (A:=P.flatten++X) (B:=Y) (C:=S.flatten++rest) (i:=sb) (j:=0) (by rw[zm];omega) hpY ea
  simpa using this
 have hXl:(arrOf st)[sa+(na - 1)]? =some (X[na - 1]'(by omega)):=q8j (A:=P.flatten) (B:=X) (C:=Y++(S.flatten++rest)) (i:=sa) (j:=na - 1) esa (by omega) (by rw[ea];simp)
 simp only[ha,hb]
 refine zf (qbS ?_)
 refine zf (q0b hY0 ?_)
 refine zf (w_seg c (left:=false) (L:=P.flatten) (B:=X) (R:=Y++(S.flatten++rest)) hk (by rw[ea];simp) esa ena (by omega) (oY _ (zU _)) oX sX fun k k1 k2 k3=>?_)
 dsimp only
 have leY:∀y∈Y,O.kle (kf Y[0]) (kf y):=fun y hy=>by
  obtain⟨j,hj,ej⟩:=zal hy
  exact q14 sY (zak j) (yB hpY) (by rw[yB hj,ej])
 have k2':∀x∈X.take k,O.kle (kf x) (kf Y[0]):=fun x hx=>by show O.blt (kf Y[0]) (kf x)=false;simpa[bdB] using k2 x hx
 have k3':∀x∈X.drop k,O.klt (kf Y[0]) (kf x):=fun x hx=>by show O.blt (kf Y[0]) (kf x)=true;simpa[bdB] using k3 x hx
 by_cases e1:na - k=0
 ·rw [zi (by simpa using e1)]
  refine zj (fin (X++Y) _ hk R.fl rfl same (zcW _) (zE.mpr ⟨sX,sY,fun x hx y hy=>?_⟩))
  exact z9 (k2' x (by rw[List.take_of_length_le (by omega)];exact hx)) (leY y hy)
 rw[zd (by simpa using e1)]
 rw[show sa+k+(na - k) - 1=sa+(na - 1) by omega]
 refine zf (q0b hXl ?_)
 have leX:∀x∈X,O.kle (kf x) (kf (X[na - 1]'(by omega))):=fun x hx=>by
  obtain⟨j,hj,ej⟩:=zal hx
  exact q14 sX (i:=j) (j:=na - 1) (by omega) (by rw[yB hj,ej]) (yB (by omega))
 refine zf (w_seg c (left:=true) (L:=P.flatten++X) (B:=Y) (R:=S.flatten++rest) hk ea (by rw[zm];omega) enb (by omega) (oX _ (zU _)) oY sY fun m m1 m2 m3=>?_)
 dsimp only
 have m2':∀y∈Y.take m,O.klt (kf y) (kf (X[na - 1]'(by omega))):=fun y hy=>by show O.blt _ _=true;simpa[bdB] using m2 y hy
 have m3':∀y∈Y.drop m,O.kle (kf (X[na - 1]'(by omega))) (kf y):=fun y hy=>by show O.blt _ _=false;simpa[bdB] using m3 y hy
 by_cases e2:m=0
 ·rw [zi (by simpa using e2)]
  refine zj (fin (X++Y) _ hk R.fl rfl same (zcW _) (zE.mpr ⟨sX,sY,fun x hx y hy=>?_⟩))
  exact z9 (leX x hx) (m3' y (by rw[e2];exact hy))
 rw[zd (by simpa using e2)]
 have eX:(P.flatten++X.take k)++X.drop k++(Y++(S.flatten++rest))=P.flatten++X++Y++(S.flatten++rest):=by
  rw[zq (P.flatten),zD]
  simp
 have eY:(P.flatten++X)++Y.take m++(Y.drop m++(S.flatten++rest))=P.flatten++X++Y++(S.flatten++rest):=by
  rw[zq _ (Y.take m),<-zq (Y.take m),zD]
  simp
 have s1:((arrOf st).extract (sa+k) sb).toList=X.drop k:=seg (A:=P.flatten++X.take k) (B:=X.drop k) (C:=Y++(S.flatten++rest)) (by rw[zm,zo];omega) (by rw[zaF];omega) (by rw[ea,eX])
 have s2:((arrOf st).extract sb (sb+m)).toList=Y.take m:=seg (A:=P.flatten++X) (B:=Y.take m) (C:=Y.drop m++(S.flatten++rest)) (by rw[zm];omega) (by rw[zo];omega) (by rw[ea,eY])
 have z1:((arrOf st).extract (sa+k) sb).size=na - k:=by rw[<-zaa,s1,zaF];omega
 have z2:((arrOf st).extract sb (sb+m)).size=m:=by rw[<-zaa,s2,zo];omega
 have hd:∀x∈((arrOf st).extract (sa+k) sb).toList,∀y,((arrOf st).extract sb (sb+m)).toList[0]? =some y->O.kle (kf y) (kf x):=fun x hx y hy=>by
  rw[s1] at hx
  rw[s2,List.getElem?_take_of_lt (by omega),yB hpY] at hy
  cases hy
  exact zah (k3' x hx)
 have hl:∀y∈((arrOf st).extract sb (sb+m)).toList,∀x,((arrOf st).extract (sa+k) sb).toList[((arrOf st).extract (sa+k) sb).size - 1]? =some x->O.kle (kf y) (kf x):=fun y hy x hx=>by
  rw[s2] at hy
  rw[s1,z1,List.getElem?_drop,show k+(na - k - 1)=na - 1 by omega,yB (by omega)] at hx
  cases hx
  exact zah (m2' y hy)
 have oa:∀x∈((arrOf st).extract (sa+k) sb).toList,Ok x:=fun x hx=>by rw[s1] at hx;exact oX x (za1 hx)
 have ob:∀x∈((arrOf st).extract sb (sb+m)).toList,Ok x:=fun x hx=>by rw[s2] at hx;exact oY x (zao hx)
 have sA:Srd kf ((arrOf st).extract (sa+k) sb).toList:=by rw[s1];exact sX.sublist (zar _ _)
 have sB:Srd kf ((arrOf st).extract sb (sb+m)).toList:=by rw[s2];exact sY.sublist (z8 _ _)
 have put:∀(r:Array Keyed) (st':SortSt),Res kf ((arrOf st).extract (sa+k) sb).toList ((arrOf st).extract sb (sb+m)).toList r->kindOf st'=κ->failedOf st'=none->pendingOf st'=((pendingOf st).setIfInBounds i (sa,na+nb,pw)).eraseIdxIfInBounds (i+1)->arrOf st'=List.foldl (fun a (x:Keyed×Nat)=>a.setIfInBounds (sa+k+x.2) x.1) (arrOf st) r.toList.zipIdx->Q true st':=fun r st' hr g1 g2 g3 g4=>by
  obtain⟨r1,r2⟩:=hr
  rw[s1,s2] at r1
  have rl:r.toList.length=na - k+m:=by rw[r1.length_eq,zm,zaF,zo];omega
  refine fin (X.take k++r.toList++Y.drop m) st' g1 g2 g3 ?_ ?_ ?_
  ·have al:(arrOf st).toList.length=P.flatten.length+X.length+Y.length+(S.flatten++rest).length:=by rw[ea];simp;omega
   rw[g4,q8u r.toList (sa+k) 0 (arrOf st) (by rw[<-zaa];omega)]
   rw[zcO,rl]
   have t1:(arrOf st).toList.take (sa+k)=P.flatten++X.take k:=by
    rw[ea,<-eX,zq,zcT (by rw[zm,zo];omega)]
   have t2:(arrOf st).toList.drop (sa+k+(na - k+m))=Y.drop m++(S.flatten++rest):=by
    rw[ea,<-eY,q6R (by rw[zm,zm,zo];omega)]
   rw[t1,t2]
   simp
  ·refine (List.Perm.append_right _ (zai _ r1)).trans ?_
   rw[<-zq,zD,zq,zD]
  ·refine zE.mpr ⟨zE.mpr ⟨sX.sublist (z8 _ _),r2,fun x hx y hy=>?_⟩,sY.sublist (zar _ _),fun x hx y hy=>?_⟩
   ·rcases zr.mp (r1.mem_iff.mp hy) with hy|hy
    ·have:=sX
     rw[<-zD k X] at this
     exact(zE.mp this).2.2 x hx y hy
    ·exact z9 (k2' x hx) (leY y (zao hy))
   ·rcases zr.mp hx with hx|hx
    ·exact z9 (leX x (zao hx)) (m3' y hy)
    ·rcases zr.mp (r1.mem_iff.mp hx) with hx|hx
     ·exact z9 (leX x (za1 hx)) (m3' y hy)
     ·have:=sY
      rw[<-zD m Y] at this
      exact(zE.mp this).2.2 x hx y hy
 by_cases hle:na - k<=m
 ·rw [zi hle]
  refine zf (q80 c hk oa ob sA sB (show 0<((arrOf st).extract (sa+k) sb).size by omega) (show 0<((arrOf st).extract sb (sb+m)).size by omega) hd hl fun r st' hr q=>?_)
  refine zf (zba (zf (zbM ?_)))
  have ef:failedOf st'=none:=q.2.2.2.trans R.fl
  have e0:(failedOf st').isNone=true:=by rw[ef];rfl
  refine zj ?_
  show Q (failedOf st').isNone _
  rw[e0]
  exact put r _ hr (q.1.trans hk) ef q.2.2.1 (by show List.foldl _ (arrOf st') _=_;rw[q.2.1])
 ·rw [zd hle]
  refine zf (q81 c hk oa ob sA sB (show 0<((arrOf st).extract (sa+k) sb).size by omega) (show 0<((arrOf st).extract sb (sb+m)).size by omega) hd hl fun r st' hr q=>?_)
  refine zf (zba (zf (zbM ?_)))
  have ef:failedOf st'=none:=q.2.2.2.trans R.fl
  have e0:(failedOf st').isNone=true:=by rw[ef];rfl
  refine zj ?_
  show Q (failedOf st').isNone _
  rw[e0]
  exact put r _ hr (q.1.trans hk) ef q.2.2.1 (by show List.foldl _ (arrOf st') _=_;rw[q.2.1])
end
end Tim
namespace Tim
open PySem PySem.W PyProof.Rows
section
variable {prog:Program}{w:World}{A:Around}{E:Value->Shared->Prop}{s:Shared}{κ:SortKind}{O:KeyOrd}{kf:Keyed->O.α}{Ok:Keyed->Prop}
def Kx (kf:Keyed->O.α)(a:Array Keyed)(i:Nat):O.α:=kf (a.getD i (Value.none,Value.none))
theorem q2Z {a b:Array Keyed}{i j:Nat}(h:a[i]? =b[j]?):Kx kf a i=Kx kf b j:=by
 unfold Kx
 rw[zbH,zbH,h]
theorem qdj {a:Array Keyed}{i:Nat}{x:Keyed}(h:a[i]? =some x):Kx kf a i=kf x:=by
 unfold Kx
 rw[zbH,h]
 rfl
theorem q4n (c:Cmp prog w A s κ O kf Ok){i j:Nat}{st:SortSt}{Q:Option Bool->SortSt->Prop}(hk:kindOf st=κ)(hi:i<(arrOf st).size)(hj:j<(arrOf st).size)(ok:∀x∈(arrOf st).toList,Ok x)(h:Q (some (O.blt (Kx kf (arrOf st) i) (Kx kf (arrOf st) j))) st):wpS (model prog w) A E s (ltAt' i j) Q st:=by
 obtain⟨x,x1,x2,x3⟩:=q0o hi
 obtain⟨y,y1,y2,y3⟩:=q0o hj
 rw[qdj x1,qdj y1] at h
 rw[ltAt'_eq]
 exact zf (zbM (zf (q0b x1 (zf (q0b y1 (w_lt c hk (ok x x3) (ok y y3) h))))))
structure Chg (st st':SortSt)(lo hi:Nat):Prop where
 kd:kindOf st'=kindOf st
 pd:pendingOf st'=pendingOf st
 fl:failedOf st'=failedOf st
 pm:(arrOf st').Perm (arrOf st)
 out:∀j,(j<lo\/hi<=j)->(arrOf st')[j]? =(arrOf st)[j]?
theorem Chg.refl (st:SortSt)(lo hi:Nat):Chg st st lo hi:=⟨rfl,rfl,rfl,Array.Perm.refl _,fun _ _=>rfl⟩
theorem Chg.rev {st st1:SortSt}{lo hi i j:Nat}(h:Chg st st1 lo hi)(hi':lo<=i)(hj:j<=hi)(hs:hi<=(arrOf st1).size):Chg st (setArr st1 (mirror (arrOf st1) i j ((j - i) / 2))) lo hi:=
 ⟨h.kd,h.pd,h.fl,(mirror_perm _ _ _ _).trans h.pm,fun k hk=>by
  show(mirror (arrOf st1) i j ((j - i) / 2))[k]? =_
  rw[getElem?_mirror_all (by omega),zd (by omega)]
  exact h.out k hk⟩
theorem Chg.bub {st st1:SortSt}{lo hi src d:Nat}(h:Chg st st1 lo hi)(h1:src<hi)(h2:d<=src)(h3:lo<=src - d)(hs:hi<=(arrOf st1).size):Chg st (setArr st1 (bubble (arrOf st1) src d)) lo hi:=
 ⟨h.kd,h.pd,h.fl,(bubble_perm _ _ _).trans h.pm,fun k hk=>by
  show(bubble (arrOf st1) src d)[k]? =_
  rw[getElem?_bubble (by omega) d h2,zd (by omega),zd (by omega)]
  exact h.out k hk⟩
theorem q9W {i j:Nat}{st:SortSt}{Q:Unit->SortSt->Prop}(h:Q () (setArr st (mirror (arrOf st) i j ((j - i) / 2)))):wpS (model prog w) A E s (reverseSlice' i j) Q st:=by
 rw[reverseSlice'_eq]
 exact zba h
theorem w_down {i j:Nat}{st:SortSt}{Q:Unit->SortSt->Prop}(h:Q () (setArr st (bubble (arrOf st) i (i - j)))):wpS (model prog w) A E s (moveDown' i j) Q st:=by
 rw[moveDown'_eq]
 exact zba h
theorem q9U {a:Array Keyed}{i j:Nat}(hj:j<=a.size)(k:Nat):Kx kf (mirror a i j ((j - i) / 2)) k=if i<=k/\k<j then Kx kf a (i+j - 1 - k) else Kx kf a k:=by
 have e:=getElem?_mirror_all (i:=i) hj k
 by_cases h1:i<=k/\k<j
 ·rw [zi h1] at e ⊢;exact q2Z e
 ·rw [zd h1] at e ⊢;exact q2Z e
theorem q5b {a:Array Keyed}{i j:Nat}(hj:j<=a.size)(heq:∀k,i<=k->k<j->Kx kf a k=Kx kf a (j - 1))(k:Nat):Kx kf (mirror a i j ((j - i) / 2)) k=Kx kf a k:=by
 rw[q9U hj]
 split
 ·rw [heq _ (by omega) (by omega),heq k (by omega) (by omega)]
 ·rfl
theorem q9V {a:Array Keyed}{src d:Nat}(hs:src<a.size)(hd:d<=src)(k:Nat):Kx kf (bubble a src d) k=if k=src - d then Kx kf a src else if src - d<k/\k<=src then Kx kf a (k - 1) else Kx kf a k:=by
 have e:=getElem?_bubble hs d hd k
 split
 ·rename_i h;rw[zi h] at e;exact q2Z e
 ·rename_i h
  rw[zd h] at e
  split
  ·rename_i h2;rw[zi h2] at e;exact q2Z e
  ·rename_i h2;rw[zd h2] at e;exact q2Z e
def Upx (kf:Keyed->O.α)(a:Array Keyed)(lo m:Nat):Prop:=∀i j,i<=j->j<m->O.kle (Kx kf a (lo+i)) (Kx kf a (lo+j))
def Dnx (kf:Keyed->O.α)(a:Array Keyed)(lo m:Nat):Prop:=∀i j,i<=j->j<m->O.kle (Kx kf a (lo+j)) (Kx kf a (lo+i))
abbrev Eqx (kf:Keyed->O.α)(a:Array Keyed)(lo m q:Nat):Prop:=∀i,m - (q+1)<=i->i<m->Kx kf a (lo+i)=Kx kf a (lo+m - 1)
theorem Upx.one {a:Array Keyed}{lo:Nat}:Upx kf a lo 1:=fun i j h1 h2=>by
 have:i=j:=by omega
 subst this
 exact zaL _
theorem Upx.snoc {a:Array Keyed}{lo m:Nat}(h:Upx kf a lo m)(h1:1<=m)(hl:O.kle (Kx kf a (lo+m - 1)) (Kx kf a (lo+m))):Upx kf a lo (m+1):=fun i j hij hj=>by
 by_cases e:j=m
 ·subst e
  by_cases e2:i=j
  ·subst e2;exact zaL _
  ·have:=h i (j - 1) (by omega) (by omega)
   rw[show lo+(j - 1)=lo+j - 1 by omega] at this
   exact z9 this hl
 ·exact h i j hij (by omega)
theorem Dnx.snoc {a:Array Keyed}{lo m:Nat}(h:Dnx kf a lo m)(h1:1<=m)(hl:O.kle (Kx kf a (lo+m)) (Kx kf a (lo+m - 1))):Dnx kf a lo (m+1):=fun i j hij hj=>by
 by_cases e:j=m
 ·subst e
  by_cases e2:i=j
  ·subst e2;exact zaL _
  ·have:=h i (j - 1) (by omega) (by omega)
   rw[show lo+(j - 1)=lo+j - 1 by omega] at this
   exact z9 hl this
 ·exact h i j hij (by omega)
set_option hygiene false in
theorem w_two {α:Type}{c:Prop}[Decidable c]{p q:StateT SortSt Sem α}{R:SortSt->Prop}{Q:α->SortSt->Prop}{st:SortSt}(D:∀st0,R st0->wpS (model prog w) A E s q Q st0)(h1:c->(∀st0,R st0->wpS (model prog w) A E s q Q st0)->wpS (model prog w) A E s p Q st)(h2:¬c->R st):wpS (model prog w) A E s (if c then p else q) Q st:=by
 by_cases h:c
 ·rw [zi h];exact h1 h D
 ·rw [zd h];exact D st (h2 h)
theorem qbU (c:Cmp prog w A s κ O kf Ok){lo nrem:Nat}{st:SortSt}{Q:Option Nat->SortSt->Prop}(hk:kindOf st=κ)(ok:∀x∈(arrOf st).toList,Ok x)(hn:1<=nrem)(hs:lo+nrem<=(arrOf st).size)
  (h:∀m st',1<=m->m<=nrem->Chg st st' lo (lo+nrem)->Upx kf (arrOf st') lo m->Q (some m) st'):wpS (model prog w) A E s (countRun' lo nrem) Q st:=by
 obtain⟨st1,est⟩:∃st1,st1=st:=⟨st,rfl⟩
 have hk1:kindOf st1=κ:=by rw[est];exact hk
 have ok1:∀x∈(arrOf st1).toList,Ok x:=by rw[est];exact ok
 have sz:(arrOf st1).size=(arrOf st).size:=by rw[est]
 have u1:Upx kf (arrOf st1) lo 1:=Upx.one
 have hc0:Chg st st1 lo (lo+nrem):=by rw[est];exact Chg.refl _ _ _
 rw[<-est]
 refine zf (zaH (zaA (I:=fun(x:Nat) (c:Option (Option Nat)×Nat) (st':SortSt)=>st1=st'/\c.1=none/\x=c.2/\Upx kf (arrOf st1) lo c.2)
  (Q:=fun(c:Option (Option Nat)×Nat) (st':SortSt)=>st1=st'/\c.1=none/\1<=c.2/\c.2<=nrem/\Upx kf (arrOf st1) lo c.2/\(c.2=nrem\/O.klt (Kx kf (arrOf st1) (lo+c.2)) (Kx kf (arrOf st1) (lo+c.2 - 1)))) ?_ ?_ (show _/\_ from⟨rfl,rfl,rfl,u1⟩)) ?_)
 ·rintro x ⟨r,n⟩ st2 hx1 hx2 ⟨rfl,rfl,e,u⟩
  dsimp only at e u ⊢
  subst e
  refine zf (q4n c hk1 (by omega) (by omega) ok1 ?_)
  dsimp only
  cases eb:O.blt (Kx kf (arrOf st1) (lo+x)) (Kx kf (arrOf st1) (lo+x - 1)) with
  |true=>
   rw[zi rfl]
   exact zj ⟨rfl,rfl,by show 1<=x;omega,by show x<=nrem;omega,u,.inr eb⟩
  |false=>
   rw[zd (by decide)]
   exact zj ⟨rfl,rfl,rfl,u.snoc (by omega) eb⟩
 ·rintro ⟨r,n⟩ st2 ⟨rfl,rfl,e,u⟩
  dsimp only at e u
  exact⟨rfl,rfl,by show 1<=n;omega,by show n<=nrem;omega,u,.inl (by show n=nrem;omega)⟩
 rintro⟨r,n⟩ st2 ⟨rfl,rfl,g1,g2,g3,g4⟩
 dsimp only at g1 g2 g3 g4 ⊢
 by_cases e:n=nrem
 ·rw [zi (by simpa using e)]
  exact zj (h n st1 g1 g2 hc0 g3)
 rw[zd (by simpa using e)]
 have hl:=g4.resolve_left e
 refine w_two (R:=fun st0=>Chg st st0 lo (lo+nrem)/\Dnx kf (arrOf st0) lo (n+1)) ?_ (fun hn1 D=>?_) (fun hn1=>⟨hc0,?_⟩)
 ·clear hl g3 g4 u1 hc0 sz ok1 hk1 est
  clear st1
  rintro st1 ⟨hc,dn⟩
  refine zf (zcn (zbj ⟨rfl,?_⟩))
  refine zf (zaH (zaA (I:=fun(x:Nat) (c:Option (Option Nat)×Nat×Nat) (st':SortSt)=>Chg st st' lo (lo+nrem)/\c.1=none/\x=c.2.1/\Dnx kf (arrOf st') lo c.2.1/\c.2.2+1<=c.2.1/\Eqx kf (arrOf st') lo c.2.1 c.2.2)
   (Q:=fun(c:Option (Option Nat)×Nat×Nat) (st':SortSt)=>Chg st st' lo (lo+nrem)/\c.1=none/\c.2.1<=nrem/\Dnx kf (arrOf st') lo c.2.1/\c.2.2+1<=c.2.1/\Eqx kf (arrOf st') lo c.2.1 c.2.2) ?_ ?_ (show _/\_ from⟨hc,rfl,rfl,dn,by show 0+1<=n+1;omega,fun i h1 h2=>by have h1':n+1 - (0+1)<=i:=h1;have h2':i<n+1:=h2;rw[show i=n by omega];show _=Kx kf _ (lo+(n+1) - 1);rw[show lo+(n+1) - 1=lo+n by omega]⟩)) ?_)
  ·clear dn hc
   rintro x ⟨r,n,q⟩ st1 hx1 hx2 ⟨hc,rfl,e,dn,hq,he⟩
   dsimp only at e dn hq he ⊢
   subst e
   have sz:(arrOf st1).size=(arrOf st).size:=hc.pm.size_eq
   have hk1:kindOf st1=κ:=hc.kd.trans hk
   have ok1:∀y∈(arrOf st1).toList,Ok y:=fun y hy=>ok y (hc.pm.toList.mem_iff.mp hy)
   refine zf (q4n c hk1 (by omega) (by omega) ok1 ?_)
   dsimp only
   have one:∀a,Eqx kf a lo (x+1) 0:=fun a i h1 h2=>by rw[show i=x by omega,show lo+(x+1) - 1=lo+x by omega]
   cases eb:O.blt (Kx kf (arrOf st1) (lo+x)) (Kx kf (arrOf st1) (lo+x - 1)) with
   |true=>
    rw[zi rfl]
    have dn':Dnx kf (arrOf st1) lo (x+1):=dn.snoc (by omega) (zah eb)
    by_cases hq0:q>0
    ·rw [zi hq0]
     refine zf (q9W (zj ⟨hc.rev (by omega) (by omega) (by omega),rfl,rfl,fun i j h1 h2=>?_,by show 0+1<=x+1;omega,one _⟩))
     have kk:=q5b (kf:=kf) (a:=arrOf st1) (i:=lo+x - (q+1)) (j:=lo+x) (by omega) fun k h1 h2=>by
      have:=he (k - lo) (by omega) (by omega)
      rwa [show lo+(k - lo)=k by omega] at this
     show O.kle (Kx kf (mirror _ _ _ _) _) (Kx kf (mirror _ _ _ _) _)
     rw[kk,kk]
     exact dn' i j h1 h2
    ·rw [zd hq0]
     exact zj ⟨hc,rfl,rfl,dn',by show 0+1<=x+1;omega,one _⟩
   |false=>
    rw[zd (by decide)]
    refine zf (q4n c hk1 (by omega) (by omega) ok1 ?_)
    dsimp only
    cases eb2:O.blt (Kx kf (arrOf st1) (lo+x - 1)) (Kx kf (arrOf st1) (lo+x)) with
    |true=>
     rw[zi rfl]
     exact zj ⟨hc,rfl,by show x<=nrem;omega,dn,hq,he⟩
    |false=>
     rw[zd (by decide)]
     have eq:=O.total _ _ eb eb2
     refine zj ⟨hc,rfl,rfl,dn.snoc (by omega) eb2,by show q+1+1<=x+1;omega,fun i h1 h2=>?_⟩
     have h1':x+1 - (q+1+1)<=i:=h1
     have h2':i<x+1:=h2
     show _=Kx kf _ (lo+(x+1) - 1)
     rw[show lo+(x+1) - 1=lo+x by omega]
     by_cases ei:i=x
     ·rw [ei]
     ·rw [eq]
      exact he i (by omega) (by omega)
  ·rintro ⟨r,n,q⟩ st1 ⟨hc,rfl,e,z⟩
   dsimp only at e
   exact⟨hc,rfl,by show n<=nrem;omega,z⟩
  ·clear dn hc
   rintro⟨r,n,q⟩ st1 ⟨hc,rfl,hn,dn,hq,he⟩
   dsimp only at hn dn hq he ⊢
   have sz:(arrOf st1).size=(arrOf st).size:=hc.pm.size_eq
   have fin:∀st1,Chg st st1 lo (lo+nrem)->Dnx kf (arrOf st1) lo n->Chg st (setArr st1 (mirror (arrOf st1) lo (lo+n) ((lo+n - lo) / 2))) lo (lo+nrem)/\Upx kf (mirror (arrOf st1) lo (lo+n) ((lo+n - lo) / 2)) lo n:=fun st1 hc dn=>by
    have sz:(arrOf st1).size=(arrOf st).size:=hc.pm.size_eq
    refine⟨hc.rev (by omega) (by omega) (by omega),fun i j h1 h2=>?_⟩
    rw[q9U (by omega),q9U (by omega),zi (by omega),zi (by omega),show lo+(lo+n) - 1 - (lo+i)=lo+(n - 1 - i) by omega,show lo+(lo+n) - 1 - (lo+j)=lo+(n - 1 - j) by omega]
    exact dn _ _ (by omega) (by omega)
   refine w_two (R:=fun st0=>Chg st st0 lo (lo+nrem)/\Dnx kf (arrOf st0) lo n) ?_ (fun hq0 D=>?_) (fun _=>⟨hc,dn⟩)
   ·clear dn hc he sz
    clear st1
    rintro st1 ⟨hc,dn⟩
    refine zf (q9W ?_)
    obtain⟨hc2,u0⟩:=fin st1 hc dn
    generalize hst:setArr st1 (mirror (arrOf st1) lo (lo+n) ((lo+n - lo) / 2))=st3 at hc2
    have u1:Upx kf (arrOf st3) lo n:=by rw[<-hst];exact u0
    clear hst u0 fin dn hc
    clear st1
    obtain⟨st1,rfl⟩:∃st1,st1=st3:=⟨_,rfl⟩
    have sz:(arrOf st1).size=(arrOf st).size:=hc2.pm.size_eq
    have hk1:kindOf st1=κ:=hc2.kd.trans hk
    have ok1:∀y∈(arrOf st1).toList,Ok y:=fun y hy=>ok y (hc2.pm.toList.mem_iff.mp hy)
    refine zf (zaH (zaA (I:=fun(x:Nat) (c:Option (Option Nat)×Nat) (st':SortSt)=>st1=st'/\c.1=none/\x=c.2/\Upx kf (arrOf st1) lo c.2)
     (Q:=fun(c:Option (Option Nat)×Nat) (st':SortSt)=>st1=st'/\c.1=none/\1<=c.2/\c.2<=nrem/\Upx kf (arrOf st1) lo c.2/\(c.2=nrem\/O.klt (Kx kf (arrOf st1) (lo+c.2)) (Kx kf (arrOf st1) (lo+c.2 - 1)))) ?_ ?_ (show _/\_ from⟨rfl,rfl,rfl,u1⟩)) ?_)
    ·rintro x ⟨r,n⟩ st2 hx1 hx2 ⟨rfl,rfl,e,u⟩
     dsimp only at e u ⊢
     subst e
     refine zf (q4n c hk1 (by omega) (by omega) ok1 ?_)
     dsimp only
     cases eb:O.blt (Kx kf (arrOf st1) (lo+x)) (Kx kf (arrOf st1) (lo+x - 1)) with
     |true=>
      rw[zi rfl]
      exact zj ⟨rfl,rfl,by show 1<=x;omega,by show x<=nrem;omega,u,.inr eb⟩
     |false=>
      rw[zd (by decide)]
      exact zj ⟨rfl,rfl,rfl,u.snoc (by omega) eb⟩
    ·rintro ⟨r,n⟩ st2 ⟨rfl,rfl,e,u⟩
     dsimp only at e u
     exact⟨rfl,rfl,by show 1<=n;omega,by show n<=nrem;omega,u,.inl (by show n=nrem;omega)⟩
    rintro⟨r,m⟩ st2 ⟨rfl,rfl,g1,g2,g3,_⟩
    exact zj (h m st1 g1 g2 hc2 g3)
   ·refine zf (q9W ?_)
    have kk:=q5b (kf:=kf) (a:=arrOf st1) (i:=lo+n - (q+1)) (j:=lo+n) (by omega) fun k h1 h2=>by
     have:=he (k - lo) (by omega) (by omega)
     rwa [show lo+(k - lo)=k by omega] at this
    exact D _ ⟨hc.rev (by omega) (by omega) (by omega),fun i j h1 h2=>by
     show O.kle (Kx kf (mirror _ _ _ _) _) (Kx kf (mirror _ _ _ _) _)
     rw[kk,kk]
     exact dn i j h1 h2⟩
 ·refine zf (q4n c hk1 (by omega) (by omega) ok1 ?_)
  dsimp only
  cases eb:O.blt (Kx kf (arrOf st1) lo) (Kx kf (arrOf st1) (lo+n - 1)) with
  |true=>
   rw[zi rfl]
   exact zj (h n st1 g1 g2 hc0 g3)
  |false=>
   rw[zd (by decide)]
   have eqs:∀i,i<n->Kx kf (arrOf st1) (lo+i)=Kx kf (arrOf st1) (lo+n - 1):=fun i hi=>by
    have a1:=g3 i (n - 1) (by omega) (by omega)
    rw[show lo+(n - 1)=lo+n - 1 by omega] at a1
    have a2:=g3 0 i (by omega) hi
    rw[zcO] at a2
    exact KeyOrd.kle_antisymm a1 (z9 (show O.kle (Kx kf (arrOf st1) (lo+n - 1)) (Kx kf (arrOf st1) lo) from eb) a2)
   have kk:=q5b (kf:=kf) (a:=arrOf st1) (i:=lo) (j:=lo+n) (by omega) fun k h1 h2=>by
    have:=eqs (k - lo) (by omega)
    rwa [show lo+(k - lo)=k by omega] at this
   refine zf (q9W ?_)
   refine D _ ⟨hc0.rev (i:=lo) (j:=lo+n) (by omega) (by omega) (by omega),fun i j h1 h2=>?_⟩
   show O.kle (Kx kf (mirror _ _ _ _) _) (Kx kf (mirror _ _ _ _) _)
   rw[kk,kk]
   by_cases ej:j=n
   ·by_cases ei:i=n
    ·rw [ej,ei];exact zaL _
    ·rw [ej,eqs i (by omega)];exact zah hl
   ·rw [eqs i (by omega),eqs j (by omega)];exact zaL _
 ·have hz:n=1:=by omega
  intro i j h1 h2
  subst hz
  by_cases ej:j=1
  ·by_cases ei:i=1
   ·rw [ej,ei];exact zaL _
   ·rw [ej,show i=0 by omega,zcO]
    exact zah hl
  ·rw [show i=0 by omega,show j=0 by omega];exact zaL _
theorem w_bin (c:Cmp prog w A s κ O kf Ok){lo n m:Nat}{st:SortSt}{Q:Bool->SortSt->Prop}(hk:kindOf st=κ)(ok:∀x∈(arrOf st).toList,Ok x)(hm:1<=m)(hmn:m<=n)(hs:lo+n<=(arrOf st).size)(u0:Upx kf (arrOf st) lo m)
  (h:∀st',Chg st st' lo (lo+n)->Upx kf (arrOf st') lo n->Q true st'):wpS (model prog w) A E s (binarySort' lo n m) Q st:=by
 refine zf (zaH (zaA (I:=fun(x:Nat) (c:Option Bool×Unit) (st':SortSt)=>Chg st st' lo (lo+n)/\c.1=none/\Upx kf (arrOf st') lo x)
  (Q:=fun(c:Option Bool×Unit) (st':SortSt)=>Chg st st' lo (lo+n)/\c.1=none/\Upx kf (arrOf st') lo n) ?_ ?_ (show _/\_ from⟨Chg.refl _ _ _,rfl,by rw[Nat.max_eq_left hm];exact u0⟩)) ?_)
 ·rintro k ⟨r,⟨⟩⟩ st1 hk1 hk2 ⟨hc,rfl,u⟩
  dsimp only
  have sz:(arrOf st1).size=(arrOf st).size:=hc.pm.size_eq
  have hkd:kindOf st1=κ:=hc.kd.trans hk
  have ok1:∀y∈(arrOf st1).toList,Ok y:=fun y hy=>ok y (hc.pm.toList.mem_iff.mp hy)
  refine zf (zaH (zaA (I:=fun(y:Nat) (c:Option Bool×Nat×Nat) (st':SortSt)=>st1=st'/\c.1=none/\c.2.1<=c.2.2/\c.2.2<=k/\c.2.2 - c.2.1<=k - y/\(∀i,i<c.2.1->O.kle (Kx kf (arrOf st1) (lo+i)) (Kx kf (arrOf st1) (lo+k)))/\∀i,c.2.2<=i->i<k->O.klt (Kx kf (arrOf st1) (lo+k)) (Kx kf (arrOf st1) (lo+i)))
   (Q:=fun(c:Option Bool×Nat×Nat) (st':SortSt)=>st1=st'/\c.1=none/\c.2.1=c.2.2/\c.2.2<=k/\(∀i,i<c.2.1->O.kle (Kx kf (arrOf st1) (lo+i)) (Kx kf (arrOf st1) (lo+k)))/\∀i,c.2.2<=i->i<k->O.klt (Kx kf (arrOf st1) (lo+k)) (Kx kf (arrOf st1) (lo+i))) ?_ ?_ (show _/\_ from⟨rfl,rfl,zak _,ze _,ze _,fun i hi=>absurd hi (zbO _),fun i h1 h2=>absurd h2 (Nat.not_lt.mpr h1)⟩)) ?_)
  ·rintro y ⟨r,l,rr⟩ st2 _ hy ⟨rfl,rfl,g1,g2,g3,g4,g5⟩
   dsimp only at g1 g2 g3 g4 g5 ⊢
   by_cases hge:l≥rr
   ·rw [zi hge]
    exact zj ⟨rfl,rfl,by show l=rr;omega,g2,g4,g5⟩
   ·rw [zd hge]
    refine zf (q4n c hkd (by omega) (by omega) ok1 ?_)
    dsimp only
    cases e:O.blt (Kx kf (arrOf st1) (lo+k)) (Kx kf (arrOf st1) (lo+(l+rr) / 2)) with
    |true=>
     rw[zi rfl]
     exact zj ⟨rfl,rfl,by show l<=(l+rr) / 2;omega,by show(l+rr) / 2<=k;omega,by show(l+rr) / 2 - l<=k - (y+1);omega,g4,fun i h1 h2=>KeyOrd.klt_of_klt_of_kle e (u _ _ h1 h2)⟩
    |false=>
     rw[zd (by decide)]
     exact zj ⟨rfl,rfl,by show(l+rr) / 2+1<=rr;omega,g2,by show rr - ((l+rr) / 2+1)<=k - (y+1);omega,fun i hi=>z9 (u i ((l+rr) / 2) (zcG hi) (by omega)) e,g5⟩
  ·rintro ⟨r,l,rr⟩ st2 ⟨rfl,rfl,g1,g2,g3,g4,g5⟩
   exact⟨rfl,rfl,by show l=rr;have g1':l<=rr:=g1;have g3':rr - l<=k - max 0 k:=g3;omega,g2,g4,g5⟩
  ·rintro ⟨r,l,rr⟩ st2 ⟨rfl,rfl,g1,g2,g4,g5⟩
   dsimp only at g1 g2 g4 g5 ⊢
   subst g1
   refine zf (w_down (zj ⟨hc.bub (by omega) (by omega) (by omega) (by omega),rfl,fun i j x y=>?_⟩))
   show O.kle (Kx kf (bubble _ _ _) _) (Kx kf (bubble _ _ _) _)
   have hkx:=q9V (kf:=kf) (a:=arrOf st1) (src:=lo+k) (d:=lo+k - (lo+l)) (by omega) (by omega)
   rw[hkx,hkx,show lo+k - (lo+k - (lo+l))=lo+l by omega]
   by_cases i1:i=l
   ·rw [zi (by omega)]
    by_cases j1:j=l
    ·rw [zi (by omega)];exact zaL _
    ·rw [zd (by omega),zi (by omega),show lo+j - 1=lo+(j - 1) by omega]
     exact zah (g5 (j - 1) (by omega) (by omega))
   ·rw [zd (by omega)]
    by_cases i2:l<i/\i<=k
    ·rw [zi (by omega),zd (by omega),zi (by omega),show lo+i - 1=lo+(i - 1) by omega,show lo+j - 1=lo+(j - 1) by omega]
     exact u _ _ (by omega) (by omega)
    ·rw [zd (by omega)]
     by_cases j1:j=l
     ·rw [zi (by omega)];exact g4 i (by omega)
     ·rw [zd (by omega)]
      by_cases j2:l<j/\j<=k
      ·rw [zi (by omega),show lo+j - 1=lo+(j - 1) by omega]
       exact u _ _ (by omega) (by omega)
      ·rw [zd (by omega)]
       exact u _ _ x (by omega)
 ·rintro ⟨r,⟨⟩⟩ st1 ⟨hc,rfl,u⟩
  exact⟨hc,rfl,by rw[show max (max m 1) n=n by omega] at u;exact u⟩
 ·rintro ⟨r,⟨⟩⟩ st1 ⟨hc,rfl,u⟩
  exact zj (h st1 hc u)
end
end Tim
namespace Tim
open PySem PySem.W PyProof.Rows
section
variable {prog:Program}{w:World}{A:Around}{E:Value->Shared->Prop}{s:Shared}{κ:SortKind}{O:KeyOrd}{kf:Keyed->O.α}{Ok:Keyed->Prop}{a0:List Keyed}{st:SortSt}{Rs:List (List Keyed)}{rest:List Keyed}
theorem Rns.psize (R:Rns kf Ok a0 st Rs rest):(pendingOf st).size=Rs.length:=by
 have:=zag List.length R.pd
 rw[yC,q1Q,zaa] at this
 exact this
theorem Rns.len (R:Rns kf Ok a0 st Rs rest):Rs.flatten.length+rest.length=a0.length:=by
 have:=R.pm.length_eq
 rw[R.arr,zm] at this
 exact this
theorem Rns.asize (R:Rns kf Ok a0 st Rs rest):(arrOf st).size=a0.length:=by rw[<-zaa];exact R.pm.length_eq
theorem qbl {α:Type}{l:List α}{i:Nat}(h:i+1<l.length):∃P X Y S,l=P++X::Y::S/\i=P.length:=by
 refine⟨l.take i,l[i],l[i+1],l.drop (i+2),?_,by rw[zo];omega⟩
 rw[<-zbP (i:=i+1) h,<-zbP (i:=i) (by omega),zD]
theorem Rns.chg {st2:SortSt}{hi:Nat}(R:Rns kf Ok a0 st Rs rest)(h:Chg st st2 Rs.flatten.length hi):Rns kf Ok a0 st2 Rs ((arrOf st2).toList.drop Rs.flatten.length):=by
 refine⟨?_,h.pm.toList.trans R.pm,R.so,by rw[h.pd];exact R.pd,h.fl.trans R.fl⟩
 have e:(arrOf st2).toList.take Rs.flatten.length=Rs.flatten:=by
  have e1:(arrOf st).toList.take Rs.flatten.length=Rs.flatten:=by rw[R.arr];exact zcT rfl
  refine Eq.trans (zbg fun j=>?_) e1
  rw[List.getElem?_take,List.getElem?_take]
  split
  ·rename_i hj
   have:=h.out j (.inl hj)
   simpa using this
  ·rfl
 conv=>lhs;rw[<-zD Rs.flatten.length (arrOf st2).toList,e]
theorem Upx.srd {a:Array Keyed}{lo n:Nat}(h:Upx kf a lo n)(hn:lo+n<=a.size):Srd kf ((a.toList.drop lo).take n):=by
 refine zcJ.mpr fun i j hi hj hij=>?_
 rw[zo] at hi hj
 have hi':i<n:=by omega
 have hj':j<n:=by omega
 have g:∀k (hk:k<n),Kx kf a (lo+k)=kf (((a.toList.drop lo).take n)[k]'(by rw[zo,zaF,zaa];omega)):=fun k hk=>by
  refine qdj ?_
  rw[List.getElem_take,zcH]
  simp[show lo+k<a.size by omega]
 rw[<-g i hi',<-g j hj']
 exact h i j (by omega) hj'
theorem Rns.push {n lo:Nat}(R:Rns kf Ok a0 st Rs rest)(hlo:lo=Rs.flatten.length)(h1:1<=n)(h2:n<=rest.length)(hs:Srd kf (rest.take n)):Rns kf Ok a0 (SortSt.mk' (kindOf st) (arrOf st) ((pendingOf st).push (lo,n,0)) (gallopOf st) (failedOf st)) (Rs++[rest.take n]) (rest.drop n):=by
 subst hlo
 refine⟨?_,R.pm,fun r hr=>?_,?_,R.fl⟩
 ·show (arrOf st).toList=_
  rw[R.arr]
  simp
 ·rcases zr.mp hr with hr|hr
  ·exact R.so r hr
  ·rw [zp.mp hr]
   exact⟨hs,fun z=>by have:=zag List.length z;rw[zo,zcS] at this;omega⟩
 ·show ((pendingOf st).push (Rs.flatten.length,n,0)).toList.map pr2=_
  rw[zaj,zR,R.pd,q3w]
  simp[offs,pr2]
  omega
theorem Rns.power {pw:Nat}(R:Rns kf Ok a0 st Rs rest):Rns kf Ok a0 (SortSt.mk' (kindOf st) (arrOf st) ((pendingOf st).modify ((pendingOf st).size - 1) fun x=>match x with|(st,len,snd)=>(st,len,pw)) (gallopOf st) (failedOf st)) Rs rest:=by
 refine⟨R.arr,R.pm,R.so,?_,R.fl⟩
 show((pendingOf st).modify ((pendingOf st).size - 1) fun x=>match x with|(st,len,snd)=>(st,len,pw)).toList.map pr2=_
 rw[<-R.pd,Array.toList_modify]
 refine zbg fun j=>?_
 rw[zJ,zJ,List.getElem?_modify]
 cases(pendingOf st).toList[j]? with
 |none=>rfl
 |some p=>
  obtain⟨p1,p2,p3⟩:=p
  by_cases hj:(pendingOf st).size - 1=j
  ·simp [hj,pr2]
  ·simp [hj]
theorem q62 {n:Nat}(h:n<=rest.length):(Rs++[rest.take n]).flatten.length=Rs.flatten.length+n:=by
 rw[List.flatten_append,zm]
 simp
 omega
theorem use2 {F P:Nat->SortSt->Prop}{G:Prop}(h:∀o i,F o i->P o i)(k:(∀o i,F o i->P o i)->G):G:=k h
theorem q7l (c:Cmp prog w A s κ O kf Ok){Q:Unit->SortSt->Prop}(hk:kindOf st=κ)(o0:∀x∈(arrOf st).toList,Ok x)(hpd:pendingOf st= #[])(hfl:failedOf st=none)
  (h:∀st',(arrOf st').toList.Perm (arrOf st).toList->Srd kf (arrOf st').toList->failedOf st'=none->Q () st'):wpS (model prog w) A E s sortRuns' Q st:=by
 obtain⟨a0,ea0⟩:∃a0,a0=(arrOf st).toList:=⟨_,rfl⟩
 have sz:(arrOf st).size=a0.length:=by rw[ea0,zaa]
 rw[<-ea0] at o0
 have R0:Rns kf Ok a0 st [] (arrOf st).toList:=⟨by simp,by rw[ea0],fun r hr=>(nomatch hr),by rw[hpd];rfl,hfl⟩
 refine zf (zbM ?_)
 refine zf (zaH (zaA (I:=fun(x:Nat) (c:Option Unit×Nat) (st':SortSt)=>∃Rs rest,kindOf st'=κ/\Rns kf Ok a0 st' Rs rest/\c.1=none/\c.2=Rs.flatten.length/\x<=c.2)
  (Q:=fun(c:Option Unit×Nat) (st':SortSt)=>c.1=none/\∃Rs,kindOf st'=κ/\Rns kf Ok a0 st' Rs []) ?_ ?_ ⟨[],_,hk,R0,rfl,rfl,ze _⟩) ?_)
 ·rintro x ⟨r,lo⟩ st1 _ hx ⟨Rs,rest,hk1,R1,rfl,rfl,hxl⟩
  dsimp only at hxl ⊢
  have len1:=R1.len
  by_cases hge:Rs.flatten.length≥(arrOf st).size
  ·rw [zi hge]
   have er:rest=[]:=zbV.mp (by omega)
   subst er
   exact zj ⟨rfl,_,hk1,R1⟩
  ·rw [zd hge]
   have as1:=R1.asize
   have ok1:∀y∈(arrOf st1).toList,Ok y:=fun y hy=>o0 y (R1.pm.mem_iff.mp hy)
   apply use2 (F:=fun m st2=>∃rest2,kindOf st2=κ/\Rns kf Ok a0 st2 Rs rest2/\1<=m/\m<=rest2.length/\Srd kf (rest2.take m))
   rotate_left
   ·intro key
    refine zf (qbU c hk1 ok1 (show 1<=(arrOf st).size - Rs.flatten.length by omega) (show Rs.flatten.length+((arrOf st).size - Rs.flatten.length)<=(arrOf st1).size by omega) fun m st2 m1 m2 hc u=>?_)
    try dsimp only
    have R2:=R1.chg hc
    have as2:=R2.asize
    have hk2:kindOf st2=κ:=hc.kd.trans hk1
    have m2:m<=(arrOf st).size - Rs.flatten.length:=m2
    split
    rotate_left
    ·have g1:=m1
     have g2:m<=((arrOf st2).toList.drop Rs.flatten.length).length:=by rw[zaF,show(arrOf st2).toList.length=(arrOf st2).size from zaa];omega
     have g3:Srd kf (((arrOf st2).toList.drop Rs.flatten.length).take m):=u.srd (by omega)
     exact key m st2 ⟨_,hk2,R2,g1,g2,g3⟩
    ·rename_i hlt
     refine zf (zcn (zbj ⟨rfl,?_⟩))
     have ok2:∀y∈(arrOf st2).toList,Ok y:=fun y hy=>o0 y (R2.pm.mem_iff.mp hy)
     have f1:1<=min ((arrOf st).size - Rs.flatten.length) (minRun' (arrOf st).size (arrOf st).size 0):=Nat.le_min.mpr ⟨by omega,zaf m1 (zca hlt)⟩
     have f2:min ((arrOf st).size - Rs.flatten.length) (minRun' (arrOf st).size (arrOf st).size 0)<=(arrOf st).size - Rs.flatten.length:=Nat.min_le_left _ _
     refine zf (w_bin c hk2 ok2 m1 (Nat.le_min.mpr ⟨m2,zca hlt⟩) (show Rs.flatten.length+min ((arrOf st).size - Rs.flatten.length) (minRun' (arrOf st).size (arrOf st).size 0)<=(arrOf st2).size by omega) u fun st3 hc3 u3=>?_)
     rw[zd (by decide)]
     have R3:=R2.chg hc3
     have hk3:kindOf st3=κ:=hc3.kd.trans hk2
     have as3:=R3.asize
     have g1:=f1
     have g2:min ((arrOf st).size - Rs.flatten.length) (minRun' (arrOf st).size (arrOf st).size 0)<=((arrOf st3).toList.drop Rs.flatten.length).length:=by rw[zaF,show(arrOf st3).toList.length=(arrOf st3).size from zaa];omega
     have g3:Srd kf (((arrOf st3).toList.drop Rs.flatten.length).take (min ((arrOf st).size - Rs.flatten.length) (minRun' (arrOf st).size (arrOf st).size 0))):=u3.srd (show Rs.flatten.length+min ((arrOf st).size - Rs.flatten.length) (minRun' (arrOf st).size (arrOf st).size 0)<=(arrOf st3).size by omega)
     exact key _ st3 ⟨_,hk3,R3,g1,g2,g3⟩
   ·rintro m st2 ⟨rest2,hk2,R2,g1,g2,g3⟩
    refine zf (zbM ?_)
    try dsimp only
    rcases hbk:(pendingOf st2).back? with _|⟨sB,nB,pB⟩
    ·simp only[hbk]
     refine zf (zba (zj ?_))
     exact⟨_,_,hk2,R2.push rfl g1 g2 g3,rfl,(q62 g2).symm,Nat.add_le_add hxl g1⟩
    ·simp only[hbk]
     refine zf (zaH (zaA (I:=fun(y:Nat) (c:Option Unit×Unit) (st':SortSt)=>c.1=none/\∃Rs',kindOf st'=κ/\Rns kf Ok a0 st' Rs' rest2)
      (Q:=fun(c:Option Unit×Unit) (st':SortSt)=>c.1=none/\∃Rs',kindOf st'=κ/\Rns kf Ok a0 st' Rs' rest2) ?_ ?_ (show _/\_ from⟨rfl,_,hk2,R2⟩)) ?_)
     ·rintro y ⟨r,⟨⟩⟩ st3 _ hy ⟨rfl,Rs',hk3,R3⟩
      refine zf (zbM ?_)
      try dsimp only
      split
      ·rename_i older heq
       split
       ·exact zj ⟨rfl,_,hk3,R3⟩
       ·have hp:1<(pendingOf st3).size:=by
         by_cases hp:(pendingOf st3).size>1
         ·exact hp
         ·rw [zd hp] at heq;cases heq
        have hps:=R3.psize
        obtain⟨P,X,Y,S,eR,eP⟩:=qbl (l:=Rs') (i:=(pendingOf st3).size - 2) (by omega)
        rw[eR] at R3
        refine zf (q5d c o0 hk3 eP R3 fun Z st4 hk4 R4=>?_)
        rw[zd (by decide)]
        exact zj ⟨rfl,_,hk4,R4⟩
      ·exact zj ⟨rfl,_,hk3,R3⟩
     ·rintro ⟨r,⟨⟩⟩ st3 z
      exact z
     ·rintro ⟨r,⟨⟩⟩ st3 ⟨rfl,Rs',hk3,R3⟩
      try dsimp only
      refine zf (zba (zf (zba (zj ?_))))
      have e0:=R2.len
      have e1:=R3.len
      have e2:Rs.flatten.length=Rs'.flatten.length:=by omega
      exact⟨_,_,hk3,R3.power.push e2 g1 g2 g3,rfl,(zag (· +_) e2).trans (q62 g2).symm,Nat.add_le_add hxl g1⟩
 ·rintro ⟨r,lo⟩ st1 ⟨Rs,rest,hk1,R1,rfl,rfl,hxl⟩
  dsimp only at hxl ⊢
  have len1:=R1.len
  have er:rest=[]:=zbV.mp (by have:max 0 (arrOf st).size<=Rs.flatten.length:=hxl;omega)
  subst er
  exact⟨rfl,_,hk1,R1⟩
 ·rintro ⟨r,lo⟩ st1 ⟨rfl,Rs,hk1,R1⟩
  try dsimp only
  refine zf (zaH (zaA (I:=fun(y:Nat) (c:Option Unit×Unit) (st':SortSt)=>c.1=none/\∃Rs,kindOf st'=κ/\Rns kf Ok a0 st' Rs []/\Rs.length<=max 1 (a0.length - y))
   (Q:=fun(c:Option Unit×Unit) (st':SortSt)=>c.1=none/\∃Rs,kindOf st'=κ/\Rns kf Ok a0 st' Rs []/\Rs.length<=1) ?_ ?_ (show _/\_ from⟨rfl,_,hk1,R1,?_⟩)) ?_)
  ·rintro y ⟨r,⟨⟩⟩ st3 _ hy ⟨rfl,Rs,hk3,R3,hlen⟩
   refine zf (zbM ?_)
   try dsimp only
   have hps:=R3.psize
   by_cases hp:(pendingOf st3).size<=1
   ·rw [zi hp]
    exact zj ⟨rfl,_,hk3,R3,by omega⟩
   ·rw [zd hp]
    have mrg:∀(i:Nat),i+1<Rs.length->∀{Q:Bool->SortSt->Prop},(∀(Rs4:List (List Keyed)) (st4:SortSt),kindOf st4=κ->Rns kf Ok a0 st4 Rs4 []->Rs4.length+1=Rs.length->Q true st4)->wpS (model prog w) A E s (mergeAt' i) Q st3:=fun i hi Q hq=>by
     obtain⟨P,X,Y,S,eR,eP⟩:=qbl hi
     rw[eR] at R3
     refine q5d c o0 hk3 eP R3 fun Z st4 hk4 R4=>hq _ _ hk4 R4 ?_
     rw[eR]
     simp
     omega
    split
    ·rename_i h3
     have h3':0<(pendingOf st3).size - 2:=h3
     split
     ·refine zf (mrg ((pendingOf st3).size - 2 - 1) (by omega) fun Rs4 st4 hk4 R4 h4=>?_)
      rw[zd (by decide)]
      exact zj ⟨rfl,_,hk4,R4,by omega⟩
     ·refine zf (mrg ((pendingOf st3).size - 2) (by omega) fun Rs4 st4 hk4 R4 h4=>?_)
      rw[zd (by decide)]
      exact zj ⟨rfl,_,hk4,R4,by omega⟩
    ·split
     ·rename_i z
      exact nomatch z
     ·refine zf (mrg ((pendingOf st3).size - 2) (by omega) fun Rs4 st4 hk4 R4 h4=>?_)
      rw[zd (by decide)]
      exact zj ⟨rfl,_,hk4,R4,by omega⟩
  ·rintro ⟨r,⟨⟩⟩ st3 ⟨rfl,Rs,hk3,R3,hlen⟩
   exact⟨rfl,_,hk3,R3,by have h2:Rs.length<=max 1 (a0.length - max 0 (arrOf st).size):=hlen;omega⟩
  ·have ln:=R1.len
   have:∀(l:List (List Keyed)),(∀r∈l,r≠[])->l.length<=l.flatten.length:=fun l=>by
    induction l with
    |nil=>intro _;simp
    |cons r l ih=>
     intro hr
     have h1:=ih fun z hz=>hr z (zw _ hz)
     have h2:0<r.length:=zbN.mpr (hr r (.head _))
     rw[zbD,zm,zac]
     omega
   have:=this Rs fun r hr=>(R1.so r hr).2
   rw[zcS] at ln
   omega
  ·rintro ⟨r,⟨⟩⟩ st3 ⟨rfl,Rs,hk3,R3,hlen⟩
   try dsimp only
   refine zj (h st3 (by rw[<-ea0];exact R3.pm) ?_ R3.fl)
   rw[R3.arr,zM]
   match Rs,R3.so,hlen with
   |[],_,_=>exact List.Pairwise.nil
   |[r],so,_=>simpa using(so r (by simp)).1
   |_::_::_,_,hl=>simp at hl
end
end Tim
namespace Srt
open PySem PySem.W PyProof.Rows
section
variable {prog:Program}{w:World}{A:Around}{E:Value->Shared->Prop}{s:Shared}
theorem q6L {α:Type}:∀l:List α,l.zip l=l.map fun v=>(v,v)
 |[]=>rfl
 |v::l=>by rw[zcq,q6L l];rfl
theorem q7P {κ:SortKind}{a:Addr}{vs:List Value}{n:Nat}{P:PySem.Fin->Shared->Prop}{O:KeyOrd}{kv:Value->O.α}(ho:s.heap.get? a=some (seqObj "list" vs.toArray n))(hz:vs.length<=sizeLine)
  (hk:2<=vs.length->∀(h':Heap),(∀b o,b≠a->s.heap.get? b=some o->h'.get? b=some o)->∀(R:SortKind->Shared->Prop),R κ {s with heap:=h'}->wpAny (model prog w) A (keyKind' vs.toArray) R (fun _ _=>False) {s with heap:=h'})
  (ha:2<=vs.length->∀(h':Heap),(∀b o,b≠a->s.heap.get? b=some o->h'.get? b=some o)->∀(x y:Value) (C:Bool->Shared->Prop) (E:Value->Shared->Prop),x∈vs->y∈vs->C (O.blt (kv x) (kv y)) {s with heap:=h'}->wpAny (model prog w) A (keyLt' κ x y) C E {s with heap:=h'})
  (h:∀out:Array Value,(out.toList.Perm vs/\out.toList.Pairwise fun x y=>O.kle (kv x) (kv y))->P (.done (.ret .none)) {s with heap:=sortedHeap s.heap a vs out}):
  wpAny (model prog w) A (Builtin.«list.sort» ⟨[.ref a],[]⟩) P E s:=by
 have hlt:a<s.heap.objs.size:=zt ho
 obtain⟨e1,ho1⟩:∃e1,(s.heap.update a (Obj.mapSeq fun _=>(#[]:Array Value))).get? a=some (seqObj "list" #[] e1):=⟨_,get?_update_seq ho fun _=> #[]⟩
 have kp:∀b o,b≠a->s.heap.get? b=some o->(((s.heap.update a (Obj.mapSeq fun _=>(#[]:Array Value))).push (seqObj "tuple" vs.toArray 0)).push (seqObj "list" #[] 0)).get? b=some o:=fun b o hb e=>
  zg _ (zg _ (((za7 s.heap a (Obj.mapSeq fun _=>(#[]:Array Value))).2 b hb).trans e))
 have ho6:(((s.heap.update a (Obj.mapSeq fun _=>(#[]:Array Value))).push (seqObj "tuple" vs.toArray 0)).push (seqObj "list" #[] 0)).get? a=some (seqObj "list" #[] e1):=zg _ (zg _ ho1)
 rw[list_sort_plain]
 refine yD (listItems_at ho rfl (yD (listUpdate_at ho rfl (yD (seqEpoch_at ho1 rfl (yD (wpAny_newTuple (yD (wpAny_newList (zaR ?_) (zak _))) hz)))) (by rw[zy];exact hz) (zak _))))
 show wpAny (model prog w) A _ P E {s with heap:=((s.heap.update a (Obj.mapSeq fun _=>(#[]:Array Value))).push (seqObj "tuple" vs.toArray 0)).push (seqObj "list" #[] 0)}
 dsimp only
 by_cases h2:vs.length<2
 ·have h2':vs.toArray.size<2:=by rw[zy];exact h2
  rw[zi h2',zi h2']
  refine yD (zc ?_)
  rw[StateT.run_pure]
  refine yD (zc ?_)
  dsimp only
  have eo:Array.map (fun x:Value×Value=>x.2) (arrOf (SortSt.mk' general' (vs.toArray.zip vs.toArray) #[] 7 none))=vs.toArray:=by
   show Array.map (fun x:Value×Value=>x.2) (vs.toArray.zip vs.toArray)=vs.toArray
   apply Array.toList_inj.mp
   rw[Array.toList_map,Array.toList_zip]
   exact zcP (ze _)
  rw[eo]
  refine yD (seqEpoch_at ho6 rfl (yD (listUpdate_at ho6 rfl ?_ (zak _) (by rw[zy];exact Nat.le_succ_of_le hz))))
  simp only[bne_self_eq_false,Bool.false_eq_true,if_false]
  exact zc (h _ ⟨zcW _,L2.pw_two h2⟩)
 ·have h2':¬vs.toArray.size<2:=by rw[zy];exact h2
  rw[zd h2',zd h2']
  obtain⟨s6,es6⟩:∃s6:Shared,s6={s with heap:=((s.heap.update a (Obj.mapSeq fun _=>(#[]:Array Value))).push (seqObj "tuple" vs.toArray 0)).push (seqObj "list" #[] 0)}:=⟨_,rfl⟩
  have ho7:s6.heap.get? a=some (seqObj "list" #[] e1):=by rw[es6];exact ho6
  have hk':=hk (by omega) _ kp (fun κ' s0=>κ'=κ/\s0=s6) ⟨rfl,es6.symm⟩
  have ha':=ha (by omega) _ kp
  rw[<-es6] at hk' ha' ⊢
  refine yD (zZ hk' (fun κ' s0 hκ=>?_) fun _ _ x=>x.elim)
  obtain⟨rfl,rfl⟩:=hκ
  have cm:Tim.Cmp prog w A s0 κ' O (fun x=>kv x.1) (fun x=>x.1∈vs):=⟨fun x y Q E hx hy hq=>ha' x.1 y.1 Q E hx hy hq⟩
  have eq2:(vs.toArray.zip vs.toArray).toList=vs.map fun v=>(v,v):=by
   rw[Array.toList_zip]
   exact q6L vs
  refine yD (zZ (show wpS (model prog w) A E s0 sortRuns' (fun _ st'=>∃l:List Value,(arrOf st').toList=l.map (fun v=>(v,v))/\l.Perm vs/\(l.Pairwise fun x y=>O.kle (kv x) (kv y))/\failedOf st'=none) (SortSt.mk' κ' (vs.toArray.zip vs.toArray) #[] 7 none) from
   Tim.q7l cm rfl (fun x hx=>?_) rfl rfl fun st' pm so fl=>?_) ?_ fun _ _ e=>e)
  ·have hx:x∈(vs.toArray.zip vs.toArray).toList:=hx
   rw[eq2] at hx
   obtain⟨v,hv,rfl⟩:=zK.mp hx
   exact hv
  ·have pm:(arrOf st').toList.Perm (vs.toArray.zip vs.toArray).toList:=pm
   rw[eq2] at pm
   have e3:(arrOf st').toList=((arrOf st').toList.map (·.2)).map fun v=>(v,v):=by
    rw[zP]
    conv=>lhs;rw[<-zay (arrOf st').toList]
    refine zab fun x hx=>?_
    obtain⟨v,_,rfl⟩:=zK.mp (pm.mem_iff.mp hx)
    rfl
   refine⟨(arrOf st').toList.map (·.2),e3,?_,?_,fl⟩
   ·have:=pm.map (·.2)
    rwa [zP,show((fun x:Keyed=>x.2) ∘ fun v:Value=>(v,v))=id from rfl,zay] at this
   ·rw [e3] at so
    exact(zbi (R:=fun x y:Keyed=>O.kle (kv x.1) (kv y.1))).mp (show(List.map (fun v:Value=>(v,v)) (List.map (fun x=>x.2) (arrOf st').toList)).Pairwise (fun x y=>O.kle (kv x.1) (kv y.1)) from so)
  rintro⟨⟨⟩,st'⟩ s' ⟨rfl,l,har,pm,so,hf⟩
  dsimp only
  have eo:Array.map (fun x:Value×Value=>x.2) (arrOf st')=l.toArray:=by
   apply Array.toList_inj.mp
   rw[Array.toList_map,har,zP]
   exact zay _
  rw[eo]
  refine yD (seqEpoch_at ho7 rfl (yD (listUpdate_at ho7 rfl ?_ (zak _) (by rw[zy,pm.length_eq];exact Nat.le_succ_of_le hz))))
  rw[hf]
  simp only[bne_self_eq_false,Bool.false_eq_true,if_false]
  have hh:=h l.toArray ⟨pm,so⟩
  rw[es6]
  exact zc hh
theorem q3H {κ:SortKind}{l:Addr}{vs:List Value}{Q:Value->Shared->Prop}{O:KeyOrd}{kv:Value->O.α}(hl:s.heap.IsList l vs.toArray)(hz:vs.length<=sizeLine)
  (hk:2<=vs.length->∀(A':Around) (h':Heap),A'.units<=A.units+2->(∀b o,s.heap.get? b=some o->h'.get? b=some o)->∀(R:SortKind->Shared->Prop),R κ {s with heap:=h'}->wpAny (model prog w) A' (keyKind' vs.toArray) R (fun _ _=>False) {s with heap:=h'})
  (ha:2<=vs.length->∀(A':Around) (h':Heap),A'.units<=A.units+2->(∀b o,s.heap.get? b=some o->h'.get? b=some o)->∀(x y:Value) (C:Bool->Shared->Prop) (E:Value->Shared->Prop),x∈vs->y∈vs->C (O.blt (kv x) (kv y)) {s with heap:=h'}->wpAny (model prog w) A' (keyLt' κ x y) C E {s with heap:=h'})
  (h:∀out:Array Value,(out.toList.Perm vs/\out.toList.Pairwise fun x y=>O.kle (kv x) (kv y))->Q (.ref (s.heap.objs.size+1)) {s with heap:=sortedAll s.heap vs out}):
  wpAny (model prog w) A (call (.builtin "sorted") [.ref l]) Q E s:=by
 refine zcI kind_sorted plain_sorted entry_sorted (args_sorted1 _) ?_
 unfold Builtin.«sorted»
 refine yD (m:=checkCount "sorted" 1 1 _) (zc (yD (collect_list hl (yD (wpAny_newList ?_ hz)) hz)))
 have hsz:((s.heap.push (seqObj "list" #[] 0)).update s.heap.objs.size (Obj.mapSeq (· ++vs.toArray))).objs.size=s.heap.objs.size+1:=by
  rw[Heap.size_update,size_push']
 have hoL:(((s.heap.push (seqObj "list" #[] 0)).update s.heap.objs.size (Obj.mapSeq (· ++vs.toArray))).push (seqObj "list" vs.toArray 0)).get? (s.heap.objs.size+1)=some (seqObj "list" vs.toArray 0):=by
  rw[<-hsz];exact zB _ rfl
 have kp:∀b o,s.heap.get? b=some o->(((s.heap.push (seqObj "list" #[] 0)).update s.heap.objs.size (Obj.mapSeq (· ++vs.toArray))).push (seqObj "list" vs.toArray 0)).get? b=some o:=fun b o q=>by
  have hlt:b<s.heap.objs.size:=zt q
  rw[Heap.get?_push_ne _ _ _ (by rw[hsz];exact zC (zbE hlt)),Heap.get?_update_ne _ _ _ _ (zC hlt),Heap.get?_push_ne _ _ _ (zC hlt)]
  exact q
 have kq:∀b o,s.heap.get? b=some o->b≠s.heap.objs.size+1:=fun b o q=>zC (zbE (zt q))
 show wpAny _ _ _ _ _ {s with heap:=((s.heap.push (seqObj "list" #[] 0)).update s.heap.objs.size (Obj.mapSeq (· ++vs.toArray))).push (seqObj "list" vs.toArray 0)}
 rw[hsz]
 refine yD (zaR (zap slot_list_sort ⟨_,hoL,rfl⟩ entry_list_sort (q7P (s:={s with heap:=_}) hoL hz (fun h2 h' k=>hk h2 _ h' (ze _) fun b o q=>k b o (kq b o q) (kp b o q)) (fun h2 h' k=>ha h2 _ h' (ze _) fun b o q=>k b o (kq b o q) (kp b o q)) fun out ho=>⟨_,rfl,?_⟩) (args_list_sort _)))
 exact zc ⟨_,rfl,h out ho⟩
end
end Srt
namespace L2
open PySem PySem.Spec PyProof.Rows PySem.W
def rSortW (K:W.Frag):List V->Hp->VK->Prop:=fun xs H Q=>∃(p:Addr) (l:List (Addr×List Int)) (m:Nat),xs=[.ref p]/\SqL K H p (l.map fun x=>V.ref x.1)/\1<=m/\(∀x∈l,H x.1=some (.tup (x.2.map V.int))/\x.2.length=m)/\
 ∀(q:Addr) (l':List (Addr×List Int)),H q=none->l'.Perm l->l'.Pairwise (fun a b=>¬b.2<a.2)->Q (.ref q) (upd H q (.lst (l'.map fun x=>V.ref x.1)))
section
variable {X:Cx}{pins:List (Addr×Obj)}{σ:St}{H:Hp}{s:Shared}{l:List (Addr×List Int)}{m:Nat}
theorem kindT (I:Inv X pins σ H s)(hm:1<=m)(hl:∀x∈l,H x.1=some (.tup (x.2.map V.int))/\x.2.length=m)(h2:2<=l.length){A:Around}{R:SortKind->Shared->Prop}(hR:R (tuples' true) s):wpAny (model X.prog X.w) A (keyKind' (l.map fun x=>Value.ref x.1).toArray) R (fun _ _=>False) s:=by
 obtain⟨fs,kt,hf⟩:∃fs:List Value,KatTups s.heap (l.map fun x=>Value.ref x.1) fs/\fs.length=l.length/\∀v∈fs,∃n t,v=Value.int n t:=by
  clear h2
  induction l with
  |nil=>exact⟨[],trivial,rfl,fun v hv=>nomatch hv⟩
  |cons x l ih=>
   obtain⟨fs,a1,a2,a3⟩:=ih fun y hy=>hl y (zw _ hy)
   obtain⟨e1,e2⟩:=hl x (.head _)
   obtain⟨o,us,n,g1,g2,g3,g4⟩:=q4E I e1
   have hlen:=q4W g4
   match us,x.2,g4,hlen,e2 with
   |_,_,.cons k t hr,_,_=>
    refine⟨.int k t::fs,KatTups.cons g1 g2 g3 (by simp) a1,by simpa using a2,fun v hv=>?_⟩
    rcases zx.mp hv with rfl|hv
    ·exact ⟨_,_,rfl⟩
    ·exact a3 v hv
   |_,_,.nil,_,e2=>simp at e2;omega
 refine kat_kind kt (by have:=hf.1;omega) (T:= .type "int") (fun v hv=>?_) (by decide) (by rw[show(Value.type "int" != Value.type "tuple")=true by decide];exact hR)
 obtain⟨n,t,rfl⟩:=hf.2 v hv
 exact .now
theorem ltT (I:Inv X pins σ H s){kd:Value->List Int}(hkd:∀x∈l,kd (.ref x.1)=x.2)(hl:∀x∈l,H x.1=some (.tup (x.2.map V.int))/\x.2.length=m){A:Around}{u v:Value}{C:Bool->Shared->Prop}{E:Value->Shared->Prop}(hi:u∈l.map fun x=>Value.ref x.1)(hj:v∈l.map fun x=>Value.ref x.1)(hC:C (Srt.LO.blt (kd u) (kd v)) s):wpAny (model X.prog X.w) A (keyLt' (tuples' true) u v) C E s:=by
 obtain⟨x,hx,rfl⟩:=zK.mp hi
 obtain⟨y,hy,rfl⟩:=zK.mp hj
 obtain⟨a1,a2⟩:=hl x hx
 obtain⟨b1,b2⟩:=hl y hy
 obtain⟨o,us,n,g1,g2,g3,g4⟩:=q4E I a1
 obtain⟨o',us',n',g1',g2',g3',g4'⟩:=q4E I b1
 have l1:=q4W g4
 have l2:=q4W g4'
 refine kat_lt g1 g3 g1' g3' ?_
 rw[show decide (us.toArray.size<us'.toArray.size)=false by simp;omega]
 refine Srt.lex g4 g4' (by omega) ?_
 have hC':C (decide (kd (.ref x.1)<kd (.ref y.1))) s:=hC
 rw[hkd x hx,hkd y hy] at hC'
 exact hC'
theorem keyT (hl:∀x∈l,H x.1=some (.tup (x.2.map V.int))/\x.2.length=m):∃kd:Value->List Int,∀x∈l,kd (.ref x.1)=x.2:=by
 refine⟨fun v=>match v with| .ref a=>(match H a with|some (.tup ys)=>ys.map (fun y=>match y with| .int n=>n|_=>0)|_=>[])|_=>[],fun x hx=>?_⟩
 dsimp only
 rw[(hl x hx).1]
 dsimp only
 rw[zP]
 exact zay _
theorem outT {kd:Value->List Int}(hkd:∀x∈l,kd (.ref x.1)=x.2){out:Array Value}(pm:out.toList.Perm (l.map fun x=>Value.ref x.1))(so:out.toList.Pairwise fun x y=>Srt.LO.kle (kd x) (kd y)):
  ∃l':List (Addr×List Int),l'.Perm l/\out.toList=l'.map (fun x=>Value.ref x.1)/\l'.Pairwise (fun a b=>¬b.2<a.2):=by
 have g:∀x∈l,(fun v:Value=>((match v with| .ref a=>a|_=>0:Addr),kd v)) (Value.ref x.1)=x:=fun x hx=>by
  dsimp only
  rw[hkd x hx]
 refine⟨out.toList.map fun v=>((match v with| .ref a=>a|_=>0:Addr),kd v),?_,?_,?_⟩
 ·have:=pm.map fun v:Value=>((match v with| .ref a=>a|_=>0:Addr),kd v)
  rw[zP] at this
  refine this.trans (zbz ?_)
  conv=>rhs;rw[<-zay l]
  exact zab fun x hx=>g x hx
 ·rw [zP]
  conv=>lhs;rw[<-zay out.toList]
  refine zab fun v hv=>?_
  obtain⟨x,hx,rfl⟩:=zK.mp (pm.mem_iff.mp hv)
  rfl
 ·rw [zbi]
  exact so.imp fun {a b} hab=>zaW hab
theorem refsT:∀l':List (Addr×List Int),Vals (l'.map fun x=>V.ref x.1) (l'.map fun x=>Value.ref x.1)
 |[]=> .nil
 |_::l'=> .cons rfl (refsT l')
end
section
variable {X:Cx}
theorem sortTW (K:W.Frag)(hK:X.K=K:=by rfl):q1j X (.builtin "sorted") (rSortW K):=by
 subst hK
 intro pins s σ H xs us Q I r h
 obtain⟨p,l,m,rfl,hq,hm,hl,q⟩:=h
 obtain⟨u,rfl,rx⟩:=q3j r
 cases rx
 obtain⟨its,rv,pl,hz⟩:=I.list hq
 have ei:its=l.map fun x=>Value.ref x.1:=by
  have:=q3D (ps:=l.map (·.1)) (by rw[zP];exact rv)
  rw[this,zP]
  rfl
 subst ei
 rw[yC] at hz
 obtain⟨kd,hkd⟩:=keyT hl
 refine Srt.q3H (κ:=tuples' true) (O:=Srt.LO) (kv:=kd) pl.isList (by rw[yC];exact hz) (fun h2 A h' _ kp R hR=>kindT (I.kept (t':=s.toks) kp) hm hl (by rw[yC] at h2;exact h2) hR) (fun h2 A h' _ kp x y C E hx hy hC=>ltT (I.kept (t':=s.toks) kp) hkd hl hx hy hC) fun out ho=>?_
 obtain⟨l',hp,ho',hs⟩:=outT hkd ho.1 ho.2
 obtain⟨e,he⟩:=sortedAll_at s.heap (l.map fun x=>Value.ref x.1) out
 refine⟨.ref (s.heap.objs.size+1),upd H (s.heap.objs.size+1) (.lst (l'.map fun x=>V.ref x.1)),I.laid (t':=s.toks) (fun _ _=>sortedAll_old) (za9 _) ⟨by rw[yC,hp.length_eq];exact hz,out.toList,e,by rw[ho'];exact refsT l',by simpa[seqObj] using he⟩,rfl,q _ _ (I.hok.fresh (za9 _)) hp hs⟩
end
end L2
namespace Ce
open L2 PySem PySem.Spec PyProof.Rows
def ovV:Option Int->V
 |none=> .non
 |some n=> .int n
def SvAt (H:Hp)(p:Addr)(x:Sd×Option Int):Prop:=∃b,H p=some (.tup [.ref b,ovV x.2])/\SAt H b x.1
theorem SvAt.mono {H H':Hp}(ts:q0p H H'){p:Addr}{x:Sd×Option Int}(h:SvAt H p x):SvAt H' p x:=let ⟨b,c,d⟩:=h;⟨b,ts _ _ c,ts _ _ d⟩
theorem q8K {a b:Option Int}(h:ovV a=ovV b):a=b:=by cases a<;>cases b<;>simp[ovV] at h ⊢;exact h
theorem SvAt.uniq {H:Hp}{p:Addr}{x y:Sd×Option Int}(h:SvAt H p x)(g:SvAt H p y):x=y:=by
 obtain⟨b,c,d⟩:=h
 obtain⟨b',c',d'⟩:=g
 rw[c] at c'
 simp only[Option.some.injEq,HO.tup.injEq,List.cons.injEq,V.ref.injEq,and_true] at c'
 obtain⟨rfl,e2⟩:=c'
 exact Prod.ext (Sd.vs_inj (by have h:=d.symm.trans d';simpa using h)) (q8K e2)
end Ce
namespace Srp
open PySem PySem.W PyProof.Rows
section
variable {prog:Program}{w:World}
theorem q5Z {prog':Program}{w':World}:∀{ks:List L2.Key} {vs:List Value},ItemsAre (L2.qX prog w) ks vs->ItemsAre (L2.qX prog' w') ks vs
 |_,_,.nil=> .nil
 |_,_,.cons h t=> .cons h (q5Z t)
theorem q8Z {prog':Program}{w':World}{h:Heap}{ks:List L2.Key}{a:Addr}:IsTupleKey (L2.qX prog w) h ks a->IsTupleKey (L2.qX prog' w') h ks a:=fun⟨o,it,n,h1,h2,h3,h4⟩=>⟨o,it,n,h1,h2,h3,q5Z h4⟩
theorem eq_any {A:Around}{s:Shared}{x y:List L2.Key}{a b:Addr}(hu:A.units<cLine)(hx:IsTupleKey (L2.qX prog w) s.heap x a)(hy:IsTupleKey (L2.qX prog w) s.heap y b):SeqAt.EqAt A s (.ref a) (.ref b) (decide (x=y)):=
 fun p' w' E Q h=>wpAny_eqBool_tuple (knd:=L2.qX p' w') hu (q8Z hx) (q8Z hy) h
end
end Srp
namespace L2
open PySem PySem.Spec PyProof.Rows PySem.W Ce
theorem q3V:∀{a b:List Int},a.length=b.length->HT.q35 a b=decide (a<b)
 |[],[],_=>rfl
 |x::a,y::b,h=>by
  rw[HT.q4w]
  by_cases e:x=y
  ·subst e
   rw[zi rfl,q3V (by simpa using h)]
   simp[List.cons_lt_cons_iff]
  ·rw [zd e]
   simp[List.cons_lt_cons_iff,e]
section
variable {X:Cx}{pins:List (Addr×Obj)}{σ:St}{H:Hp}{s:Shared}
theorem qc1 (I:Inv X pins σ H s){p:Addr}{x:Sd×Option Int}(h:SvAt H p x):∃b v,s.heap.IsTuple p #[.ref b,v]/\RelV (ovV x.2) v/\SAt H b x.1:=by
 obtain⟨b,h1,h2⟩:=h
 obtain⟨its,rv,pa,_⟩:=I.tuple (SqT.of h1)
 obtain⟨u0,u1,rfl,r0,r1⟩:=q9X rv
 cases(show u0=Value.ref b from r0)
 exact⟨b,u1,pa,r1,h2⟩
theorem lt_sv (I:Inv X pins σ H s){A:Around}{a b:Addr}{x y:Sd×Option Int}{C:Bool->Shared->Prop}{E:Value->Shared->Prop}(hu:A.units+1<cLine)(hx:SvAt H a x)(hy:SvAt H b y)(hd:x.1=y.1->x=y)(hC:C (decide (x.1.ns<y.1.ns)) s):wpAny (model X.prog X.w) A (keyLt' (tuples' false) (.ref a) (.ref b)) C E s:=by
 obtain⟨q,v,⟨o,ho,_,n,hd1⟩,rv1,h3⟩:=qc1 I hx
 obtain⟨q',v',⟨o',ho',_,n',hd2⟩,rv2,g3⟩:=qc1 I hy
 have kq:(tupleKind (qX X.prog X.w)).is s.heap x.1.key q:=q3g I.hok h3
 have kq':(tupleKind (qX X.prog X.w)).is s.heap y.1.key q':=q3g I.hok g3
 refine kat_lt ho hd1 ho' hd2 ?_
 rw[show decide ((#[Value.ref q,v]:Array Value).size<(#[Value.ref q',v']:Array Value).size)=false from rfl]
 show KatLex X.prog X.w A false false C [(.ref q,.ref q'),(v,v')] 0 s
 refine kat_cons (Srp.eq_any (zbh hu) kq kq' _ _ _ _ ?_)
 by_cases ez:x.1=y.1
 ·obtain rfl:=hd ez
  rw[zu rfl]
  rw[zn (List.lt_irrefl _)] at hC
  refine kat_yes (kat_cons ?_)
  cases hz:x.2 with
  |none=>
   rw[hz] at rv1 rv2
   cases(show v=Value.none from rv1)
   cases(show v'=Value.none from rv2)
   unfold eqBool
   refine zaR ?_
   rw[zi (show(Value.none==Value.none)=true from rfl)]
   exact zc (M:=model X.prog X.w) (E:=fun _ _=>False) (kat_yes hC)
  |some n=>
   rw[hz] at rv1 rv2
   obtain⟨t,rfl⟩:=(show∃t,v=Value.int n t from rv1)
   obtain⟨t',rfl⟩:=(show∃t,v'=Value.int n t from rv2)
   refine zcK ?_
   rw[show(n==n)=true by simp]
   exact kat_yes hC
 ·rw [zn fun w=>ez (Sd.key_inj w)]
  refine kat_no (kat_one _ _ ?_)
  obtain⟨its,rv,pa,_⟩:=I.tuple (SqT.of h3)
  obtain⟨its',rv',pa',_⟩:=I.tuple (SqT.of g3)
  refine HT.q7O pa pa' (ns:=x.1.ns) (ms:=y.1.ns) (by simpa using q2i (show Vals (x.1.ns.map V.int) its from rv)) (by simpa using q2i (show Vals (y.1.ns.map V.int) its' from rv')) (zbh hu) ?_
  rw[q3V (show x.1.ns.length=y.1.ns.length from rfl)]
  exact hC
theorem qcS (I:Inv X pins σ H s):∀{l:List (Addr×(Sd×Option Int))},(∀x∈l,SvAt H x.1 x.2)->2<=l.length->∀{A:Around} {R:SortKind->Shared->Prop},R (tuples' false) s->wpAny (model X.prog X.w) A (keyKind' (l.map fun x=>Value.ref x.1).toArray) R (fun _ _=>False) s:=by
 intro l hl h2 A R hR
 obtain⟨fs,kt,hf,ht⟩:∃fs:List Value,KatTups s.heap (l.map fun x=>Value.ref x.1) fs/\fs.length=l.length/\∀v∈fs,∃b o,v=Value.ref b/\s.heap.get? b=some o/\o.cls= .type "tuple":=by
  clear h2
  induction l with
  |nil=>exact⟨[],trivial,rfl,fun v hv=>nomatch hv⟩
  |cons x l ih=>
   obtain⟨fs,a1,a2,a3⟩:=ih fun y hy=>hl y (zw _ hy)
   obtain⟨q,v',⟨o,ho,hc,n,hd⟩,_,e2⟩:=qc1 I (hl x (.head _))
   obtain⟨its,rv,⟨o2,ho2,hc2,_⟩,_⟩:=I.tuple (SqT.of e2)
   refine⟨.ref q::fs,KatTups.cons ho hc hd rfl a1,by simpa using a2,fun v hv=>?_⟩
   rcases zx.mp hv with rfl|hv
   ·exact ⟨q,o2,rfl,ho2,hc2⟩
   ·exact a3 v hv
 refine kat_kind kt (by omega) (T:= .type "tuple") (fun v hv=>?_) (by decide) (by rw[show(Value.type "tuple" != Value.type "tuple")=false by decide];exact hR)
 obtain⟨b,o,rfl,ho,hc⟩:=ht v hv
 rw[<-hc]
 exact Looks.andThen (Looks.ld ho) .now
end
noncomputable def kyP (H:Hp)(v:Value):Sd×Option Int:= @Classical.epsilon (Sd×Option Int) ⟨(⟨0,0,0,0,0⟩,none)⟩ fun x=>∃a,v= .ref a/\SvAt H a x
theorem q8X {H:Hp}{a:Addr}{x:Sd×Option Int}(h:SvAt H a x):kyP H (.ref a)=x:=by
 have e:∃x,∃b,Value.ref a= .ref b/\SvAt H b x:=⟨x,a,rfl,h⟩
 obtain⟨b,eb,hb⟩:= @Classical.epsilon_spec_aux (Sd×Option Int) ⟨(⟨0,0,0,0,0⟩,none)⟩ _ e
 cases eb
 exact hb.uniq h
def rSortP (K:W.Frag):List V->Hp->VK->Prop:=fun xs H Q=>∃(p:Addr) (M:List (Addr×(Sd×Option Int))),xs=[.ref p]/\SqL K H p (M.map fun x=>V.ref x.1)/\(∀x∈M,SvAt H x.1 x.2)/\(∀x∈M,∀y∈M,x.2.1=y.2.1->x.2=y.2)/\
 ∀(q:Addr) (M':List (Addr×(Sd×Option Int))),H q=none->M'.Perm M->M'.Pairwise (fun a b=>¬b.2.1.ns<a.2.1.ns)->Q (.ref q) (upd H q (.lst (M'.map fun x=>V.ref x.1)))
theorem sortPK {X:Cx}(K:W.Frag)(hu:X.A.units+4<cLine)(hK:X.K=K:=by rfl):q1j X (.builtin "sorted") (rSortP K):=by
 subst hK
 intro pins s σ H xs us Q I r h
 obtain⟨p,M,rfl,hq,hM,hd,q⟩:=h
 obtain⟨u,rfl,rx⟩:=q3j r
 cases rx
 obtain⟨its,rv,pl,hz⟩:=I.list hq
 have ei:its=M.map fun x=>Value.ref x.1:=by
  have:=q3D (ps:=M.map (·.1)) (by rw[zP];exact rv)
  rw[this,zP]
  rfl
 subst ei
 rw[yC] at hz
 refine Srt.q3H (κ:=tuples' false) (O:=Srt.LO) (kv:=fun v=>(kyP H v).1.ns) pl.isList (by rw[yC];exact hz) (fun h2 A h' _ kp R hR=>qcS (I.kept (t':=s.toks) kp) hM (by rw[yC] at h2;exact h2) hR) (fun h2 A h' hA kp x y C E hx hy hC=>?_) fun out ho=>?_
 ·obtain ⟨x,hx',rfl⟩:=zK.mp hx
  obtain⟨y,hy',rfl⟩:=zK.mp hy
  have hC:C (decide ((kyP H (.ref x.1)).1.ns<(kyP H (.ref y.1)).1.ns)) _:=hC
  rw[q8X (hM x hx'),q8X (hM y hy')] at hC
  exact lt_sv (I.kept (t':=s.toks) kp) (by omega) (hM x hx') (hM y hy') (hd x hx' y hy') hC
 have g:∀x∈M,(fun v:Value=>((match v with| .ref a=>a|_=>0:Addr),kyP H v)) (Value.ref x.1)=x:=fun x hx=>by
  dsimp only
  rw[q8X (hM x hx)]
 obtain⟨M',hp,ho',hs⟩:∃M':List (Addr×(Sd×Option Int)),M'.Perm M/\out.toList=M'.map (fun x=>Value.ref x.1)/\M'.Pairwise (fun a b=>¬b.2.1.ns<a.2.1.ns):=by
  refine⟨out.toList.map fun v=>((match v with| .ref a=>a|_=>0:Addr),kyP H v),?_,?_,?_⟩
  ·have:=ho.1.map fun v:Value=>((match v with| .ref a=>a|_=>0:Addr),kyP H v)
   rw[zP] at this
   refine this.trans (zbz ?_)
   conv=>rhs;rw[<-zay M]
   exact zab fun x hx=>g x hx
  ·rw [zP]
   conv=>lhs;rw[<-zay out.toList]
   refine zab fun v hv=>?_
   obtain⟨x,hx,rfl⟩:=zK.mp (ho.1.mem_iff.mp hv)
   rfl
  ·rw [zbi]
   exact ho.2.imp fun {a b} hab=>zaW hab
 obtain⟨e,he⟩:=sortedAll_at s.heap (M.map fun x=>Value.ref x.1) out
 have rf:∀M':List (Addr×(Sd×Option Int)),Vals (M'.map fun x=>V.ref x.1) (M'.map fun x=>Value.ref x.1):=fun M'=>by
  induction M' with
  |nil=>exact .nil
  |cons x M' ih=>exact .cons rfl ih
 refine⟨.ref (s.heap.objs.size+1),upd H (s.heap.objs.size+1) (.lst (M'.map fun x=>V.ref x.1)),I.laid (t':=s.toks) (fun _ _=>sortedAll_old) (za9 _) ⟨?_,out.toList,e,by rw[ho'];exact rf M',?_⟩,rfl,q _ _ (I.hok.fresh (za9 _)) hp hs⟩
 ·rw [yC,hp.length_eq];omega
 ·simpa [seqObj] using he
end L2
namespace Mine
open PySem L2
local macro_rules| `(tactic| walk_at "s")=> `(tactic| exact⟨rfl,rfl,rfl,by walk_at "k",rfl,by walk_at "k",by walk_at "k"⟩)
theorem bl0 {P:List Value->Prop}(h:P []):∀us:List Value,us.length=0->P us:=fun us e=>by cases us with|nil=>exact h|cons=>cases e
theorem blS {n:Nat}{P:List Value->Prop}(h:∀a (us:List Value),us.length=n->P (a::us)):∀us:List Value,us.length=n+1->P us:=fun us e=>by cases us with|nil=>cases e|cons a us=>exact h a us (Nat.succ.inj e)
def top (i:Nat):Stmt:=PySem.Challenge.pw_delve_k31_near_numbers.main.body.getD i (.Pass ⟨0,0,0,0⟩)
abbrev q8n:Stmt:=top 0
abbrev q3r:Stmt:=top 7
abbrev q2G:Stmt:=top 8
abbrev q2I:Stmt:=top 9
abbrev q2H:Stmt:=top 18
abbrev q4S:Stmt:=top 39
abbrev q6S:Stmt:=top 40
abbrev q0O:Stmt:=top 41
abbrev q1r:Stmt:=top 49
abbrev q3M:Stmt:=top 50
abbrev q15:Stmt:=top 51
abbrev q1l:Stmt:=top 52
abbrev q0r:Stmt:=top 53
abbrev q1p:Stmt:=top 56
abbrev q1q:Stmt:=top 57
abbrev q1k:Stmt:=top 58
abbrev q0U:Stmt:=top 59
abbrev q0H:Stmt:=top 60
abbrev q3L:Stmt:=top 62
abbrev q0D:Stmt:=top 63
abbrev q0T:Stmt:=top 64
abbrev q23:Stmt:=top 65
abbrev q0J:Stmt:=top 67
abbrev q19:Stmt:=top 68
abbrev q0I:Stmt:=top 69
abbrev q1w:Stmt:=top 70
abbrev q0B:Stmt:=top 71
abbrev q1u:Stmt:=top 72
abbrev q1x:Stmt:=top 73
abbrev q0W:Stmt:=top 74
abbrev q1v:Stmt:=top 75
abbrev q0K:Stmt:=top 76
abbrev q1t:Stmt:=top 77
abbrev q0V:Stmt:=top 78
abbrev q1s:Stmt:=top 79
abbrev q0C:Stmt:=top 80
abbrev q8m:Stmt:=top 81
abbrev q1L:Stmt:=qI (top 11) 0
abbrev qT:Stmt:=qI (top 11) 1
abbrev q1b:Stmt:=qI (top 12) 0
abbrev q1a:Stmt:=qI (top 12) 1
abbrev q1N:Stmt:=qI (top 13) 0
abbrev q1M:Stmt:=qI (top 13) 1
abbrev q1K:Stmt:=qI (top 14) 0
abbrev q1J:Stmt:=qI (top 14) 1
abbrev q2g:Stmt:=qI (top 15) 0
abbrev q2f:Stmt:=qI (top 15) 1
abbrev q1z:Stmt:=qI (top 16) 0
abbrev q1y:Stmt:=qI (top 16) 1
abbrev q1d:Stmt:=qI (top 17) 0
abbrev q1c:Stmt:=qI (top 17) 1
abbrev q1O:Stmt:=qI (top 43) 0
abbrev q06:Stmt:=qI (top 43) 1
abbrev qU:Stmt:=qI (top 43) 2
abbrev qD:Stmt:=qI (top 43) 4
abbrev q2J:Stmt:=qI (top 44) 0
abbrev q2K:Stmt:=qI (top 44) 1
abbrev q2L:Stmt:=qI (top 44) 2
abbrev q1G:Stmt:=qI (top 45) 0
abbrev q1H:Stmt:=qI (top 45) 1
abbrev q1I:Stmt:=qI (top 45) 2
abbrev q1D:Stmt:=qI (top 46) 0
abbrev q1E:Stmt:=qI (top 46) 1
abbrev q1F:Stmt:=qI (top 46) 2
abbrev q1A:Stmt:=qI (top 47) 0
abbrev q1B:Stmt:=qI (top 47) 1
abbrev q1C:Stmt:=qI (top 47) 2
abbrev q0X:Stmt:=qI (top 48) 0
abbrev q0Y:Stmt:=qI (top 48) 1
abbrev q0Z:Stmt:=qI (top 48) 2
theorem q8l:FnScope ["number","least","most"] ["number","least","most"] (qf q3r):=by walk_at "s"
theorem q7w:FnScope ["bits","place"] ["bits","place"] (qf q2G):=by walk_at "s"
theorem q7y:FnScope ["parts","place","part"] ["parts","place","part"] (qf q2I):=by walk_at "s"
theorem q4q:FnScope ["gate","word"] ["gate"] (qf q2H):=by walk_at "s"
theorem qa1:FnScope ["cellar"] ["cellar"] (qf q4S):=by walk_at "s"
theorem q31:FnScope ["cellar","stand","counts","number","thing","kind"] ["cellar","stand"] (qf q6S):=by walk_at "s"
theorem q4M:FnScope ["cellar"] ["cellar"] (qf q0O):=by walk_at "s"
theorem q5y:FnScope ["way","room"] ["way","room"] (qf q1r):=by walk_at "s"
theorem qa2:FnScope ["cellar","stand"] ["cellar","stand"] (qf q3M):=by walk_at "s"
theorem q5w:FnScope ["cellar","stand"] ["cellar","stand"] (qf q15):=by walk_at "s"
theorem q6o:FnScope ["cellar"] ["cellar"] (qf q1l):=by walk_at "s"
theorem q0N:FnScope ["cellar","pulls","takes","turns","unlocks"] ["cellar"] (qf q0r):=by walk_at "s"
theorem q07:FnScope ["cellar","begin","walk","row","place","here","pairs","deed","other"] ["cellar","begin"] (qf q1p):=by walk_at "s"
theorem q5x:FnScope ["ends","walk"] ["ends","walk"] (qf q1q):=by walk_at "s"
theorem q1o:FnScope ["walk","links","stand","pairs"] ["walk"] (qf q1k):=by walk_at "s"
theorem qY:FnScope ["begins","links","row","counts","begin","place","here","other"] ["begins","links"] (qf q0U):=by walk_at "s"
theorem q0c:FnScope ["links","turned","stand","others","other"] ["links"] (qf q0H):=by walk_at "s"
theorem q4L:FnScope ["cellar","walk","counts"] ["cellar"] (qf q3L):=by walk_at "s"
theorem q4h:FnScope ["cellar"] ["cellar"] (qf q0D):=by walk_at "s"
theorem q4i:FnScope ["cellar","walk"] ["cellar","walk"] (qf q0T):=by walk_at "s"
theorem q7x:FnScope ["cellar","walk"] ["cellar","walk"] (qf q23):=by walk_at "s"
theorem q3K:FnScope ["_law_script","_law_k"] ["_law_script","_law_k"] (qf q0J):=by walk_at "s"
theorem q4N:FnScope ["_law_found"] ["_law_found"] (qf q19):=by walk_at "s"
theorem q0d:FnScope ["_law_script","_law_first","_law_total","_law_found","_law_number","_law_k","_law_cell"] ["_law_script","_law_first","_law_total"] (qf q0I):=by walk_at "s"
theorem q21:FnScope ["_law_number","_law_base","_law_kind","_law_way"] ["_law_number","_law_base"] (qf q1w):=by walk_at "s"
theorem qA:FnScope ["_law_first","_law_numbers_here","_law_big","_law_rooms","_law_base","_law_ways","_law_k","_law_number","_law_a","_law_b","_law_things","_law_levers","_law_wheels","_law_last","_law_lists","_law_begin"] ["_law_first","_law_numbers_here","_law_big"] (qf q0B):=by walk_at "s"
theorem qZ:FnScope ["_law_first","_law_numbers_here","_law_rooms","_law_base","_law_ways","_law_things","_law_k","_law_number","_law_kind","_law_gate_here","_law_last"] ["_law_first","_law_numbers_here"] (qf q1u):=by walk_at "s"
theorem q22:FnScope ["_law_script","_law_first","_law_numbers_here"] ["_law_script"] (qf q1x):=by walk_at "s"
theorem q0m:FnScope ["_law_cave_here","_law_stand","_law_kind","_law_total","_law_k"] ["_law_cave_here","_law_stand","_law_kind"] (qf q0W):=by walk_at "s"
theorem q3c:FnScope ["_law_cave_here","_law_stand","_law_k","_law_gate_here"] ["_law_cave_here","_law_stand","_law_k"] (qf q1v):=by walk_at "s"
theorem qB:FnScope ["_law_cave_here","_law_stand","_law_room","_law_taken","_law_unlocked","_law_bits","_law_high","_law_gone","_law_turned","_law_k","_law_a","_law_b","_law_gate_here","_law_back"] ["_law_cave_here","_law_stand"] (qf q0K):=by walk_at "s"
theorem qQ:FnScope ["_law_cave_here","_law_stand","_law_room","_law_taken","_law_unlocked","_law_bits","_law_high","_law_gone","_law_turned","_law_k"] ["_law_cave_here","_law_stand"] (qf q1t):=by walk_at "s"
theorem q0A:FnScope ["_law_cave_here","_law_stand","_law_known","_law_waiting","_law_deed","_law_other"] ["_law_cave_here","_law_stand"] (qf q0V):=by walk_at "s"
theorem q0q:FnScope ["_law_cave_here","_law_found","_law_shut"] ["_law_cave_here"] (qf q1s):=by walk_at "s"
theorem qW:FnScope ["_law_cave_here","_law_rows","_law_stands","_law_number","_law_k","_law_stand","_law_ahead","_law_near","_law_due"] ["_law_cave_here","_law_rows","_law_stands"] (qf q0C):=by walk_at "s"
theorem q3J:FnScope ["_law_script","_law_cave_here","_law_stands","_law_rows","_law_shut","_law_kept","_law_told_here"] ["_law_script"] (qf q8m):=by walk_at "s"
theorem q5L:FnScope ["self","word","numbers"] ["self","word","numbers"] (qf q1L):=by walk_at "s"
theorem q4P:FnScope ["self"] ["self"] (qf q1b):=by walk_at "s"
theorem q4O:FnScope ["self","held","opened","bars","water"] ["self","held","opened","bars","water"] (qf q1a):=by walk_at "s"
theorem q5N:FnScope ["self","kind"] ["self","kind"] (qf q1N):=by walk_at "s"
theorem q5M:FnScope ["self","held","opened","bars","water"] ["self","held","opened","bars","water"] (qf q1M):=by walk_at "s"
theorem q5K:FnScope ["self","kind"] ["self","kind"] (qf q1K):=by walk_at "s"
theorem q5J:FnScope ["self","held","opened","bars","water"] ["self","held","opened","bars","water"] (qf q1J):=by walk_at "s"
theorem q6r:FnScope ["self","bar"] ["self","bar"] (qf q2g):=by walk_at "s"
theorem q6q:FnScope ["self","held","opened","bars","water"] ["self","held","opened","bars","water"] (qf q2f):=by walk_at "s"
theorem q5A:FnScope ["self","height","kind"] ["self","height","kind"] (qf q1z):=by walk_at "s"
theorem q5z:FnScope ["self","held","opened","bars","water"] ["self","held","opened","bars","water"] (qf q1y):=by walk_at "s"
theorem q4R:FnScope ["self","height"] ["self","height"] (qf q1d):=by walk_at "s"
theorem q4Q:FnScope ["self","held","opened","bars","water"] ["self","held","opened","bars","water"] (qf q1c):=by walk_at "s"
theorem q5P:FnScope ["self","word","number","part"] ["self","word","number","part"] (qf q1O):=by walk_at "s"
theorem q6p:FnScope ["self","cellar","stand"] ["self","cellar","stand"] (qf q06):=by walk_at "s"
theorem q5O:FnScope ["self"] ["self"] (qf qU):=by walk_at "s"
theorem q3k:FnScope ["self","cellar"] ["self","cellar"] (qf qD):=by walk_at "s"
theorem q7z:FnScope ["self","number"] ["self","number"] (qf q2J):=by walk_at "s"
theorem q32:FnScope ["self","cellar","stand","way","opened"] ["self","cellar","stand"] (qf q2K):=by walk_at "s"
theorem q33:FnScope ["self","cellar","stand","way","other_end"] ["self","cellar","stand"] (qf q2L):=by walk_at "s"
theorem q5G:FnScope ["self","number"] ["self","number"] (qf q1G):=by walk_at "s"
theorem q5H:FnScope ["self","cellar","stand"] ["self","cellar","stand"] (qf q1H):=by walk_at "s"
theorem q5I:FnScope ["self","cellar","stand"] ["self","cellar","stand"] (qf q1I):=by walk_at "s"
theorem q5D:FnScope ["self","number"] ["self","number"] (qf q1D):=by walk_at "s"
theorem q5E:FnScope ["self","cellar","stand"] ["self","cellar","stand"] (qf q1E):=by walk_at "s"
theorem q5F:FnScope ["self","cellar","stand"] ["self","cellar","stand"] (qf q1F):=by walk_at "s"
theorem q5B:FnScope ["self","number"] ["self","number"] (qf q1A):=by walk_at "s"
theorem q3d:FnScope ["self","cellar","stand","wheel"] ["self","cellar","stand"] (qf q1B):=by walk_at "s"
theorem q5C:FnScope ["self","cellar","stand"] ["self","cellar","stand"] (qf q1C):=by walk_at "s"
theorem q4j:FnScope ["self","number"] ["self","number"] (qf q0X):=by walk_at "s"
theorem q1g:FnScope ["self","cellar","stand","way","gate"] ["self","cellar","stand"] (qf q0Y):=by walk_at "s"
theorem q4k:FnScope ["self","cellar","stand"] ["self","cellar","stand"] (qf q0Z):=by walk_at "s"
structure Cs where
 Gate:Addr
 Plain:Addr
 Door:Addr
 Need:Addr
 Bar:Addr
 Wade:Addr
 Float:Addr
 Deed:Addr
 Go:Addr
 Pull:Addr
 Take:Addr
 Turn:Addr
 Unlock:Addr
structure TxtR (a:Str->Value->Prop)(n:Str->Prop)(cs:Cs):Prop where
 waG:n "bool"
 vA:n "enumerate"
 vO:n "int"
 wx:n "isinstance"
 wm:n "len"
 vF:n "list"
 wa8:n "max"
 wa6:n "min"
 wu:n "range"
 vT:n "sorted"
 wV:n "tuple"
 va:∃t,a "BARS" (.int 3 t)
 vN:∃t,a "FIRST" (.int 1 t)
 wW:∃t,a "FIRST_BARS" (.int 7 t)
 wQ:∃t,a "FIRST_WATER" (.int 8 t)
 vq:∃t,a "LAST" (.int 2 t)
 w9:∃t,a "LAST_KIND" (.int 11 t)
 wS:∃t,a "LEVERS" (.int 5 t)
 wH:∃t,a "MOST_STANDS" (.int 300 t)
 wq:∃t,a "OPENED" (.int 2 t)
 wj:∃t,a "PAIR_NUMBER" (.int 1 t)
 wn:∃t,a "PAIR_ROOM" (.int 0 t)
 we:∃t,a "ROOM" (.int 0 t)
 wD:∃t,a "TAKEN" (.int 1 t)
 wB:∃t,a "THINGS" (.int 4 t)
 wM:∃t,a "WATER" (.int 4 t)
 wz:∃t,a "WAYS" (.int 3 t)
 wU:∃t,a "WAY_A" (.int 0 t)
 wX:∃t,a "WAY_B" (.int 1 t)
 vh:∃t,a "WAY_BACK" (.int 3 t)
 wG:∃t,a "WAY_GATE" (.int 2 t)
 wT:∃t,a "WHEELS" (.int 6 t)
 c_Gate:a "Gate" (.ref cs.Gate)
 c_Plain:a "Plain" (.ref cs.Plain)
 c_Door:a "Door" (.ref cs.Door)
 c_Need:a "Need" (.ref cs.Need)
 c_Bar:a "Bar" (.ref cs.Bar)
 c_Wade:a "Wade" (.ref cs.Wade)
 c_Float:a "Float" (.ref cs.Float)
 c_Deed:a "Deed" (.ref cs.Deed)
 c_Go:a "Go" (.ref cs.Go)
 c_Pull:a "Pull" (.ref cs.Pull)
 c_Take:a "Take" (.ref cs.Take)
 c_Turn:a "Turn" (.ref cs.Turn)
 c_Unlock:a "Unlock" (.ref cs.Unlock)
abbrev Txt (mg:Str->Option Value)(cs:Cs):Prop:=TxtR (fun x v=>mg x=some v) (fun x=>mg x=none) cs
theorem TxtR.up {a a':Str->Value->Prop}{n n':Str->Prop}{cs:Cs}(h1:∀x v,a x v->a' x v)(h2:∀x,n x->n' x)(t:TxtR a n cs):TxtR a' n' cs:=⟨h2 _ t.waG,h2 _ t.vA,h2 _ t.vO,h2 _ t.wx,h2 _ t.wm,h2 _ t.vF,h2 _ t.wa8,h2 _ t.wa6,h2 _ t.wu,h2 _ t.vT,h2 _ t.wV,t.va.imp fun _=>h1 _ _,t.vN.imp fun _=>h1 _ _,t.wW.imp fun _=>h1 _ _,t.wQ.imp fun _=>h1 _ _,t.vq.imp fun _=>h1 _ _,t.w9.imp fun _=>h1 _ _,t.wS.imp fun _=>h1 _ _,t.wH.imp fun _=>h1 _ _,t.wq.imp fun _=>h1 _ _,t.wj.imp fun _=>h1 _ _,t.wn.imp fun _=>h1 _ _,t.we.imp fun _=>h1 _ _,t.wD.imp fun _=>h1 _ _,t.wB.imp fun _=>h1 _ _,t.wM.imp fun _=>h1 _ _,t.wz.imp fun _=>h1 _ _,t.wU.imp fun _=>h1 _ _,t.wX.imp fun _=>h1 _ _,t.vh.imp fun _=>h1 _ _,t.wG.imp fun _=>h1 _ _,t.wT.imp fun _=>h1 _ _,h1 _ _ t.c_Gate,h1 _ _ t.c_Plain,h1 _ _ t.c_Door,h1 _ _ t.c_Need,h1 _ _ t.c_Bar,h1 _ _ t.c_Wade,h1 _ _ t.c_Float,h1 _ _ t.c_Deed,h1 _ _ t.c_Go,h1 _ _ t.c_Pull,h1 _ _ t.c_Take,h1 _ _ t.c_Turn,h1 _ _ t.c_Unlock⟩
structure Tcl (K:W.Frag)(cs:Cs):Prop where
 cl_Plain:Cls K cs.Plain
 no_Plain_numbers:qE K cs.Plain "numbers"
 no_Plain_word:qE K cs.Plain "word"
 cl_Door:Cls K cs.Door
 no_Door_numbers:qE K cs.Door "numbers"
 no_Door_word:qE K cs.Door "word"
 cl_Need:Cls K cs.Need
 no_Need_kind:qE K cs.Need "kind"
 no_Need_numbers:qE K cs.Need "numbers"
 no_Need_word:qE K cs.Need "word"
 cl_Bar:Cls K cs.Bar
 no_Bar_bar:qE K cs.Bar "bar"
 no_Bar_numbers:qE K cs.Bar "numbers"
 no_Bar_word:qE K cs.Bar "word"
 cl_Wade:Cls K cs.Wade
 no_Wade_height:qE K cs.Wade "height"
 no_Wade_kind:qE K cs.Wade "kind"
 no_Wade_numbers:qE K cs.Wade "numbers"
 no_Wade_word:qE K cs.Wade "word"
 cl_Float:Cls K cs.Float
 no_Float_height:qE K cs.Float "height"
 no_Float_numbers:qE K cs.Float "numbers"
 no_Float_word:qE K cs.Float "word"
 cl_Go:Cls K cs.Go
 no_Go_number:qE K cs.Go "number"
 no_Go_part:qE K cs.Go "part"
 no_Go_word:qE K cs.Go "word"
 cl_Pull:Cls K cs.Pull
 no_Pull_number:qE K cs.Pull "number"
 no_Pull_part:qE K cs.Pull "part"
 no_Pull_word:qE K cs.Pull "word"
 cl_Take:Cls K cs.Take
 no_Take_number:qE K cs.Take "number"
 no_Take_part:qE K cs.Take "part"
 no_Take_word:qE K cs.Take "word"
 cl_Turn:Cls K cs.Turn
 no_Turn_number:qE K cs.Turn "number"
 no_Turn_part:qE K cs.Turn "part"
 no_Turn_word:qE K cs.Turn "word"
 cl_Unlock:Cls K cs.Unlock
 no_Unlock_number:qE K cs.Unlock "number"
 no_Unlock_part:qE K cs.Unlock "part"
 no_Unlock_word:qE K cs.Unlock "word"
structure Xs where
 NoCellar:Addr
 Wide:Addr
structure Tx (K:W.Frag)(mg:Str->Option Value)(xs:Xs):Prop where
 wbB:mg "NoCellar"=some (.ref xs.NoCellar)
 wae:mg "Wide"=some (.ref xs.Wide)
 wbA:ExcC K xs.NoCellar
 wbu:W.exmOne K (.ref xs.NoCellar) (.ref xs.Wide)=some false
 wbm:ExcC K xs.Wide
 wah:W.exmOne K (.ref xs.Wide) (.ref xs.Wide)=some true
-- ROOM 13
-- SLIM
-- DROP ok_deed_of
-- DROP ok_behind
-- DROP ok_deedsAt
-- PATCHED
-- DROP ok_cell
-- DROP ok_gate
-- DROP ok_heldL
-- DROP ok_cellar
-- DROP stand_b
-- DROP ok_stand
-- DROP vm_dtext
-- DROP vm_told
-- DROP vm_text
theorem r_seqZ {t u:TS}{nx bk ct:St->Hp->Prop}{rt:VK}{σ:St}{H:Hp}(q:∀z:TS,z=u->t ⟨z ⟨nx,rt,bk,ct⟩,rt,bk,ct⟩ σ H):tSeq t u ⟨nx,rt,bk,ct⟩ σ H:=q u rfl
theorem r_unz {z u:TS}{D:Ends}{σ:St}{H:Hp}(h:z=u)(q:u D σ H):z D σ H:=h▸q
local macro_rules| `(tactic| walk_at "ne")=> `(tactic| refine ifd (fun h=>absurd h (by walk_at "k")) (fun _=>?_))
local macro_rules| `(tactic| walk_at "eq")=> `(tactic| refine ifd (fun _=>?_) (fun h=>absurd rfl h))
local macro_rules| `(tactic| walk_at "at")=> `(tactic| first|rfl|exact atI0|exact qdg (by assumption)|exact q0n (by assumption)|assumption)
local macro_rules| `(tactic| walk_at "hp")=> `(tactic| first|with_reducible assumption|with_reducible exact qd|((with_reducible apply q1f);(rotate_left;(with_reducible assumption));walk_at "hp")|exact qd)
local macro_rules| `(tactic| walk_at "sq")=> `(tactic| first|with_reducible assumption|((with_reducible apply SqT.of);walk_at "hp")|((with_reducible apply SqL.of);walk_at "hp")|((with_reducible refine' Same.seq ?s ?h);(case h=>with_reducible assumption);(case s=>walk_at "sm"))|((with_reducible refine' Same.tup ?s ?h);(case h=>with_reducible assumption);(case s=>walk_at "sm")))
local macro_rules| `(tactic| walk_at "sm")=> `(tactic| first|with_reducible assumption|with_reducible exact Same.refl _|((with_reducible refine Same.trans ?_ (Same.upd (by assumption)));walk_at "sm"))
local macro_rules| `(tactic| walk_at "side")=> `(tactic| first|assumption|omega|(exact⟨by omega,by omega⟩)|(exact Or.inl ⟨by omega,by omega⟩)|(exact Or.inr ⟨by omega,by omega⟩)|(exact⟨by omega,by omega,by omega⟩)|(exact⟨by omega,by omega,by decide⟩)|(exact⟨⟨by omega,by omega⟩,by omega,by omega⟩))
local macro_rules| `(tactic| walk_at "rd1")=> `(tactic| first|((with_reducible refine' r_var ?h ?_);(case h=>rfl))|(with_reducible first|refine' r_op ?_|refine' r_c ?_|refine' r_cons ?_|refine' r_nil ?_)|((with_reducible refine' r_seqZ ?_);intro _ _)|(with_reducible first|refine' r_asg ?_|refine' r_name ?_|refine' r_call ?_|refine' r_cb ?_|refine' r_I0 ?_|refine' r_test ?_|refine' r_bl ?_|refine' r_B ?_|refine' r_ifS ?_|refine' r_ret ?_|refine' r_eqI ?_|refine' r_eqS ?_|refine' r_neI ?_|refine' r_neS ?_|refine' r_and ?_|refine' r_or ?_|refine' r_not ?_|refine' r_isN ?_|refine' r_notN ?_|refine' r_andV ?_|refine' r_orV ?_|refine' r_notV ?_|refine' r_if ?_|refine' r_tup ?_|refine' r_lst ?_|refine' r_sl ?_|refine' r_np ?_|refine' r_pt ?_|refine' r_int ?_|refine' r_fld0 ?_|refine' qcd ?_|refine' r_vm0 ?_|refine' r_make ?_|refine' qci ?_|refine' r_max2 ?_|refine' r_min2 ?_|refine' r_intb ?_|refine' r_next ?_|refine' r_drop ?_|refine' r_augS ?_|refine' r_ipI ?_|refine' r_gc ?_|refine' r_gn ?_|refine' r_bm ?_|refine' r_bm0 ?_|refine' r_for ?_|refine' r_rng1 ?_|refine' r_rng2 ?_|refine' r_comp ?_|refine' r_yes ?_|refine' r_iL ?_|refine' r_iT ?_|refine' r_eL ?_|refine' r_eT ?_|refine' iteT ?_|refine' iteF ?_|refine' ifnT ?_|refine' ifnF ?_|refine' qab ?_|refine' qac ?_|refine' qa8 ?_|refine' qa9 ?_|refine' r_dnew ?_|refine' r_dget ?_|refine' r_dnin ?_|refine' r_dput ?_|refine' r_dk ?_|refine' r_dp ?_|refine' qch ?_|refine' r_dgm ?_|refine' r_cont ?_)|((with_reducible refine' r_I ?h ?_);(case h=>walk_at "side"))|((with_reducible refine' r_al ?h ?_);(case h=>rfl))|((with_reducible refine' r_augN ?h ?_);(case h=>rfl))|((with_reducible refine' q3l ?h ?e ?_);(case h=>walk_at "sq");(case e=>walk_at "at"))|((with_reducible refine' q6t ?h ?e ?_);(case h=>walk_at "sq");(case e=>walk_at "at"))|((with_reducible refine' r_lenT ?h ?_);(case h=>walk_at "sq"))|((with_reducible refine' r_lenL ?h ?_);(case h=>walk_at "sq"))|((with_reducible refine' r_refT ?h ?_);(case h=>walk_at "sq"))|((with_reducible refine' r_refL ?h ?_);(case h=>walk_at "sq"))|((with_reducible refine' qce ?h ?_);(case h=>walk_at "sq"))|((with_reducible refine' qcf ?h ?_);(case h=>walk_at "sq"))|((with_reducible refine' r_tyL ?h ?_);(case h=>walk_at "hp"))|((with_reducible refine' qa7 ?h ?_);(case h=>walk_at "hp"))|((with_reducible refine' qaa ?h ?_);(case h=>walk_at "hp"))|((with_reducible refine' r_gT ?h ?e ?_);(case h=>walk_at "sq");(case e=>rfl))|((with_reducible refine' r_rg ?h ?_);(case h=>walk_at "side"))|((with_reducible refine' r_rg2 ?h ?_);(case h=>walk_at "side"))|((with_reducible refine' r_unz ?h ?_);(case h=>assumption))|((dsimp only);(with_reducible refine' r_unz ?h ?_);(case h=>assumption)))
local macro_rules| `(tactic| walk_at "r")=> `(tactic| repeat (walk_at "rd1"))
local macro_rules| `(tactic| walk_at "rc")=> `(tactic| repeat (first|with_reducible refine' r_seq ?_|walk_at "rd1"))
open Ce
def q6n:Sp:=fun vs H Q _=>∃x t,vs=[.int x,.int t]/\0<=t/\Q (.bl (bit x t.toNat)) H
def q6i:Sp:=fun vs H Q _=>∃(p:Addr) (C:Cl),vs=[.ref p]/\ClAt H p C/\∀(q:Addr) (H':Hp),Same H H'->H' q=some (.tup [.int C.fst,.int 0,.int 0,.int C.bars,.int C.water])->Q (.ref q) H'
def dkV (g:Gt):V:=match g.dk with
 |some k=> .int k
 |none=> .non
def spDk:Sp:=fun vs H Q _=>∃(p:Addr) (C:Cl),vs=[.ref p]/\ClAt H p C/\ClOk C/\∀(q:Addr) (H':Hp),Same H H'->H q=none->H' q=some (.lst (C.ways.map fun x=>dkV x.g))->Q (.ref q) H'
def q6O:Sp:=fun vs H Q _=>∃(p q:Addr) (C:Cl) (rm tk op b wt:Int),vs=[.ref p,.ref q]/\ClAt H p C/\ClOk C/\H q=some (.tup [.int rm,.int tk,.int op,.int b,.int wt])/\(∀i,i<C.ways.length->bit op i=true->(dsOf C i).isSome=true)/\
 ∀(r:Addr) (H':Hp),Same H H'->H r=none->H' r=some (.lst (cl (hold C tk op)))->Q (.ref r) H'
theorem q59 {xs:List Int}{j:Nat}(h:j<xs.length):atI (xs.map V.int) (j:Int)=some (.int (xs.getD j 0)):=q0n (by simp[List.getD,h])
theorem q9D {C:Cl}{tk k:Int}{i:Nat}(hi:i<C.things.length):(cnt (tP C tk k) (i+1):Int)=(cnt (tP C tk k) i:Int)+(if bit tk i=true then(if k=C.things[i].2 then 1 else 0) else 0):=by
 show((cnt _ i+_:Nat):Int)=_
 have e:C.things.getD i (0,0)=C.things[i]:=by simp[List.getD,hi]
 unfold tP
 rw[e]
 by_cases h1:bit tk i=true
 ·by_cases h2:C.things[i].2=k
  ·simp [h1,h2]
  ·have:¬k=C.things[i].2:=fun z=>h2 z.symm
   simp[h1,h2,this]
 ·simp [h1]
theorem q9F {C:Cl}{op k:Int}{i:Nat}(hi:i<C.ways.length):(cnt (dP (dsOf C) op k) (i+1):Int)=(cnt (dP (dsOf C) op k) i:Int)+(if bit op i=true then(if C.ways[i].g.dk=some k then 1 else 0) else 0):=by
 show((cnt _ i+_:Nat):Int)=_
 have e:dsOf C i=C.ways[i].g.dk:=by simp[dsOf,hi]
 unfold dP
 rw[e]
 by_cases h1:bit op i=true
 ·by_cases h2:C.ways[i].g.dk=some k
  ·simp [h1,h2]
  ·simp [h1,h2]
 ·simp [h1]
section
variable {P:Program}{w:World}{K:W.Frag}{mg:Str->Option Value}{base:Heap}{cs:Cs}
theorem q7F (T:Txt mg cs)(L:Laid K mg "has_bit" q2G ["bits","place"]):Cal P w K mg base 1 "has_bit" ["bits","place"] q6n:=by
 refine L.cal (k:=0) q7w (fun vs H Q E h=>?_) (fun f cdv A outer s H vs Q E hr h=>?_)
 ·obtain ⟨x,t,rfl,_⟩:=h
  rfl
 ·obtain ⟨x,t,rfl,h0,k⟩:=h
  refine⟨_,(qg (qq (qR q0f (qm q4u (qm q4t (pv 0) (pv 1)) qe) qe (qr _)))),?_⟩
  walk_at "r"
  rw[q2m]
  exact k
theorem qas (T:Txt mg cs)(L:Laid K mg "start" q4S ["cellar"]):Cal P w K mg base 1 "start" ["cellar"] q6i:=by
 obtain⟨t1,vN⟩:=T.vN
 obtain⟨t2,wW⟩:=T.wW
 obtain⟨t3,wQ⟩:=T.wQ
 refine L.cal (k:=0) qa1 (fun vs H Q E h=>?_) (fun f cdv A outer s H vs Q E hr h=>?_)
 ·obtain ⟨p,C,rfl,_⟩:=h
  rfl
 ·obtain ⟨p,C,rfl,hC,k⟩:=h
  obtain⟨pw,pt,pl,pv',h0,_⟩:=hC.ex
  refine⟨_,(qg (qq (qC (qa (qk (qh K) (pv 0) (qt (v:= .int 1) rfl vN ⟨_,rfl⟩) (fun _ _=>rfl)) (qa qe (qa qe (qa (qk (qh K) (pv 0) (qt (v:= .int 7) rfl wW ⟨_,rfl⟩) (fun _ _=>rfl)) (qa (qk (qh K) (pv 0) (qt (v:= .int 8) rfl wQ ⟨_,rfl⟩) (fun _ _=>rfl)) qc)))))))),?_⟩
  walk_at "r"
  intro q hq
  exact k q _ (Same.upd hq) qd
theorem ok_dk (T:Txt mg cs)(L:Laid K mg "door_kinds" q0O ["cellar"]):Cal P w K mg base 1 "door_kinds" ["cellar"] spDk:=by
 obtain⟨t1,wz⟩:=T.wz
 refine L.cal (k:=0) q4M (fun vs H Q E h=>?_) (fun f cdv A outer s H vs Q E hr h=>?_)
 ·obtain ⟨p,C,rfl,_⟩:=h
  rfl
 ·obtain ⟨p,C,rfl,hC,ok,k⟩:=h
  obtain⟨pw,pt,pl,pv',h0,h1,_⟩:=hC.ex
  obtain⟨wv,hw,hwl,hwg⟩:=h1.get
  have big:=qF
  refine⟨_,(qg (qq (q1P (q0G (N:=["a","b","gate","back"]) (own:=4) (caps:=[]) ["cellar"] (qf q0O) (by walk_at "k")) rfl (qcn K (qk (qh K) (pv 0) (qt (v:= .int 3) rfl wz ⟨_,rfl⟩) (fun _ _=>rfl))) (fun _ _ _ _=>(q0y (n:=4) K rfl (qw (qp (i:=0) (show List.Nodup (["a","b","gate","back"]:List Str) by walk_at "k") rfl (Or.inl rfl)) (qw (qp (i:=1) (show List.Nodup (["a","b","gate","back"]:List Str) by walk_at "k") rfl (Or.inl rfl)) (qw (qp (i:=2) (show List.Nodup (["a","b","gate","back"]:List Str) by walk_at "k") rfl (Or.inl rfl)) (qw (qp (i:=3) (show List.Nodup (["a","b","gate","back"]:List Str) by walk_at "k") rfl (Or.inl rfl)) q0x)))))) (fun _ _ _ _=>q1W) (fun _ _ _ _=>(q70 (qv q0f (qk (qh K) (pv 2) qe (fun _ _=>rfl)) qJ (qr _)) (qk (qh K) (pv 2) qe (fun _ _=>rfl)) q3O))))),?_⟩
  walk_at "r"
  intro D hD
  refine qb8 wv (fun i σ H'=>∃v0 v1 v2 v3,σ=[v0,v1,v2,v3]/\Same H H'/\H' D=some (.lst ((C.ways.take i).map fun x=>dkV x.g))) ⟨none,none,none,none,rfl,Same.upd hD,by rw[qd];rfl⟩ ?_ ?_ ?_
  ·rintro i σ H' ⟨_,_,_,_,rfl,s1,_⟩
   exact SqT.of (s1 _ _ hw)
  ·rintro i x σ H' hx ⟨v0,v1,v2,v3,rfl,s1,hD1⟩
   have hi:i<C.ways.length:=by rw[<-hwl];exact(yA hx).1
   obtain⟨p1,e,g,hp1,hg⟩:=hwg i hi
   rw[hx] at e
   cases e
   have hp2:=s1 _ _ hp1
   have hg2:=s1 _ _ hg
   have hl:=ok.wl
   rw[Gt.vs_eq] at hg2
   have fin:∀v,v=dkV C.ways[i].g->∃ys,H' D=some (.lst ys)/\ys.length<sizeLine/\∃v0 v1 v2 v3,([some (.int C.ways[i].a),some (.int C.ways[i].b),some (.ref g),some (.bl C.ways[i].back)]:St)=[v0,v1,v2,v3]/\Same H (upd H' D (.lst (ys++[v])))/\(upd H' D (.lst (ys++[v]))) D=some (.lst ((C.ways.take (i+1)).map fun x=>dkV x.g)):=by
    intro v ev
    subst ev
    refine⟨_,hD1,by simp;omega,_,_,_,_,rfl,s1.put hD,?_⟩
    rw[qd,q83 (fun x:Way=>dkV x.g) C.ways hi]
   walk_at "r"
   refine ifd (fun hd=>?_) (fun hd=>?_)
   ·obtain ⟨k1,ek⟩:=q9s hd
    rw[ek] at hg2
    walk_at "r"
    exact fin _ (by rw[ek];rfl)
   ·walk_at "r"
    refine fin _ ?_
    cases eg:C.ways[i].g with
    |door k1=>rw[eg] at hd;exact absurd rfl hd
    |_=>rfl
  ·rintro σ H' ⟨_,_,_,_,rfl,s1,hD1⟩
   rw[show wv.length=C.ways.length from hwl,zL] at hD1
   exact k D H' s1 hD hD1
theorem qcA (T:Txt mg cs)(L:Laid K mg "held" q6S ["cellar","stand"])(wf:Cal P w K mg base 1 "has_bit" ["bits","place"] q6n)(vn:Cal P w K mg base 1 "door_kinds" ["cellar"] spDk):Cal P w K mg base 2 "held" ["cellar","stand"] q6O:=by
 obtain⟨t1,w9⟩:=T.w9
 obtain⟨t2,wq⟩:=T.wq
 obtain⟨t3,wD⟩:=T.wD
 obtain⟨t4,wB⟩:=T.wB
 refine L.cal (k:=1) q31 (fun vs H Q E h=>?_) (fun f cdv A outer s H vs Q E hr h=>?_)
 ·obtain ⟨p,q,C,_,_,_,_,_,rfl,_⟩:=h
  rfl
 ·obtain ⟨p,q,C,rm,tk,op,b,wt,rfl,hC,ok,hq,hdr,k⟩:=h
  obtain⟨pw,pt,pl,pv',h0,h1,h2,_⟩:=hC.ex
  obtain⟨tv,ht,htl,htg⟩:=h2.get
  have big:=qF
  refine⟨_,(qb (qx (i:=2) q31.nd rfl (Or.inl rfl) (qm op_rep (q0P (qa qe qc)) (qm q03 (qt (v:= .int 11) rfl w9 ⟨_,rfl⟩) qe)))
   (qb (q0u PassesOwn.never rfl (q8B K rfl T.vA (qa (qk (qh K) (pv 0) (qt (v:= .int 4) rfl wB ⟨_,rfl⟩) (fun _ _=>rfl)) qc)) (q0y (n:=2) K rfl (qw (qp (i:=3) q31.nd rfl (Or.inl rfl)) (qw (qp (i:=4) q31.nd rfl (Or.inl rfl)) q0x))) (qg (q02 (q0S (qH wf hr (by decide) rfl (qa (qk (qh K) (pv 1) (qt (v:= .int 1) rfl wD ⟨_,rfl⟩) (fun _ _=>rfl)) (qa (pv 3) qc)))) (qg (q8x (pv 2) (qk (qh K) (pv 4) qe (fun _ _=>rfl)) (q60 K) qe q97 q6Q)) qz)))
   (qb (q0u PassesOwn.never rfl (q8C K rfl T.vA (qa (qH vn hr (by decide) rfl (qa (pv 0) qc)) qc)) (q0y (n:=2) K rfl (qw (qp (i:=3) q31.nd rfl (Or.inl rfl)) (qw (qp (i:=5) q31.nd rfl (Or.inl rfl)) q0x))) (qg (q02 (q0S (qH wf hr (by decide) rfl (qa (qk (qh K) (pv 1) (qt (v:= .int 2) rfl wq ⟨_,rfl⟩) (fun _ _=>rfl)) (qa (pv 3) qc)))) (qg (q8x (pv 2) (pv 5) (q60 K) qe ip_sub q6Q)) qz)))
   (qg (qq (pv 2)))))),?_⟩
  walk_at "r"
  intro p1 hp1
  walk_at "r"
  refine⟨p1,_,_,rfl,rfl,qd,by decide,by decide,by show 1*12<=sizeLine;decide,fun cs hcs=>?_⟩
  have hcs0:H cs=none:=(Same.upd hp1).free hcs
  have s0:Same H (upd (upd H p1 (.lst [.int 0])) cs (.lst (List.replicate (11+1:Int).toNat [V.int 0]).flatten)):=(Same.upd hp1).trans (Same.upd hcs)
  have h0':=s0 _ _ h0
  have ht':=s0 _ _ ht
  walk_at "r"
  refine q9i tv (fun i σ H'=>∃v3 v4 v5,σ=[some (.ref p),some (.ref q),some (.ref cs),v3,v4,v5]/\Same H H'/\H' cs=some (.lst (cl fun k=>(cnt (tP C tk k) i:Int)))) ⟨none,none,none,rfl,s0,by rw[qd];rfl⟩ ?_ ?_ ?_
  ·rintro i σ H' ⟨_,_,_,rfl,s1,_⟩
   exact SqT.of (s1 _ _ ht)
  ·rintro i x σ H' T1 hx ⟨v3,v4,v5,rfl,s1,hc⟩ hT1
   have hi:i<C.things.length:=by rw[<-htl];exact(yA hx).1
   obtain⟨p2,e,hp2⟩:=htg i hi
   rw[hx] at e
   cases e
   have hp3:H' p2=_:=s1 _ _ hp2
   have hq3:=s1 _ _ hq
   obtain⟨_,k0,k1⟩:=ok.t _ (zU hi)
   have sT:Same H (upd H' T1 (.tup [.int (i:Nat),.ref p2])):=s1.trans (Same.upd hT1)
   have hcT:(upd H' T1 (.tup [.int (i:Nat),.ref p2])) cs=some (.lst (cl fun k=>(cnt (tP C tk k) i:Int))):=q1f hc hT1
   walk_at "r"
   refine⟨tk,i,rfl,by omega,?_⟩
   rw[zk]
   walk_at "r"
   refine ite2 (fun hb=>?_) (fun hb=>?_)
   ·walk_at "r"
    refine q6t (SqL.of hcT) (q9J k0 k1) ?_
    walk_at "r"
    refine qbp hcT (cl_ix k0 k1) ?_
    refine⟨_,_,_,rfl,sT.put hcs0,?_⟩
    rw[qd,qbK k0 k1]
    congr 2
    refine q2Y fun k _ _=>?_
    rw[q9D hi,zi hb]
    by_cases ek:k=C.things[i].2
    ·rw [zi ek,zi ek,ek]
    ·rw [zd ek,zd ek];omega
   ·walk_at "r"
    refine⟨_,_,_,rfl,sT,?_⟩
    rw[hcT]
    congr 2
    refine q2Y fun k _ _=>?_
    rw[q9D hi,zd hb];omega
  ·rintro σ H' ⟨v3,v4,v5,rfl,s1,hc⟩
   rw[show tv.length=C.things.length from htl] at hc
   walk_at "r"
   refine⟨p,C,rfl,hC.mono s1.ts,ok,fun dk H2 s2 hdk hdk2=>?_⟩
   have s12:=s1.trans s2
   have hc2:=s2 _ _ hc
   walk_at "r"
   refine q9i (C.ways.map fun x=>dkV x.g) (fun i σ H'=>∃v3 v4 v5,σ=[some (.ref p),some (.ref q),some (.ref cs),v3,v4,v5]/\Same H H'/\H' dk=some (.lst (C.ways.map fun x=>dkV x.g))/\H' cs=some (.lst (cl fun k=>(cnt (tP C tk k) C.things.length:Int) - (cnt (dP (dsOf C) op k) i:Int)))) ⟨v3,v4,v5,rfl,s12,hdk2,?_⟩ ?_ ?_ ?_
   ·rw [hc2]
    refine zag (fun l=>some (HO.lst l)) (q2Y fun k _ _=>?_)
    show _=_ - ((0:Nat):Int)
    omega
   ·rintro i σ H' ⟨_,_,_,rfl,s3,h3,_⟩
    exact SqL.of h3
   ·rintro i x σ H' T1 hx ⟨v3,v4,v5,rfl,s3,hd3,hc3⟩ hT1
    have hi:i<C.ways.length:=by have:=(yA hx).1;simpa using this
    have ex:x=dkV C.ways[i].g:=by simpa[hi] using hx.symm
    subst ex
    have hq3:=s3 _ _ hq
    have hne:dk≠cs:=fun z=>by rw[z] at hdk;rw[hdk] at hc;cases hc
    have sT:Same H (upd H' T1 (.tup [.int (i:Nat),dkV C.ways[i].g])):=s3.trans (Same.upd hT1)
    have hcT:(upd H' T1 (.tup [.int (i:Nat),dkV C.ways[i].g])) cs=_:=q1f hc3 hT1
    have hdT:(upd H' T1 (.tup [.int (i:Nat),dkV C.ways[i].g])) dk=_:=q1f hd3 hT1
    walk_at "r"
    refine⟨op,i,rfl,by omega,?_⟩
    rw[zk]
    walk_at "r"
    refine ite2 (fun hb=>?_) (fun hb=>?_)
    ·have hsome:=hdr i hi hb
     have eds:dsOf C i=C.ways[i].g.dk:=by simp[dsOf,hi]
     rw[eds] at hsome
     obtain⟨k2,ek2⟩:=Option.isSome_iff_exists.mp hsome
     have hgok:=(ok.w _ (zU hi)).2.2.2
     have hk2:0<=k2/\k2<12:=by
      cases eg:C.ways[i].g with
      |door j=>rw[eg] at ek2 hgok;cases ek2;exact hgok
      |_=>rw[eg] at ek2;cases ek2
     have ev:dkV C.ways[i].g= .int k2:=by unfold dkV;rw[ek2]
     rw[ev] at hcT hdT sT ⊢
     walk_at "r"
     refine q6t (SqL.of hcT) (q9J hk2.1 hk2.2) ?_
     walk_at "r"
     refine qbp hcT (cl_ix hk2.1 hk2.2) ?_
     refine⟨_,_,_,rfl,sT.put hcs0,up_oth hdT hne,?_⟩
     rw[qd,qbK hk2.1 hk2.2]
     congr 2
     refine q2Y fun k _ _=>?_
     rw[q9F hi,zi hb,ek2]
     by_cases ek:k=k2
     ·rw [zi ek,zi (by rw[ek]),ek];omega
     ·rw [zd ek,zd (by intro z;exact ek (zH z).symm)];omega
    ·walk_at "r"
     refine⟨_,_,_,rfl,sT,hdT,?_⟩
     rw[hcT]
     congr 2
     refine q2Y fun k _ _=>?_
     rw[q9F hi,zd hb];omega
   ·rintro σ H' ⟨v3,v4,v5,rfl,s3,hd3,hc3⟩
    walk_at "r"
    rw[yC] at hc3
    exact k cs H' s3 hcs0 hc3
def q9H (cs:Cs):Gt->Addr
 | .plain=>cs.Plain
 | .door _=>cs.Door
 | .need _=>cs.Need
 | .bar _=>cs.Bar
 | .wade _ _=>cs.Wade
 | .float _=>cs.Float
def fldB (q:Addr)(g:Gt):List (Str×V):=putF "numbers" (.ref q) (putF "word" (.str g.word) [])
def flds (q:Addr):Gt->List (Str×V)
 | .need k=>putF "kind" (.int k) (fldB q (.need k))
 | .bar b=>putF "bar" (.int b) (fldB q (.bar b))
 | .wade h k=>putF "kind" (.int k) (putF "height" (.int h) (fldB q (.wade h k)))
 | .float h=>putF "height" (.int h) (fldB q (.float h))
 |g=>fldB q g
theorem qcZ (q:Addr)(g:Gt):(flds q g).lookup ("lets":Str)=none:=by
 cases g<;>(unfold flds;first|unfold fldB|skip)<;>simp only[fldB,qO]<;>repeat (first|rfl|rw[zd (by walk_at "k")])
theorem qb3 (q:Addr)(k:Int):(flds q (.need k)).lookup ("kind":Str)=some (.int k):=by
 unfold flds;rw[qO,if_pos rfl]
theorem qd0 (q:Addr)(k:Int):(flds q (.bar k)).lookup ("bar":Str)=some (.int k):=by
 unfold flds;rw[qO,if_pos rfl]
theorem qb1 (q:Addr)(h k:Int):(flds q (.wade h k)).lookup ("kind":Str)=some (.int k):=by
 unfold flds;rw[qO,if_pos rfl]
theorem qb2 (q:Addr)(h k:Int):(flds q (.wade h k)).lookup ("height":Str)=some (.int h):=by
 unfold flds;rw[qO,if_neg (by walk_at "k"),qO,if_pos rfl]
theorem q9k (q:Addr)(h:Int):(flds q (.float h)).lookup ("height":Str)=some (.int h):=by
 unfold flds;rw[qO,if_pos rfl]
structure GObj (cs:Cs)(H:Hp)(p:Addr)(g:Gt):Prop where
 ex:∃dx q,H p=some (.ins (q9H cs g) dx (flds q g))/\H q=some (.tup (g.ns.map V.int))
theorem GObj.mono {cs:Cs}{H H':Hp}{p:Addr}{g:Gt}(s:Same H H')(h:GObj cs H p g):GObj cs H' p g:=let ⟨dx,q,h1,h2⟩:=h.ex;⟨dx,q,s _ _ h1,s _ _ h2⟩
def q20 (K:W.Frag):Sp:=fun vs H Q _=>∃(p C dx q:Addr) (z:Str),vs=[.ref p,.str z,.ref q]/\H p=some (.ins C dx [])/\Cls K C/\qE K C "word"/\qE K C "numbers"/\Q .non (upd H p (.ins C dx (putF "numbers" (.ref q) (putF "word" (.str z) []))))
def spMk (cs:Cs)(wd:Str):Sp:=fun vs H Q _=>∃(p dx:Addr) (g:Gt),vs= .ref p::g.ns.map V.int/\g.word=wd/\H p=some (.ins (q9H cs g) dx [])/\∀H',(∀b o,H b=some o->b≠p->H' b=some o)->GObj cs H' p g->Q .non H'
def qc4 (cs:Cs):Sp:=fun vs H Q _=>∃(p:Addr) (g:Gt),vs=[.ref p]/\H p=some (.tup g.vs)/\∀(x:Addr) (H':Hp),Same H H'->H x=none->GObj cs H' x g->Q (.ref x) H'
def q3b (cs:Cs)(wd:Str):Sp:=fun vs H Q _=>∃(p hl:Addr) (g:Gt) (f:Int->Int) (op:Bool) (bars wt:Int),vs=[.ref p,.ref hl,.bl op,.int bars,.int wt]/\g.word=wd/\GObj cs H p g/\g.ok/\H hl=some (.lst (cl f))/\Q (.bl (q3W g f op bars wt)) H
theorem qaA (T:Txt mg cs)(L:LaidC K mg "Gate" "__init__" "Gate.__init__" q1L ["self","word","numbers"]):CCal P w K mg base 1 "Gate" "__init__" ["self","word","numbers"] (q20 K):=by
 refine L.cc (k:=0) q5L (fun vs H Q E h=>?_) (fun f cdv A outer s H vs Q E hr h=>?_)
 ·obtain ⟨p,C,dx,q,z,rfl,_⟩:=h
  rfl
 ·obtain ⟨p,C,dx,q,z,rfl,hp,cl,nw,nn,k⟩:=h
  refine⟨_,(qb (q1h K (pv 0) (pv 1) rfl)
   (qg (q1h K (pv 0) (pv 2) rfl))),?_⟩
  walk_at "r"
  refine q2p hp cl nw (by decide) ?_
  walk_at "r"
  refine q2p qd cl nn (by show 1<1000;decide) ?_
  rw[q1Y]
  exact k
theorem qaK (T:Txt mg cs)(TC:Tcl K cs)(L:LaidI K mg "Plain" cs.Plain "Plain.__init__" q1b ["self"])(wb:CCal P w K mg base 1 "Gate" "__init__" ["self","word","numbers"] (q20 K)):Makes P w K mg base 2 "Plain" cs.Plain ["self"] (spMk cs "plain"):=by
 refine L.makes (k:=1) q4P (fun vs H Q E h=>?_) (fun f cdv A outer s H vs Q E hr h=>?_)
 ·obtain ⟨p,dx,g,rfl,hw,_⟩:=h
  cases g<;>first|rfl|exact absurd hw (by simp only[Gt.word];walk_at "k")
 ·obtain ⟨p,dx,g,rfl,hw,hp,k⟩:=h
  cases g<;>first|exact absurd hw (by simp only[Gt.word];walk_at "k")|skip
  refine⟨_,(qg (qN (q3Q wb hr (by decide) rfl (qa (pv 0) (qa qJ (qa (qC qc) qc)))))),?_⟩
  walk_at "r"
  intro t ht
  refine⟨p,cs.Plain,dx,t,_,rfl,q1f hp ht,TC.cl_Plain,TC.no_Plain_word,TC.no_Plain_numbers,?_⟩
  walk_at "r"
  have hpt:p≠t:=qu hp ht
  refine k _ (fun b o hb hbp=>?_) ⟨dx,t,qd,by rw[qj hpt.symm];exact qd⟩
  rw[qj hbp,qj (qu hb ht)]
  exact hb
theorem qcL (T:Txt mg cs)(TC:Tcl K cs)(L:LaidI K mg "Door" cs.Door "Door.__init__" q1N ["self","kind"])(wb:CCal P w K mg base 1 "Gate" "__init__" ["self","word","numbers"] (q20 K)):Makes P w K mg base 2 "Door" cs.Door ["self","kind"] (spMk cs "door"):=by
 refine L.makes (k:=1) q5N (fun vs H Q E h=>?_) (fun f cdv A outer s H vs Q E hr h=>?_)
 ·obtain ⟨p,dx,g,rfl,hw,_⟩:=h
  cases g<;>first|rfl|exact absurd hw (by simp only[Gt.word];walk_at "k")
 ·obtain ⟨p,dx,g,rfl,hw,hp,k⟩:=h
  cases g<;>first|exact absurd hw (by simp only[Gt.word];walk_at "k")|skip
  rename_i n
  refine⟨_,(qg (qN (q3Q wb hr (by decide) rfl (qa (pv 0) (qa qJ (qa (qC (qa (pv 1) qc)) qc)))))),?_⟩
  walk_at "r"
  intro t ht
  refine⟨p,cs.Door,dx,t,_,rfl,q1f hp ht,TC.cl_Door,TC.no_Door_word,TC.no_Door_numbers,?_⟩
  walk_at "r"
  have hpt:p≠t:=qu hp ht
  refine k _ (fun b o hb hbp=>?_) ⟨dx,t,qd,by rw[qj hpt.symm];exact qd⟩
  rw[qj hbp,qj (qu hb ht)]
  exact hb
theorem qcK (T:Txt mg cs)(TC:Tcl K cs)(L:LaidI K mg "Need" cs.Need "Need.__init__" q1K ["self","kind"])(wb:CCal P w K mg base 1 "Gate" "__init__" ["self","word","numbers"] (q20 K)):Makes P w K mg base 2 "Need" cs.Need ["self","kind"] (spMk cs "need"):=by
 refine L.makes (k:=1) q5K (fun vs H Q E h=>?_) (fun f cdv A outer s H vs Q E hr h=>?_)
 ·obtain ⟨p,dx,g,rfl,hw,_⟩:=h
  cases g<;>first|rfl|exact absurd hw (by simp only[Gt.word];walk_at "k")
 ·obtain ⟨p,dx,g,rfl,hw,hp,k⟩:=h
  cases g<;>first|exact absurd hw (by simp only[Gt.word];walk_at "k")|skip
  rename_i n
  refine⟨_,(qb (qN (q3Q wb hr (by decide) rfl (qa (pv 0) (qa qJ (qa (qC (qa (pv 1) qc)) qc)))))
   (qg (q1h K (pv 0) (pv 1) rfl))),?_⟩
  walk_at "r"
  intro t ht
  refine⟨p,cs.Need,dx,t,_,rfl,q1f hp ht,TC.cl_Need,TC.no_Need_word,TC.no_Need_numbers,?_⟩
  walk_at "r"
  refine q2p qd TC.cl_Need TC.no_Need_kind (by show 2<1000;decide) ?_
  rw[q1Y]
  have hpt:p≠t:=qu hp ht
  refine k _ (fun b o hb hbp=>?_) ⟨dx,t,qd,by rw[qj hpt.symm];exact qd⟩
  rw[qj hbp,qj (qu hb ht)]
  exact hb
theorem mk_bar (T:Txt mg cs)(TC:Tcl K cs)(L:LaidI K mg "Bar" cs.Bar "Bar.__init__" q2g ["self","bar"])(wb:CCal P w K mg base 1 "Gate" "__init__" ["self","word","numbers"] (q20 K)):Makes P w K mg base 2 "Bar" cs.Bar ["self","bar"] (spMk cs "bar"):=by
 refine L.makes (k:=1) q6r (fun vs H Q E h=>?_) (fun f cdv A outer s H vs Q E hr h=>?_)
 ·obtain ⟨p,dx,g,rfl,hw,_⟩:=h
  cases g<;>first|rfl|exact absurd hw (by simp only[Gt.word];walk_at "k")
 ·obtain ⟨p,dx,g,rfl,hw,hp,k⟩:=h
  cases g<;>first|exact absurd hw (by simp only[Gt.word];walk_at "k")|skip
  rename_i n
  refine⟨_,(qb (qN (q3Q wb hr (by decide) rfl (qa (pv 0) (qa qJ (qa (qC (qa (pv 1) qc)) qc)))))
   (qg (q1h K (pv 0) (pv 1) rfl))),?_⟩
  walk_at "r"
  intro t ht
  refine⟨p,cs.Bar,dx,t,_,rfl,q1f hp ht,TC.cl_Bar,TC.no_Bar_word,TC.no_Bar_numbers,?_⟩
  walk_at "r"
  refine q2p qd TC.cl_Bar TC.no_Bar_bar (by show 2<1000;decide) ?_
  rw[q1Y]
  have hpt:p≠t:=qu hp ht
  refine k _ (fun b o hb hbp=>?_) ⟨dx,t,qd,by rw[qj hpt.symm];exact qd⟩
  rw[qj hbp,qj (qu hb ht)]
  exact hb
theorem qaL (T:Txt mg cs)(TC:Tcl K cs)(L:LaidI K mg "Float" cs.Float "Float.__init__" q1d ["self","height"])(wb:CCal P w K mg base 1 "Gate" "__init__" ["self","word","numbers"] (q20 K)):Makes P w K mg base 2 "Float" cs.Float ["self","height"] (spMk cs "float"):=by
 refine L.makes (k:=1) q4R (fun vs H Q E h=>?_) (fun f cdv A outer s H vs Q E hr h=>?_)
 ·obtain ⟨p,dx,g,rfl,hw,_⟩:=h
  cases g<;>first|rfl|exact absurd hw (by simp only[Gt.word];walk_at "k")
 ·obtain ⟨p,dx,g,rfl,hw,hp,k⟩:=h
  cases g<;>first|exact absurd hw (by simp only[Gt.word];walk_at "k")|skip
  rename_i n
  refine⟨_,(qb (qN (q3Q wb hr (by decide) rfl (qa (pv 0) (qa qJ (qa (qC (qa (pv 1) qc)) qc)))))
   (qg (q1h K (pv 0) (pv 1) rfl))),?_⟩
  walk_at "r"
  intro t ht
  refine⟨p,cs.Float,dx,t,_,rfl,q1f hp ht,TC.cl_Float,TC.no_Float_word,TC.no_Float_numbers,?_⟩
  walk_at "r"
  refine q2p qd TC.cl_Float TC.no_Float_height (by show 2<1000;decide) ?_
  rw[q1Y]
  have hpt:p≠t:=qu hp ht
  refine k _ (fun b o hb hbp=>?_) ⟨dx,t,qd,by rw[qj hpt.symm];exact qd⟩
  rw[qj hbp,qj (qu hb ht)]
  exact hb
theorem qcG (T:Txt mg cs)(TC:Tcl K cs)(L:LaidI K mg "Wade" cs.Wade "Wade.__init__" q1z ["self","height","kind"])(wb:CCal P w K mg base 1 "Gate" "__init__" ["self","word","numbers"] (q20 K)):Makes P w K mg base 2 "Wade" cs.Wade ["self","height","kind"] (spMk cs "wade"):=by
 refine L.makes (k:=1) q5A (fun vs H Q E h=>?_) (fun f cdv A outer s H vs Q E hr h=>?_)
 ·obtain ⟨p,dx,g,rfl,hw,_⟩:=h
  cases g<;>first|rfl|exact absurd hw (by simp only[Gt.word];walk_at "k")
 ·obtain ⟨p,dx,g,rfl,hw,hp,k⟩:=h
  cases g<;>first|exact absurd hw (by simp only[Gt.word];walk_at "k")|skip
  rename_i n1 n2
  refine⟨_,(qb (qN (q3Q wb hr (by decide) rfl (qa (pv 0) (qa qJ (qa (qC (qa (pv 1) (qa (pv 2) qc))) qc)))))
   (qb (q1h K (pv 0) (pv 1) rfl)
   (qg (q1h K (pv 0) (pv 2) rfl)))),?_⟩
  walk_at "r"
  intro t ht
  refine⟨p,cs.Wade,dx,t,_,rfl,q1f hp ht,TC.cl_Wade,TC.no_Wade_word,TC.no_Wade_numbers,?_⟩
  walk_at "r"
  refine q2p qd TC.cl_Wade TC.no_Wade_height (by show 2<1000;decide) ?_
  walk_at "r"
  refine q2p qd TC.cl_Wade TC.no_Wade_kind (by show 3<1000;decide) ?_
  rw[q1Y,q1Y]
  have hpt:p≠t:=qu hp ht
  refine k _ (fun b o hb hbp=>?_) ⟨dx,t,qd,by rw[qj hpt.symm];exact qd⟩
  rw[qj hbp,qj (qu hb ht)]
  exact hb
theorem q2h {H:Hp}{Q:VK}{g:Gt}{x dx:Addr}(hx:H x=none)(hdx:H dx=none)(ne:dx≠x)(k:∀(x:Addr) (H':Hp),Same H H'->H x=none->GObj cs H' x g->Q (.ref x) H'):spMk cs g.word (.ref x::(g.ns.map V.int++[])) (upd (upd H dx (.own x)) x (.ins (q9H cs g) dx [])) (fun v H2=>v= .non/\Q (.ref x) H2) E0:=by
 refine⟨x,dx,g,by rw[zM],rfl,qd,fun H' hk ho=>⟨rfl,k x H' (fun b o hb=>?_) hx ho⟩⟩
 refine hk b o ?_ (qu hb hx)
 rw[qj (qu hb hx),qj (qu hb hdx)]
 exact hb
theorem q7G (T:Txt mg cs)(L:Laid K mg "gate_of" q2H ["gate"])(wJ:Makes P w K mg base 2 "Plain" cs.Plain ["self"] (spMk cs "plain"))(wO:Makes P w K mg base 2 "Door" cs.Door ["self","kind"] (spMk cs "door"))(wP:Makes P w K mg base 2 "Need" cs.Need ["self","kind"] (spMk cs "need"))
  (w8:Makes P w K mg base 2 "Bar" cs.Bar ["self","bar"] (spMk cs "bar"))(wN:Makes P w K mg base 2 "Wade" cs.Wade ["self","height","kind"] (spMk cs "wade"))(wK:Makes P w K mg base 2 "Float" cs.Float ["self","height"] (spMk cs "float")):Cal P w K mg base 4 "gate_of" ["gate"] (qc4 cs):=by
 refine L.cal (k:=3) q4q (fun vs H Q E h=>?_) (fun f cdv A outer s H vs Q E hr h=>?_)
 ·obtain ⟨p,g,rfl,_⟩:=h
  rfl
 ·obtain ⟨p,g,rfl,hp,k⟩:=h
  refine⟨_,(qb (qx (i:=1) q4q.nd rfl (Or.inl rfl) (qk (qh K) (pv 0) qe (fun _ _=>rfl)))
   (qb (q02 (qv q0f (pv 1) qJ (qr _)) (qg (qq (qcr wJ hr (by decide) rfl))) qz)
   (qb (q02 (qv q0f (pv 1) qJ (qr _)) (qg (qq (q2s wO hr (by decide) rfl (qa (qk (qh K) (pv 0) qe (fun _ _=>rfl)) qc)))) qz)
   (qb (q02 (qv q0f (pv 1) qJ (qr _)) (qg (qq (q2s wP hr (by decide) rfl (qa (qk (qh K) (pv 0) qe (fun _ _=>rfl)) qc)))) qz)
   (qb (q02 (qv q0f (pv 1) qJ (qr _)) (qg (qq (q2s w8 hr (by decide) rfl (qa (qk (qh K) (pv 0) qe (fun _ _=>rfl)) qc)))) qz)
   (qb (q02 (qv q0f (pv 1) qJ (qr _)) (qg (qq (q2s wN hr (by decide) rfl (qa (qk (qh K) (pv 0) qe (fun _ _=>rfl)) (qa (qk (qh K) (pv 0) qe (fun _ _=>rfl)) qc))))) qz)
   (qb (q02 (qv q0f (pv 1) qJ (qr _)) (qg (qq (q2s wK hr (by decide) rfl (qa (qk (qh K) (pv 0) qe (fun _ _=>rfl)) qc)))) qz)
   (qg qae)))))))),?_⟩
  have hp':=hp
  rw[Gt.vs_eq] at hp'
  walk_at "r"
  refine ifd (fun h1=>?_) (fun h1=>?_)
  ·cases g<;>first|exact absurd h1 (by simp only[Gt.word];walk_at "k")|skip
   walk_at "r"
   exact fun x dx hx hdx ne=>q2h hx hdx ne k
  walk_at "r"
  refine ifd (fun h2=>?_) (fun h2=>?_)
  ·cases g<;>first|exact absurd h2 (by simp only[Gt.word];walk_at "k")|skip
   walk_at "r"
   exact fun x dx hx hdx ne=>q2h hx hdx ne k
  walk_at "r"
  refine ifd (fun h3=>?_) (fun h3=>?_)
  ·cases g<;>first|exact absurd h3 (by simp only[Gt.word];walk_at "k")|skip
   walk_at "r"
   exact fun x dx hx hdx ne=>q2h hx hdx ne k
  walk_at "r"
  refine ifd (fun h4=>?_) (fun h4=>?_)
  ·cases g<;>first|exact absurd h4 (by simp only[Gt.word];walk_at "k")|skip
   walk_at "r"
   exact fun x dx hx hdx ne=>q2h hx hdx ne k
  walk_at "r"
  refine ifd (fun h5=>?_) (fun h5=>?_)
  ·cases g<;>first|exact absurd h5 (by simp only[Gt.word];walk_at "k")|skip
   walk_at "r"
   exact fun x dx hx hdx ne=>q2h hx hdx ne k
  walk_at "r"
  refine ifd (fun h6=>?_) (fun h6=>?_)
  ·cases g<;>first|exact absurd h6 (by simp only[Gt.word];walk_at "k")|skip
   walk_at "r"
   exact fun x dx hx hdx ne=>q2h hx hdx ne k
  cases g
  ·exact absurd rfl h1
  ·exact absurd rfl h2
  ·exact absurd rfl h3
  ·exact absurd rfl h4
  ·exact absurd rfl h5
  ·exact absurd rfl h6
theorem q4A (T:Txt mg cs)(TC:Tcl K cs)(L:LaidM K cs.Plain "lets" "Plain.lets" q1a ["self","held","opened","bars","water"]):VMeth P w K mg base 2 cs.Plain "lets" ["self","held","opened","bars","water"] (q3b cs "plain"):=by
 refine L.vm (k:=1) TC.cl_Plain q4O (fun vs H Q E h=>?_) (fun f cdv A outer s H vs Q E hr h=>?_)
 ·obtain ⟨p,hl,g,fn,op,bars,wt,rfl,_⟩:=h
  rfl
 ·obtain ⟨p,hl,g,fn,op,bars,wt,rfl,hw,ho,ok,hh,k⟩:=h
  obtain⟨dx,q,hp,hq⟩:=ho.ex
  cases g<;>first|exact absurd hw (by simp only[Gt.word];walk_at "k")|skip
  refine⟨_,(qg (qq q2C)),?_⟩
  walk_at "r"
  exact k
theorem q5h (T:Txt mg cs)(TC:Tcl K cs)(L:LaidM K cs.Door "lets" "Door.lets" q1M ["self","held","opened","bars","water"]):VMeth P w K mg base 2 cs.Door "lets" ["self","held","opened","bars","water"] (q3b cs "door"):=by
 refine L.vm (k:=1) TC.cl_Door q5M (fun vs H Q E h=>?_) (fun f cdv A outer s H vs Q E hr h=>?_)
 ·obtain ⟨p,hl,g,fn,op,bars,wt,rfl,_⟩:=h
  rfl
 ·obtain ⟨p,hl,g,fn,op,bars,wt,rfl,hw,ho,ok,hh,k⟩:=h
  obtain⟨dx,q,hp,hq⟩:=ho.ex
  cases g<;>first|exact absurd hw (by simp only[Gt.word];walk_at "k")|skip
  rename_i n
  refine⟨_,(qg (qq (pv 2))),?_⟩
  walk_at "r"
  exact k
theorem q5g (T:Txt mg cs)(TC:Tcl K cs)(L:LaidM K cs.Need "lets" "Need.lets" q1J ["self","held","opened","bars","water"]):VMeth P w K mg base 2 cs.Need "lets" ["self","held","opened","bars","water"] (q3b cs "need"):=by
 refine L.vm (k:=1) TC.cl_Need q5J (fun vs H Q E h=>?_) (fun f cdv A outer s H vs Q E hr h=>?_)
 ·obtain ⟨p,hl,g,fn,op,bars,wt,rfl,_⟩:=h
  rfl
 ·obtain ⟨p,hl,g,fn,op,bars,wt,rfl,hw,ho,ok,hh,k⟩:=h
  obtain⟨dx,q,hp,hq⟩:=ho.ex
  cases g<;>first|exact absurd hw (by simp only[Gt.word];walk_at "k")|skip
  rename_i n
  refine⟨_,(qg (qq (qR q3m (qk (qL K) (pv 1) (q0z K (pv 0) rfl) (fun _ _=>rfl)) qe (qr _)))),?_⟩
  have ok':0<=n/\n<12:=ok
  walk_at "r"
  refine q1m hp TC.cl_Need TC.no_Need_kind (qb3 q n) ?_
  refine q6t (SqL.of hh) (q9J ok'.1 ok'.2) ?_
  walk_at "r"
  exact k
theorem q6g (T:Txt mg cs)(TC:Tcl K cs)(L:LaidM K cs.Bar "lets" "Bar.lets" q2f ["self","held","opened","bars","water"])(wf:Cal P w K mg base 1 "has_bit" ["bits","place"] q6n):VMeth P w K mg base 2 cs.Bar "lets" ["self","held","opened","bars","water"] (q3b cs "bar"):=by
 refine L.vm (k:=1) TC.cl_Bar q6q (fun vs H Q E h=>?_) (fun f cdv A outer s H vs Q E hr h=>?_)
 ·obtain ⟨p,hl,g,fn,op,bars,wt,rfl,_⟩:=h
  rfl
 ·obtain ⟨p,hl,g,fn,op,bars,wt,rfl,hw,ho,ok,hh,k⟩:=h
  obtain⟨dx,q,hp,hq⟩:=ho.ex
  cases g<;>first|exact absurd hw (by simp only[Gt.word];walk_at "k")|skip
  rename_i n
  refine⟨_,(qg (qq (qH wf hr (by decide) rfl (qa (pv 3) (qa (q0z K (pv 0) rfl) qc))))),?_⟩
  have ok':0<=n/\n<8:=ok
  walk_at "r"
  refine q1m hp TC.cl_Bar TC.no_Bar_bar (qd0 q n) ?_
  walk_at "r"
  exact⟨bars,n,rfl,ok'.1,k⟩
theorem q5f (T:Txt mg cs)(TC:Tcl K cs)(L:LaidM K cs.Wade "lets" "Wade.lets" q1y ["self","held","opened","bars","water"]):VMeth P w K mg base 2 cs.Wade "lets" ["self","held","opened","bars","water"] (q3b cs "wade"):=by
 refine L.vm (k:=1) TC.cl_Wade q5z (fun vs H Q E h=>?_) (fun f cdv A outer s H vs Q E hr h=>?_)
 ·obtain ⟨p,hl,g,fn,op,bars,wt,rfl,_⟩:=h
  rfl
 ·obtain ⟨p,hl,g,fn,op,bars,wt,rfl,hw,ho,ok,hh,k⟩:=h
  obtain⟨dx,q,hp,hq⟩:=ho.ex
  cases g<;>first|exact absurd hw (by simp only[Gt.word];walk_at "k")|skip
  rename_i n1 n2
  refine⟨_,(qg (qq (qak (qR qap (pv 4) (q0z K (pv 0) rfl) (qr _)) (q2r (qR q3m (qk (qL K) (pv 1) (q0z K (pv 0) rfl) (fun _ _=>rfl)) qe (qr _)))))),?_⟩
  have ok':(0<=n1/\n1<10)/\0<=n2/\n2<12:=ok
  walk_at "r"
  refine q1m hp TC.cl_Wade TC.no_Wade_height (qb2 q n1 n2) ?_
  walk_at "r"
  have k':Q (.bl (decide (wt<=n1)||decide (0<fn n2))) H:=k
  refine ifd (fun h1=>?_) (fun h1=>?_)
  ·rw [zu h1,Bool.true_or] at k'
   exact k'
  ·rw [zn h1,zcy] at k'
   walk_at "r"
   refine q1m hp TC.cl_Wade TC.no_Wade_kind (qb1 q n1 n2) ?_
   refine q6t (SqL.of hh) (q9J ok'.2.1 ok'.2.2) ?_
   walk_at "r"
   exact k'
theorem q4B (T:Txt mg cs)(TC:Tcl K cs)(L:LaidM K cs.Float "lets" "Float.lets" q1c ["self","held","opened","bars","water"]):VMeth P w K mg base 2 cs.Float "lets" ["self","held","opened","bars","water"] (q3b cs "float"):=by
 refine L.vm (k:=1) TC.cl_Float q4Q (fun vs H Q E h=>?_) (fun f cdv A outer s H vs Q E hr h=>?_)
 ·obtain ⟨p,hl,g,fn,op,bars,wt,rfl,_⟩:=h
  rfl
 ·obtain ⟨p,hl,g,fn,op,bars,wt,rfl,hw,ho,ok,hh,k⟩:=h
  obtain⟨dx,q,hp,hq⟩:=ho.ex
  cases g<;>first|exact absurd hw (by simp only[Gt.word];walk_at "k")|skip
  rename_i n
  refine⟨_,(qg (qq (qR qcu (pv 4) (q0z K (pv 0) rfl) (qr _)))),?_⟩
  walk_at "r"
  refine q1m hp TC.cl_Float TC.no_Float_height (q9k q n) ?_
  walk_at "r"
  exact k
def dcls (cs:Cs):Wd->Addr
 | .go=>cs.Go
 | .pull=>cs.Pull
 | .take=>cs.Take
 | .turn=>cs.Turn
 | .unlock=>cs.Unlock
def dfl (d:Wd)(n:Int):List (Str×V):=putF "part" (.int d.part) (putF "number" (.int n) (putF "word" (.str d.str) []))
theorem qd7 (d:Wd)(n:Int):(dfl d n).lookup ("word":Str)=some (.str d.str):=by
 unfold dfl;simp only[qO];repeat (first|rw[if_pos rfl]|rw[if_pos trivial]|rw[if_neg (by walk_at "k")])
theorem q0k (d:Wd)(n:Int):(dfl d n).lookup ("number":Str)=some (.int n):=by
 unfold dfl;simp only[qO];repeat (first|rw[if_pos rfl]|rw[if_pos trivial]|rw[if_neg (by walk_at "k")])
theorem q9t (d:Wd)(n:Int):(dfl d n).lookup ("part":Str)=some (.int d.part):=by
 unfold dfl;simp only[qO];repeat (first|rw[if_pos rfl]|rw[if_pos trivial]|rw[if_neg (by walk_at "k")])
theorem q46 (d:Wd)(n:Int){m:Str}(h1:m≠"part")(h2:m≠"number")(h3:m≠"word"):(dfl d n).lookup m=none:=by
 unfold dfl;simp only[qO];rw[if_neg h1,if_neg h2,if_neg h3];rfl
theorem df_can (d:Wd)(n:Int):(dfl d n).lookup ("can":Str)=none:=q46 d n (by walk_at "k") (by walk_at "k") (by walk_at "k")
theorem qd9 (d:Wd)(n:Int):(dfl d n).lookup ("fits":Str)=none:=q46 d n (by walk_at "k") (by walk_at "k") (by walk_at "k")
theorem qda (d:Wd)(n:Int):(dfl d n).lookup ("done":Str)=none:=q46 d n (by walk_at "k") (by walk_at "k") (by walk_at "k")
theorem qd8 (d:Wd)(n:Int):(dfl d n).lookup ("told":Str)=none:=q46 d n (by walk_at "k") (by walk_at "k") (by walk_at "k")
theorem q3h (d:Wd)(n:Int):(dfl d n).lookup ("own_part":Str)=none:=q46 d n (by walk_at "k") (by walk_at "k") (by walk_at "k")
structure DObj (cs:Cs)(H:Hp)(p:Addr)(d:Wd)(n:Int):Prop where
 ex:∃dx,H p=some (.ins (dcls cs d) dx (dfl d n))
theorem DObj.mono {cs:Cs}{H H':Hp}{p:Addr}{d:Wd}{n:Int}(s:Same H H')(h:DObj cs H p d n):DObj cs H' p d n:=let ⟨dx,h1⟩:=h.ex;⟨dx,s _ _ h1⟩
structure DCl (K:W.Frag)(cs:Cs)(d:Wd):Prop where
 cl:Cls K (dcls cs d)
 nw:qE K (dcls cs d) "word"
 nn:qE K (dcls cs d) "number"
 np:qE K (dcls cs d) "part"
theorem q2w {K:W.Frag}{cs:Cs}(TC:Tcl K cs)(d:Wd):DCl K cs d:=by
 cases d
 ·exact ⟨TC.cl_Go,TC.no_Go_word,TC.no_Go_number,TC.no_Go_part⟩
 ·exact ⟨TC.cl_Pull,TC.no_Pull_word,TC.no_Pull_number,TC.no_Pull_part⟩
 ·exact ⟨TC.cl_Take,TC.no_Take_word,TC.no_Take_number,TC.no_Take_part⟩
 ·exact ⟨TC.cl_Turn,TC.no_Turn_word,TC.no_Turn_number,TC.no_Turn_part⟩
 ·exact ⟨TC.cl_Unlock,TC.no_Unlock_word,TC.no_Unlock_number,TC.no_Unlock_part⟩
def RowAt (H:Hp)(C:Cl)(i:Nat)(r:Addr):Wd->Prop
 | .go=>∃x,C.ways[i]? =some x/\q12 H r x
 | .pull=>∃x,C.levers[i]? =some x/\qP H r x
 | .take=>∃x,C.things[i]? =some x/\qP H r x
 | .turn=>∃x,C.wheels[i]? =some x/\qP H r x
 | .unlock=>∃x,C.ways[i]? =some x/\q12 H r x
def q4G:Sp:=fun vs H Q _=>∃n a b:Int,vs=[.int n,.int a,.int b]/\Q (.bl (decide (a<=n)&&decide (n<=b))) H
def q4I:Sp:=fun vs H Q _=>∃(r:Addr) (x:Way) (rm:Int),vs=[.ref r,.int rm]/\q12 H r x/\Q (.bl (q0R x rm)) H
def q6l:Sp:=fun vs H Q _=>∃(q:Addr) (s:Sd) (j:Nat) (n:Int),vs=[.ref q,.int j,.int n]/\j<5/\H q=some (.tup s.vs)/\∀(r:Addr) (H':Hp),Same H H'->H' r=some (.tup (s.vs.set j (.int n)))->Q (.ref r) H'
def q2y (K:W.Frag):Sp:=fun vs H Q _=>∃(p C dx:Addr) (z:Str) (n t:Int),vs=[.ref p,.str z,.int n,.int t]/\H p=some (.ins C dx [])/\Cls K C/\qE K C "word"/\qE K C "number"/\qE K C "part"/\Q .non (upd H p (.ins C dx (putF "part" (.int t) (putF "number" (.int n) (putF "word" (.str z) [])))))
def q1Z (cs:Cs)(d:Wd):Sp:=fun vs H Q _=>∃(p dx:Addr) (n:Int),vs=[.ref p,.int n]/\H p=some (.ins (dcls cs d) dx [])/\∀H',(∀b o,H b=some o->b≠p->H' b=some o)->DObj cs H' p d n->Q .non H'
def q4g (cs:Cs)(d:Wd):Sp:=fun vs H Q _=>∃(p c:Addr) (C:Cl) (i:Nat),vs=[.ref p,.ref c]/\DObj cs H p d i/\ClAt H c C/\i<C.num d/\∀r,RowAt H C i r d->Q (.ref r) H
def q3F (cs:Cs)(d:Wd):Sp:=fun vs H Q _=>∃(p c q:Addr) (C:Cl) (s:Sd) (i:Nat),vs=[.ref p,.ref c,.ref q]/\DObj cs H p d i/\ClAt H c C/\ClOk C/\H q=some (.tup s.vs)/\s.ok C/\i<C.num d/\∀H',Same H H'->Q (.bl (canB C s i d)) H'
def qc6 (cs:Cs)(d:Wd):Sp:=fun vs H Q _=>∃(p c q:Addr) (C:Cl) (s:Sd) (n:Int),vs=[.ref p,.ref c,.ref q]/\DObj cs H p d n/\ClAt H c C/\ClOk C/\H q=some (.tup s.vs)/\s.ok C/\∀H',Same H H'->Q (.bl (canD C s d n)) H'
def q3G (cs:Cs)(d:Wd):Sp:=fun vs H Q _=>∃(p c q:Addr) (C:Cl) (s:Sd) (n:Int),vs=[.ref p,.ref c,.ref q]/\DObj cs H p d n/\ClAt H c C/\ClOk C/\H q=some (.tup s.vs)/\s.ok C/\canD C s d n=true/\∀(r:Addr) (H':Hp),Same H H'->H' r=some (.tup (q1X C s d n).vs)->Q (.ref r) H'
def q6k (cs:Cs)(d:Wd):Sp:=fun vs H Q _=>∃(p:Addr) (n:Int),vs=[.ref p]/\DObj cs H p d n/\∀(r:Addr) (H':Hp),Same H H'->H' r=some (.tup [.str d.str,.int n])->Q (.ref r) H'
theorem q8N (T:Txt mg cs)(L:Laid K mg "within" q3r ["number","least","most"]):Cal P w K mg base 1 "within" ["number","least","most"] q4G:=by
 refine L.cal (k:=0) q8l (fun vs H Q E h=>?_) (fun f cdv A outer s H vs Q E hr h=>?_)
 ·obtain ⟨n,a,b,rfl,_⟩:=h
  rfl
 ·obtain ⟨n,a,b,rfl,k⟩:=h
  refine⟨_,(qb (q02 (PW.pt (q2O (q0S (qy q18 rfl T.wx q0i (qa (pv 0) (qa (q2B (v:= .ty "bool") rfl T.waG q9R rfl) qc)))) (q25 (q2q (q0S (qy q18 rfl T.wx q0i (qa (pv 0) (qa (q2B (v:= .ty "int") rfl T.vO q6a rfl) qc)))))))) (qg (qq q2C)) qz)
   (qg (qq (qao qap qap (pv 1) (pv 0) (pv 2))))),?_⟩
  walk_at "r"
  refine ifd (fun h=>?_) (fun h=>?_)
  ·walk_at "r"
   rw[zu h,zbJ] at k
   exact k
  ·rw [zn h,zbF] at k
   exact k
theorem qaC (T:Txt mg cs)(L:Laid K mg "can_enter" q1r ["way","room"]):Cal P w K mg base 1 "can_enter" ["way","room"] q4I:=by
 obtain⟨t1,wU⟩:=T.wU
 obtain⟨t2,wX⟩:=T.wX
 obtain⟨t3,vh⟩:=T.vh
 refine L.cal (k:=0) q5y (fun vs H Q E h=>?_) (fun f cdv A outer s H vs Q E hr h=>?_)
 ·obtain ⟨r,x,rm,rfl,_⟩:=h
  rfl
 ·obtain ⟨r,x,rm,rfl,hW,k⟩:=h
  obtain⟨g,hr1,hg⟩:=hW
  unfold q0R at k
  refine⟨_,(qg (qq (qak (qR q0f (pv 1) (qk (qh K) (pv 0) (qt (v:= .int 0) rfl wU ⟨_,rfl⟩) (fun _ _=>rfl)) (qr _)) (q2r (q3R (qR q0f (pv 1) (qk (qh K) (pv 0) (qt (v:= .int 1) rfl wX ⟨_,rfl⟩) (fun _ _=>rfl)) (qr _)) (q2r (qk (qh K) (pv 0) (qt (v:= .int 3) rfl vh ⟨_,rfl⟩) (fun _ _=>rfl)))))))),?_⟩
  walk_at "r"
  refine ifd (fun h=>?_) (fun h=>?_)
  ·rw [zu h,Bool.true_or] at k
   exact k
  ·rw [zn h,zcy] at k
   walk_at "r"
   refine ifd (fun h=>?_) (fun h=>?_)
   ·rw [zu h,zbJ] at k
    walk_at "r"
    exact k
   ·rw [zn h,zbF] at k
    exact k
theorem q7H (T:Txt mg cs)(L:Laid K mg "changed" q2I ["parts","place","part"]):Cal P w K mg base 1 "changed" ["parts","place","part"] q6l:=by
 refine L.cal (k:=0) q7y (fun vs H Q E h=>?_) (fun f cdv A outer s H vs Q E hr h=>?_)
 ·obtain ⟨q,s,j,n,rfl,_⟩:=h
  rfl
 ·obtain ⟨q,st,j,n,rfl,hj,hq,k⟩:=h
  have big:=qF
  refine⟨_,(qg (qq (qm (q74 K) (qm (q74 K) (q2P (q6P K) (pv 0) q8z (q29 (pv 1))) (qC (qa (pv 2) qc))) (q2P (q6P K) (pv 0) (q29 (qm q03 (pv 1) qe)) q8z)))),?_⟩
  obtain rfl|rfl|rfl|rfl|rfl:j=0\/j=1\/j=2\/j=3\/j=4:=by omega
  ·walk_at "r"
   refine⟨q,_,rfl,SqT.of hq,fun e=>absurd (show(0:Nat)=5 from zag List.length e) (by decide),fun t1 ht1=>?_⟩
   have s1:=Same.upd (o:= .tup (cutV st.vs none (some ((0:Nat):Int)))) ht1
   have h1:(upd H t1 (.tup (cutV st.vs none (some ((0:Nat):Int))))) t1=some (.tup []):=qd
   generalize upd H t1 (.tup (cutV st.vs none (some ((0:Nat):Int))))=H1 at s1 h1 ⊢
   walk_at "r"
   intro t2 ht2
   have s2:=Same.upd (o:= .tup [.int n]) ht2
   have h2:=qd (H:=H1) (a:=t2) (o:= .tup [.int n])
   have h12:=s2 _ _ h1
   generalize upd H1 t2 (.tup [.int n])=H2 at s2 h2 h12 ⊢
   refine qck (SqT.of h12) (SqT.of h2) (by show 1<=sizeLine;omega) ?_
   have hq2:=s2 _ _ (s1 _ _ hq)
   walk_at "r"
   refine⟨q,_,rfl,SqT.of hq2,fun e=>absurd (show(4:Nat)=5 from zag List.length e) (by decide),fun t3 ht3=>?_⟩
   have s3:=Same.upd (o:= .tup (cutV st.vs (some (((0:Nat):Int)+1)) none)) ht3
   have h3:(upd H2 t3 (.tup (cutV st.vs (some (((0:Nat):Int)+1)) none))) t3=some (.tup [.int st.tk,.int st.op,.int st.b,.int st.wt]):=qd
   generalize upd H2 t3 (.tup (cutV st.vs (some (((0:Nat):Int)+1)) none))=H3 at s3 h3 ⊢
   refine q24 (SqT.of (s3 _ _ h2)) (SqT.of h3) rfl fun t4 ht4=>?_
   exact k t4 _ (((s1.trans s2).trans s3).trans (Same.upd ht4)) qd
  ·walk_at "r"
   refine⟨q,_,rfl,SqT.of hq,fun e=>absurd (show(1:Nat)=5 from zag List.length e) (by decide),fun t1 ht1=>?_⟩
   have s1:=Same.upd (o:= .tup (cutV st.vs none (some ((1:Nat):Int)))) ht1
   have h1:(upd H t1 (.tup (cutV st.vs none (some ((1:Nat):Int))))) t1=some (.tup [.int st.rm]):=qd
   generalize upd H t1 (.tup (cutV st.vs none (some ((1:Nat):Int))))=H1 at s1 h1 ⊢
   walk_at "r"
   intro t2 ht2
   have s2:=Same.upd (o:= .tup [.int n]) ht2
   have h2:=qd (H:=H1) (a:=t2) (o:= .tup [.int n])
   have h12:=s2 _ _ h1
   generalize upd H1 t2 (.tup [.int n])=H2 at s2 h2 h12 ⊢
   refine q24 (SqT.of h12) (SqT.of h2) rfl fun t5 ht5=>?_
   have s5:=Same.upd (o:= .tup [.int st.rm,.int n]) ht5
   have h5:=qd (H:=H2) (a:=t5) (o:= .tup [.int st.rm,.int n])
   have hq2:=s5 _ _ (s2 _ _ (s1 _ _ hq))
   show(tSl _ _ _ _) _ (upd H2 t5 (.tup [.int st.rm,.int n])) _
   generalize upd H2 t5 (.tup [.int st.rm,.int n])=H5 at s5 h5 hq2 ⊢
   walk_at "r"
   refine⟨q,_,rfl,SqT.of hq2,fun e=>absurd (show(3:Nat)=5 from zag List.length e) (by decide),fun t3 ht3=>?_⟩
   have s3:=Same.upd (o:= .tup (cutV st.vs (some (((1:Nat):Int)+1)) none)) ht3
   have h3:(upd H5 t3 (.tup (cutV st.vs (some (((1:Nat):Int)+1)) none))) t3=some (.tup [.int st.op,.int st.b,.int st.wt]):=qd
   generalize upd H5 t3 (.tup (cutV st.vs (some (((1:Nat):Int)+1)) none))=H3 at s3 h3 ⊢
   refine q24 (SqT.of (s3 _ _ h5)) (SqT.of h3) rfl fun t4 ht4=>?_
   exact k t4 _ ((((s1.trans s2).trans s5).trans s3).trans (Same.upd ht4)) qd
  ·walk_at "r"
   refine⟨q,_,rfl,SqT.of hq,fun e=>absurd (show(2:Nat)=5 from zag List.length e) (by decide),fun t1 ht1=>?_⟩
   have s1:=Same.upd (o:= .tup (cutV st.vs none (some ((2:Nat):Int)))) ht1
   have h1:(upd H t1 (.tup (cutV st.vs none (some ((2:Nat):Int))))) t1=some (.tup [.int st.rm,.int st.tk]):=qd
   generalize upd H t1 (.tup (cutV st.vs none (some ((2:Nat):Int))))=H1 at s1 h1 ⊢
   walk_at "r"
   intro t2 ht2
   have s2:=Same.upd (o:= .tup [.int n]) ht2
   have h2:=qd (H:=H1) (a:=t2) (o:= .tup [.int n])
   have h12:=s2 _ _ h1
   generalize upd H1 t2 (.tup [.int n])=H2 at s2 h2 h12 ⊢
   refine q24 (SqT.of h12) (SqT.of h2) rfl fun t5 ht5=>?_
   have s5:=Same.upd (o:= .tup [.int st.rm,.int st.tk,.int n]) ht5
   have h5:=qd (H:=H2) (a:=t5) (o:= .tup [.int st.rm,.int st.tk,.int n])
   have hq2:=s5 _ _ (s2 _ _ (s1 _ _ hq))
   show(tSl _ _ _ _) _ (upd H2 t5 (.tup [.int st.rm,.int st.tk,.int n])) _
   generalize upd H2 t5 (.tup [.int st.rm,.int st.tk,.int n])=H5 at s5 h5 hq2 ⊢
   walk_at "r"
   refine⟨q,_,rfl,SqT.of hq2,fun e=>absurd (show(2:Nat)=5 from zag List.length e) (by decide),fun t3 ht3=>?_⟩
   have s3:=Same.upd (o:= .tup (cutV st.vs (some (((2:Nat):Int)+1)) none)) ht3
   have h3:(upd H5 t3 (.tup (cutV st.vs (some (((2:Nat):Int)+1)) none))) t3=some (.tup [.int st.b,.int st.wt]):=qd
   generalize upd H5 t3 (.tup (cutV st.vs (some (((2:Nat):Int)+1)) none))=H3 at s3 h3 ⊢
   refine q24 (SqT.of (s3 _ _ h5)) (SqT.of h3) rfl fun t4 ht4=>?_
   exact k t4 _ ((((s1.trans s2).trans s5).trans s3).trans (Same.upd ht4)) qd
  ·walk_at "r"
   refine⟨q,_,rfl,SqT.of hq,fun e=>absurd (show(3:Nat)=5 from zag List.length e) (by decide),fun t1 ht1=>?_⟩
   have s1:=Same.upd (o:= .tup (cutV st.vs none (some ((3:Nat):Int)))) ht1
   have h1:(upd H t1 (.tup (cutV st.vs none (some ((3:Nat):Int))))) t1=some (.tup [.int st.rm,.int st.tk,.int st.op]):=qd
   generalize upd H t1 (.tup (cutV st.vs none (some ((3:Nat):Int))))=H1 at s1 h1 ⊢
   walk_at "r"
   intro t2 ht2
   have s2:=Same.upd (o:= .tup [.int n]) ht2
   have h2:=qd (H:=H1) (a:=t2) (o:= .tup [.int n])
   have h12:=s2 _ _ h1
   generalize upd H1 t2 (.tup [.int n])=H2 at s2 h2 h12 ⊢
   refine q24 (SqT.of h12) (SqT.of h2) rfl fun t5 ht5=>?_
   have s5:=Same.upd (o:= .tup [.int st.rm,.int st.tk,.int st.op,.int n]) ht5
   have h5:=qd (H:=H2) (a:=t5) (o:= .tup [.int st.rm,.int st.tk,.int st.op,.int n])
   have hq2:=s5 _ _ (s2 _ _ (s1 _ _ hq))
   show(tSl _ _ _ _) _ (upd H2 t5 (.tup [.int st.rm,.int st.tk,.int st.op,.int n])) _
   generalize upd H2 t5 (.tup [.int st.rm,.int st.tk,.int st.op,.int n])=H5 at s5 h5 hq2 ⊢
   walk_at "r"
   refine⟨q,_,rfl,SqT.of hq2,fun e=>absurd (show(1:Nat)=5 from zag List.length e) (by decide),fun t3 ht3=>?_⟩
   have s3:=Same.upd (o:= .tup (cutV st.vs (some (((3:Nat):Int)+1)) none)) ht3
   have h3:(upd H5 t3 (.tup (cutV st.vs (some (((3:Nat):Int)+1)) none))) t3=some (.tup [.int st.wt]):=qd
   generalize upd H5 t3 (.tup (cutV st.vs (some (((3:Nat):Int)+1)) none))=H3 at s3 h3 ⊢
   refine q24 (SqT.of (s3 _ _ h5)) (SqT.of h3) rfl fun t4 ht4=>?_
   exact k t4 _ ((((s1.trans s2).trans s5).trans s3).trans (Same.upd ht4)) qd
  ·walk_at "r"
   refine⟨q,_,rfl,SqT.of hq,fun e=>absurd (show(4:Nat)=5 from zag List.length e) (by decide),fun t1 ht1=>?_⟩
   have s1:=Same.upd (o:= .tup (cutV st.vs none (some ((4:Nat):Int)))) ht1
   have h1:(upd H t1 (.tup (cutV st.vs none (some ((4:Nat):Int))))) t1=some (.tup [.int st.rm,.int st.tk,.int st.op,.int st.b]):=qd
   generalize upd H t1 (.tup (cutV st.vs none (some ((4:Nat):Int))))=H1 at s1 h1 ⊢
   walk_at "r"
   intro t2 ht2
   have s2:=Same.upd (o:= .tup [.int n]) ht2
   have h2:=qd (H:=H1) (a:=t2) (o:= .tup [.int n])
   have h12:=s2 _ _ h1
   generalize upd H1 t2 (.tup [.int n])=H2 at s2 h2 h12 ⊢
   refine q24 (SqT.of h12) (SqT.of h2) rfl fun t5 ht5=>?_
   have s5:=Same.upd (o:= .tup [.int st.rm,.int st.tk,.int st.op,.int st.b,.int n]) ht5
   have h5:=qd (H:=H2) (a:=t5) (o:= .tup [.int st.rm,.int st.tk,.int st.op,.int st.b,.int n])
   have hq2:=s5 _ _ (s2 _ _ (s1 _ _ hq))
   show(tSl _ _ _ _) _ (upd H2 t5 (.tup [.int st.rm,.int st.tk,.int st.op,.int st.b,.int n])) _
   generalize upd H2 t5 (.tup [.int st.rm,.int st.tk,.int st.op,.int st.b,.int n])=H5 at s5 h5 hq2 ⊢
   walk_at "r"
   refine⟨q,_,rfl,SqT.of hq2,fun e=>absurd (show(0:Nat)=5 from zag List.length e) (by decide),fun t3 ht3=>?_⟩
   have s3:=Same.upd (o:= .tup (cutV st.vs (some (((4:Nat):Int)+1)) none)) ht3
   have h3:(upd H5 t3 (.tup (cutV st.vs (some (((4:Nat):Int)+1)) none))) t3=some (.tup []):=qd
   generalize upd H5 t3 (.tup (cutV st.vs (some (((4:Nat):Int)+1)) none))=H3 at s3 h3 ⊢
   refine qcj (SqT.of (s3 _ _ h5)) (SqT.of h3) (by show 5<=sizeLine;omega) ?_
   exact k t5 _ (((s1.trans s2).trans s5).trans s3) (s3 _ _ h5)
theorem qaD (T:Txt mg cs)(L:LaidC K mg "Deed" "__init__" "Deed.__init__" q1O ["self","word","number","part"]):CCal P w K mg base 1 "Deed" "__init__" ["self","word","number","part"] (q2y K):=by
 refine L.cc (k:=0) q5P (fun vs H Q E h=>?_) (fun f cdv A outer s H vs Q E hr h=>?_)
 ·obtain ⟨p,C,dx,z,n,t,rfl,_⟩:=h
  rfl
 ·obtain ⟨p,C,dx,z,n,t,rfl,hp,cl,nw,nn,np,k⟩:=h
  refine⟨_,(qb (q1h K (pv 0) (pv 1) rfl)
   (qb (q1h K (pv 0) (pv 2) rfl)
   (qg (q1h K (pv 0) (pv 3) rfl)))),?_⟩
  walk_at "r"
  refine q2p hp cl nw (by decide) ?_
  walk_at "r"
  refine q2p qd cl nn (by show 1<1000;decide) ?_
  walk_at "r"
  refine q2p qd cl np (by show 2<1000;decide) ?_
  rw[q1Y,q1Y]
  exact k
theorem q5W {H:Hp}{Q:VK}{p dx:Addr}{d:Wd}{n:Int}(k:∀H',(∀b o,H b=some o->b≠p->H' b=some o)->DObj cs H' p d n->Q .non H'):Q .non (upd H p (.ins (dcls cs d) dx (putF "part" (.int d.part) (putF "number" (.int n) (putF "word" (.str d.str) []))))):=
 k _ (fun b o hb hbp=>by rw[qj hbp];exact hb) ⟨dx,qd⟩
theorem mk_go (T:Txt mg cs)(TC:Tcl K cs)(L:LaidI K mg "Go" cs.Go "Go.__init__" q2J ["self","number"])(wc:CCal P w K mg base 1 "Deed" "__init__" ["self","word","number","part"] (q2y K)):Makes P w K mg base 2 "Go" cs.Go ["self","number"] (q1Z cs .go):=by
 obtain⟨t1,wz⟩:=T.wz
 have D:=q2w TC .go
 refine L.makes (k:=1) q7z (fun vs H Q E h=>?_) (fun f cdv A outer s H vs Q E hr h=>?_)
 ·obtain ⟨p,dx,n,rfl,_⟩:=h
  rfl
 ·obtain ⟨p,dx,n,rfl,hp,k⟩:=h
  refine⟨_,(qg (qN (q3Q wc hr (by decide) rfl (qa (pv 0) (qa qJ (qa (pv 1) (qa (qt (v:= .int 3) rfl wz ⟨_,rfl⟩) qc))))))),?_⟩
  walk_at "r"
  refine⟨p,_,dx,_,n,_,rfl,hp,D.cl,D.nw,D.nn,D.np,?_⟩
  walk_at "r"
  exact q5W k
theorem qcJ (T:Txt mg cs)(TC:Tcl K cs)(L:LaidI K mg "Pull" cs.Pull "Pull.__init__" q1G ["self","number"])(wc:CCal P w K mg base 1 "Deed" "__init__" ["self","word","number","part"] (q2y K)):Makes P w K mg base 2 "Pull" cs.Pull ["self","number"] (q1Z cs .pull):=by
 obtain⟨t1,wS⟩:=T.wS
 have D:=q2w TC .pull
 refine L.makes (k:=1) q5G (fun vs H Q E h=>?_) (fun f cdv A outer s H vs Q E hr h=>?_)
 ·obtain ⟨p,dx,n,rfl,_⟩:=h
  rfl
 ·obtain ⟨p,dx,n,rfl,hp,k⟩:=h
  refine⟨_,(qg (qN (q3Q wc hr (by decide) rfl (qa (pv 0) (qa qJ (qa (pv 1) (qa (qt (v:= .int 5) rfl wS ⟨_,rfl⟩) qc))))))),?_⟩
  walk_at "r"
  refine⟨p,_,dx,_,n,_,rfl,hp,D.cl,D.nw,D.nn,D.np,?_⟩
  walk_at "r"
  exact q5W k
theorem qcI (T:Txt mg cs)(TC:Tcl K cs)(L:LaidI K mg "Take" cs.Take "Take.__init__" q1D ["self","number"])(wc:CCal P w K mg base 1 "Deed" "__init__" ["self","word","number","part"] (q2y K)):Makes P w K mg base 2 "Take" cs.Take ["self","number"] (q1Z cs .take):=by
 obtain⟨t1,wB⟩:=T.wB
 have D:=q2w TC .take
 refine L.makes (k:=1) q5D (fun vs H Q E h=>?_) (fun f cdv A outer s H vs Q E hr h=>?_)
 ·obtain ⟨p,dx,n,rfl,_⟩:=h
  rfl
 ·obtain ⟨p,dx,n,rfl,hp,k⟩:=h
  refine⟨_,(qg (qN (q3Q wc hr (by decide) rfl (qa (pv 0) (qa qJ (qa (pv 1) (qa (qt (v:= .int 4) rfl wB ⟨_,rfl⟩) qc))))))),?_⟩
  walk_at "r"
  refine⟨p,_,dx,_,n,_,rfl,hp,D.cl,D.nw,D.nn,D.np,?_⟩
  walk_at "r"
  exact q5W k
theorem qcH (T:Txt mg cs)(TC:Tcl K cs)(L:LaidI K mg "Turn" cs.Turn "Turn.__init__" q1A ["self","number"])(wc:CCal P w K mg base 1 "Deed" "__init__" ["self","word","number","part"] (q2y K)):Makes P w K mg base 2 "Turn" cs.Turn ["self","number"] (q1Z cs .turn):=by
 obtain⟨t1,wT⟩:=T.wT
 have D:=q2w TC .turn
 refine L.makes (k:=1) q5B (fun vs H Q E h=>?_) (fun f cdv A outer s H vs Q E hr h=>?_)
 ·obtain ⟨p,dx,n,rfl,_⟩:=h
  rfl
 ·obtain ⟨p,dx,n,rfl,hp,k⟩:=h
  refine⟨_,(qg (qN (q3Q wc hr (by decide) rfl (qa (pv 0) (qa qJ (qa (pv 1) (qa (qt (v:= .int 6) rfl wT ⟨_,rfl⟩) qc))))))),?_⟩
  walk_at "r"
  refine⟨p,_,dx,_,n,_,rfl,hp,D.cl,D.nw,D.nn,D.np,?_⟩
  walk_at "r"
  exact q5W k
theorem q8S (T:Txt mg cs)(TC:Tcl K cs)(L:LaidI K mg "Unlock" cs.Unlock "Unlock.__init__" q0X ["self","number"])(wc:CCal P w K mg base 1 "Deed" "__init__" ["self","word","number","part"] (q2y K)):Makes P w K mg base 2 "Unlock" cs.Unlock ["self","number"] (q1Z cs .unlock):=by
 obtain⟨t1,wz⟩:=T.wz
 have D:=q2w TC .unlock
 refine L.makes (k:=1) q4j (fun vs H Q E h=>?_) (fun f cdv A outer s H vs Q E hr h=>?_)
 ·obtain ⟨p,dx,n,rfl,_⟩:=h
  rfl
 ·obtain ⟨p,dx,n,rfl,hp,k⟩:=h
  refine⟨_,(qg (qN (q3Q wc hr (by decide) rfl (qa (pv 0) (qa qJ (qa (pv 1) (qa (qt (v:= .int 3) rfl wz ⟨_,rfl⟩) qc))))))),?_⟩
  walk_at "r"
  refine⟨p,_,dx,_,n,_,rfl,hp,D.cl,D.nw,D.nn,D.np,?_⟩
  walk_at "r"
  exact q5W k
theorem q8U {H:Hp}{Q:VK}{d:Wd}{n:Int}{x dx:Addr}(hx:H x=none)(hdx:H dx=none)(ne:dx≠x)(k:∀(x:Addr) (H':Hp),Same H H'->H x=none->DObj cs H' x d n->Q (.ref x) H'):q1Z cs d (.ref x::([.int n]++[])) (upd (upd H dx (.own x)) x (.ins (dcls cs d) dx [])) (fun v H2=>v= .non/\Q (.ref x) H2) E0:=by
 refine⟨x,dx,n,rfl,qd,fun H' hk ho=>⟨rfl,k x H' (fun b o hb=>?_) hx ho⟩⟩
 refine hk b o ?_ (qu hb hx)
 rw[qj (qu hb hx),qj (qu hb hdx)]
 exact hb
theorem q5e {d:Wd}(L:LaidM K (dcls cs d) "own_part" "Deed.own_part" qD ["self","cellar"])(D:DCl K cs d):VMeth P w K mg base 1 (dcls cs d) "own_part" ["self","cellar"] (q4g cs d):=by
 refine L.vm (k:=0) D.cl q3k (fun vs H Q E h=>?_) (fun f cdv A outer s H vs Q E hr h=>?_)
 ·obtain ⟨p,c,C,i,rfl,_⟩:=h
  rfl
 ·obtain ⟨p,c,C,i,rfl,ho,hC,hi,k⟩:=h
  obtain⟨dx,hp⟩:=ho.ex
  obtain⟨pw,pt,pl,pv',h0,hw,ht,hl,hv⟩:=hC.ex
  refine⟨_,(qg (qq (qk (qh K) (qk (qh K) (pv 1) (q0z K (pv 0) rfl) (fun _ _=>rfl)) (q0z K (pv 0) rfl) (fun _ _=>rfl)))),?_⟩
  walk_at "r"
  refine q1m hp D.cl D.np (q9t d i) ?_
  cases d
  ·obtain ⟨xs,hx,hxl,hxg⟩:=hw.get
   obtain⟨r,e,hr1⟩:=hxg i hi
   refine q3l (SqT.of h0) (v:= .ref pw) rfl ?_
   walk_at "r"
   refine q1m hp D.cl D.nn (q0k _ i) ?_
   refine q3l (SqT.of hx) (q0n e) ?_
   exact k r ⟨_,yB hi,hr1⟩
  ·obtain ⟨xs,hx,hxl,hxg⟩:=hl.get
   obtain⟨r,e,hr1⟩:=hxg i hi
   refine q3l (SqT.of h0) (v:= .ref pl) rfl ?_
   walk_at "r"
   refine q1m hp D.cl D.nn (q0k _ i) ?_
   refine q3l (SqT.of hx) (q0n e) ?_
   exact k r ⟨_,yB hi,hr1⟩
  ·obtain ⟨xs,hx,hxl,hxg⟩:=ht.get
   obtain⟨r,e,hr1⟩:=hxg i hi
   refine q3l (SqT.of h0) (v:= .ref pt) rfl ?_
   walk_at "r"
   refine q1m hp D.cl D.nn (q0k _ i) ?_
   refine q3l (SqT.of hx) (q0n e) ?_
   exact k r ⟨_,yB hi,hr1⟩
  ·obtain ⟨xs,hx,hxl,hxg⟩:=hv.get
   obtain⟨r,e,hr1⟩:=hxg i hi
   refine q3l (SqT.of h0) (v:= .ref pv') rfl ?_
   walk_at "r"
   refine q1m hp D.cl D.nn (q0k _ i) ?_
   refine q3l (SqT.of hx) (q0n e) ?_
   exact k r ⟨_,yB hi,hr1⟩
  ·obtain ⟨xs,hx,hxl,hxg⟩:=hw.get
   obtain⟨r,e,hr1⟩:=hxg i hi
   refine q3l (SqT.of h0) (v:= .ref pw) rfl ?_
   walk_at "r"
   refine q1m hp D.cl D.nn (q0k _ i) ?_
   refine q3l (SqT.of hx) (q0n e) ?_
   exact k r ⟨_,yB hi,hr1⟩
theorem num_at {H:Hp}{c:Addr}{C:Cl}(hC:ClAt H c C)(d:Wd):∃(vs:List V) (p:Addr) (xs:List V),H c=some (.tup vs)/\atI vs d.part=some (.ref p)/\H p=some (.tup xs)/\xs.length=C.num d/\atI vs 2=some (.int C.lst):=by
 obtain⟨pw,pt,pl,pv',h0,hw,ht,hl,hv⟩:=hC.ex
 cases d
 ·obtain ⟨xs,hx,hxl,_⟩:=hw.get
  exact⟨_,pw,xs,h0,rfl,hx,hxl,rfl⟩
 ·obtain ⟨xs,hx,hxl,_⟩:=hl.get
  exact⟨_,pl,xs,h0,rfl,hx,hxl,rfl⟩
 ·obtain ⟨xs,hx,hxl,_⟩:=ht.get
  exact⟨_,pt,xs,h0,rfl,hx,hxl,rfl⟩
 ·obtain ⟨xs,hx,hxl,_⟩:=hv.get
  exact⟨_,pv',xs,h0,rfl,hx,hxl,rfl⟩
 ·obtain ⟨xs,hx,hxl,_⟩:=hw.get
  exact⟨_,pw,xs,h0,rfl,hx,hxl,rfl⟩
theorem q5o {d:Wd}(T:Txt mg cs)(L:LaidM K (dcls cs d) "can" "Deed.can" q06 ["self","cellar","stand"])(D:DCl K cs d)(wR:Cal P w K mg base 1 "within" ["number","least","most"] q4G)(vf:VMeth P w K mg base 5 (dcls cs d) "fits" ["self","cellar","stand"] (q3F cs d)):VMeth P w K mg base 6 (dcls cs d) "can" ["self","cellar","stand"] (qc6 cs d):=by
 obtain⟨t1,we⟩:=T.we
 obtain⟨t2,vq⟩:=T.vq
 refine L.vm (k:=5) D.cl q6p (fun vs H Q E h=>?_) (fun f cdv A outer s H vs Q E hr h=>?_)
 ·obtain ⟨p,c,q,C,st,n,rfl,_⟩:=h
  rfl
 ·obtain ⟨p,c,q,C,st,n,rfl,ho,hC,ok,hq,sok,k⟩:=h
  obtain⟨dx,hp⟩:=ho.ex
  obtain⟨vs,pp,xs,h0,hpp,hx,hxl,hlast⟩:=num_at hC d
  have hq':H q=some (.tup [.int st.rm,.int st.tk,.int st.op,.int st.b,.int st.wt]):=hq
  refine⟨_,(qb (q02 (PW.pt (q2O (qv q0f (qk (qh K) (pv 2) (qt (v:= .int 0) rfl we ⟨_,rfl⟩) (fun _ _=>rfl)) (qk (qh K) (pv 1) (qt (v:= .int 2) rfl vq ⟨_,rfl⟩) (fun _ _=>rfl)) (qr _)) (q25 (q2q (q0S (qH wR hr (by decide) rfl (qa (q0z K (pv 0) rfl) (qa qe (qa (qm q2a (qy (lenK K) rfl T.wm q0g (qa (qk (qh K) (pv 1) (q0z K (pv 0) rfl) (fun _ _=>rfl)) qc)) qe) qc))))))))) (qg (qq q2C)) qz)
   (qg (qq (q3N (k:=5) (hr.mono (by decide)) (pv 0) (qa (pv 1) (qa (pv 2) qc)))))),?_⟩
  walk_at "r"
  refine ifd (fun h1=>?_) (fun h1=>?_)
  ·walk_at "r"
   have:=k H (Same.refl _)
   rw[q66 h1] at this
   exact this
  walk_at "r"
  refine q1m hp D.cl D.nn (q0k d n) ?_
  walk_at "r"
  refine q1m hp D.cl D.np (q9t d n) ?_
  refine q3l (SqT.of h0) hpp ?_
  walk_at "r"
  refine⟨n,0,_,rfl,?_⟩
  walk_at "r"
  by_cases hin:0<=n/\n<(C.num d:Int)
  ·have e:(decide (0<=n)&&decide (n<=(xs.length:Int) - 1))=true:=by
    rw[zu (p:=0<=n) hin.1,zu (p:=n<=(xs.length:Int) - 1) (by rw[hxl];omega)]
    rfl
   rw[e]
   walk_at "r"
   obtain⟨i,rfl⟩:∃i:Nat,n=(i:Int):=⟨n.toNat,by omega⟩
   refine r_vm hp vf (qd9 d _) ?_
   walk_at "r"
   refine⟨p,c,q,C,st,i,rfl,ho,hC,ok,hq,sok,by omega,fun H' s'=>?_⟩
   have:=k H' s'
   rw[q9L h1] at this
   exact this
  ·have e:(decide (0<=n)&&decide (n<=(xs.length:Int) - 1))=false:=by
    rw[Bool.and_eq_false_iff]
    by_cases h3:0<=n
    ·right;rw[hxl];exact zn (by omega)
    ·left;exact zn h3
   rw[e]
   walk_at "r"
   have:=k H (Same.refl _)
   rw[show canD C st d n=false from by
    by_cases h3:0<=n
    ·exact q6H (by omega)
    ·exact q7j (by omega)] at this
   exact this
theorem q2F {d:Wd}(L:LaidM K (dcls cs d) "told" "Deed.told" qU ["self"])(D:DCl K cs d):VMeth P w K mg base 1 (dcls cs d) "told" ["self"] (q6k cs d):=by
 refine L.vm (k:=0) D.cl q5O (fun vs H Q E h=>?_) (fun f cdv A outer s H vs Q E hr h=>?_)
 ·obtain ⟨p,n,rfl,_⟩:=h
  rfl
 ·obtain ⟨p,n,rfl,ho,k⟩:=h
  obtain⟨dx,hp⟩:=ho.ex
  refine⟨_,(qg (qq (qC (qa (q0z K (pv 0) rfl) (qa (q0z K (pv 0) rfl) qc))))),?_⟩
  walk_at "r"
  refine q1m hp D.cl D.nw (qd7 d n) ?_
  walk_at "r"
  refine q1m hp D.cl D.nn (q0k d n) ?_
  walk_at "r"
  intro r hr1
  exact k r _ (Same.upd hr1) qd
theorem q7n (T:Txt mg cs)(D:DCl K cs .go)(L:LaidM K cs.Go "fits" "Go.fits" q2K ["self","cellar","stand"])(vo:VMeth P w K mg base 1 (dcls cs .go) "own_part" ["self","cellar"] (q4g cs .go))(wI:Cal P w K mg base 1 "can_enter" ["way","room"] q4I)(wf:Cal P w K mg base 1 "has_bit" ["bits","place"] q6n)
  (vL:Cal P w K mg base 4 "gate_of" ["gate"] (qc4 cs))(vl:∀g:Gt,VMeth P w K mg base 2 (q9H cs g) "lets" ["self","held","opened","bars","water"] (q3b cs g.word))(vH:Cal P w K mg base 2 "held" ["cellar","stand"] q6O):VMeth P w K mg base 5 (dcls cs .go) "fits" ["self","cellar","stand"] (q3F cs .go):=by
 obtain⟨t1,we⟩:=T.we
 obtain⟨t2,wq⟩:=T.wq
 obtain⟨t3,wG⟩:=T.wG
 obtain⟨t4,va⟩:=T.va
 obtain⟨t5,wM⟩:=T.wM
 refine LaidM.vm (k:=4) L D.cl q32 (fun vs H Q E h=>?_) (fun f cdv A outer s H vs Q E hr h=>?_)
 ·obtain ⟨p,c,q,C,st,i,rfl,_⟩:=h
  rfl
 ·obtain ⟨p,c,q,C,st,i,rfl,ho,hC,ok,hq,sok,hi,k⟩:=h
  obtain⟨dx,hp⟩:=ho.ex
  replace hq:H q=some (.tup [.int st.rm,.int st.tk,.int st.op,.int st.b,.int st.wt]):=hq
  refine⟨_,(qb (qx (i:=3) q32.nd rfl (Or.inl rfl) (q3N (k:=1) (hr.mono (by decide)) (pv 0) (qa (pv 1) qc)))
   (qb (q02 (q2q (q0S (qH wI hr (by decide) rfl (qa (pv 3) (qa (qk (qh K) (pv 2) (qt (v:= .int 0) rfl we ⟨_,rfl⟩) (fun _ _=>rfl)) qc))))) (qg (qq q2C)) qz)
   (qb (qx (i:=4) q32.nd rfl (Or.inl rfl) (qH wf hr (by decide) rfl (qa (qk (qh K) (pv 2) (qt (v:= .int 2) rfl wq ⟨_,rfl⟩) (fun _ _=>rfl)) (qa (q0z K (pv 0) rfl) qc))))
   (qg (qq (q3N (k:=2) (hr.mono (by decide)) (qH vL hr (by decide) rfl (qa (qk (qh K) (pv 3) (qt (v:= .int 2) rfl wG ⟨_,rfl⟩) (fun _ _=>rfl)) qc)) (qa (qH vH hr (by decide) rfl (qa (pv 1) (qa (pv 2) qc))) (qa (pv 4) (qa (qk (qh K) (pv 2) (qt (v:= .int 3) rfl va ⟨_,rfl⟩) (fun _ _=>rfl)) (qa (qk (qh K) (pv 2) (qt (v:= .int 4) rfl wM ⟨_,rfl⟩) (fun _ _=>rfl)) qc)))))))))),?_⟩
  walk_at "r"
  refine r_vm hp vo (q3h _ _) ?_
  walk_at "r"
  refine⟨p,c,C,i,rfl,ho,hC,hi,fun r hrow=>?_⟩
  obtain⟨x,hx,hW⟩:=hrow
  have xok:=ok.w x (zQ hx)
  have ecan:canB C st i .go=(q0R x st.rm&&q3W x.g (hold C st.tk st.op) (bit st.op i) st.b st.wt):=by simp[canB,hx]
  obtain⟨g,hr1,hg⟩:=id hW
  walk_at "r"
  refine⟨r,x,st.rm,rfl,hW,?_⟩
  walk_at "r"
  cases he:q0R x st.rm with
  |false=>
   walk_at "r"
   have:=k H (Same.refl _)
   rw[ecan,he] at this
   exact this
  |true=>
   walk_at "r"
   refine q1m hp D.cl D.nn (q0k _ _) ?_
   walk_at "r"
   refine⟨st.op,i,rfl,by omega,?_⟩
   rw[zk]
   walk_at "r"
   refine⟨g,x.g,rfl,hg,fun o H1 s1 ho0 hob=>?_⟩
   obtain⟨dxo,qo,hpo,hqo⟩:=hob.ex
   have hq1:=s1 _ _ hq
   refine r_vm hpo (vl x.g) (qcZ qo x.g) ?_
   walk_at "r"
   refine⟨c,q,C,st.rm,st.tk,st.op,st.b,st.wt,rfl,hC.mono s1.ts,ok,hq1,sok.dr,fun hl H2 s2 hl0 hl2=>?_⟩
   have hq2:=s2 _ _ hq1
   walk_at "r"
   refine⟨o,hl,x.g,hold C st.tk st.op,_,_,_,rfl,rfl,hob.mono s2,xok.2.2.2,hl2,?_⟩
   have:=k H2 (s1.trans s2)
   rw[ecan,he,zbJ] at this
   exact this
theorem q5k (T:Txt mg cs)(D:DCl K cs .pull)(L:LaidM K cs.Pull "fits" "Pull.fits" q1H ["self","cellar","stand"])(vo:VMeth P w K mg base 1 (dcls cs .pull) "own_part" ["self","cellar"] (q4g cs .pull)):VMeth P w K mg base 5 (dcls cs .pull) "fits" ["self","cellar","stand"] (q3F cs .pull):=by
 obtain⟨t1,we⟩:=T.we
 obtain⟨t2,wn⟩:=T.wn
 refine LaidM.vm (k:=4) L D.cl q5H (fun vs H Q E h=>?_) (fun f cdv A outer s H vs Q E hr h=>?_)
 ·obtain ⟨p,c,q,C,st,i,rfl,_⟩:=h
  rfl
 ·obtain ⟨p,c,q,C,st,i,rfl,ho,hC,ok,hq,sok,hi,k⟩:=h
  obtain⟨dx,hp⟩:=ho.ex
  replace hq:H q=some (.tup [.int st.rm,.int st.tk,.int st.op,.int st.b,.int st.wt]):=hq
  refine⟨_,(qg (qq (qR q0f (qk (qh K) (pv 2) (qt (v:= .int 0) rfl we ⟨_,rfl⟩) (fun _ _=>rfl)) (qk (qh K) (q3N (k:=1) (hr.mono (by decide)) (pv 0) (qa (pv 1) qc)) (qt (v:= .int 0) rfl wn ⟨_,rfl⟩) (fun _ _=>rfl)) (qr _)))),?_⟩
  walk_at "r"
  refine r_vm hp vo (q3h _ _) ?_
  walk_at "r"
  refine⟨p,c,C,i,rfl,ho,hC,hi,fun r hrow=>?_⟩
  obtain⟨x,hx,hP⟩:=hrow
  have ecan:canB C st i .pull=decide (st.rm=x.1):=by simp[canB,hx]
  replace hP:H r=some (.tup [.int x.1,.int x.2]):=hP
  walk_at "r"
  have:=k H (Same.refl _)
  rw[ecan] at this
  exact this
theorem q5j (T:Txt mg cs)(D:DCl K cs .take)(L:LaidM K cs.Take "fits" "Take.fits" q1E ["self","cellar","stand"])(vo:VMeth P w K mg base 1 (dcls cs .take) "own_part" ["self","cellar"] (q4g cs .take))(wf:Cal P w K mg base 1 "has_bit" ["bits","place"] q6n):VMeth P w K mg base 5 (dcls cs .take) "fits" ["self","cellar","stand"] (q3F cs .take):=by
 obtain⟨t1,we⟩:=T.we
 obtain⟨t2,wn⟩:=T.wn
 obtain⟨t3,wD⟩:=T.wD
 refine LaidM.vm (k:=4) L D.cl q5E (fun vs H Q E h=>?_) (fun f cdv A outer s H vs Q E hr h=>?_)
 ·obtain ⟨p,c,q,C,st,i,rfl,_⟩:=h
  rfl
 ·obtain ⟨p,c,q,C,st,i,rfl,ho,hC,ok,hq,sok,hi,k⟩:=h
  obtain⟨dx,hp⟩:=ho.ex
  replace hq:H q=some (.tup [.int st.rm,.int st.tk,.int st.op,.int st.b,.int st.wt]):=hq
  refine⟨_,(qg (qq (q3R (qR q0f (qk (qh K) (pv 2) (qt (v:= .int 0) rfl we ⟨_,rfl⟩) (fun _ _=>rfl)) (qk (qh K) (q3N (k:=1) (hr.mono (by decide)) (pv 0) (qa (pv 1) qc)) (qt (v:= .int 0) rfl wn ⟨_,rfl⟩) (fun _ _=>rfl)) (qr _)) (q2r (qbw (qH wf hr (by decide) rfl (qa (qk (qh K) (pv 2) (qt (v:= .int 1) rfl wD ⟨_,rfl⟩) (fun _ _=>rfl)) (qa (q0z K (pv 0) rfl) qc)))))))),?_⟩
  walk_at "r"
  refine r_vm hp vo (q3h _ _) ?_
  walk_at "r"
  refine⟨p,c,C,i,rfl,ho,hC,hi,fun r hrow=>?_⟩
  obtain⟨x,hx,hP⟩:=hrow
  have ecan:canB C st i .take=(decide (st.rm=x.1)&& !bit st.tk i):=by simp[canB,hx]
  replace hP:H r=some (.tup [.int x.1,.int x.2]):=hP
  have k':=k H (Same.refl _)
  rw[ecan] at k'
  walk_at "r"
  refine ifd (fun h1=>?_) (fun h1=>?_)
  ·rw [zu h1,zbJ] at k'
   walk_at "r"
   refine q1m hp D.cl D.nn (q0k _ _) ?_
   walk_at "r"
   refine⟨st.tk,i,rfl,by omega,?_⟩
   rw[zk]
   walk_at "r"
   exact k'
  ·rw [zn h1,zbF] at k'
   exact k'
theorem q5i (T:Txt mg cs)(D:DCl K cs .turn)(L:LaidM K cs.Turn "fits" "Turn.fits" q1B ["self","cellar","stand"])(vo:VMeth P w K mg base 1 (dcls cs .turn) "own_part" ["self","cellar"] (q4g cs .turn)):VMeth P w K mg base 5 (dcls cs .turn) "fits" ["self","cellar","stand"] (q3F cs .turn):=by
 obtain⟨t1,we⟩:=T.we
 obtain⟨t2,wn⟩:=T.wn
 obtain⟨t3,wM⟩:=T.wM
 obtain⟨t4,wj⟩:=T.wj
 refine LaidM.vm (k:=4) L D.cl q3d (fun vs H Q E h=>?_) (fun f cdv A outer s H vs Q E hr h=>?_)
 ·obtain ⟨p,c,q,C,st,i,rfl,_⟩:=h
  rfl
 ·obtain ⟨p,c,q,C,st,i,rfl,ho,hC,ok,hq,sok,hi,k⟩:=h
  obtain⟨dx,hp⟩:=ho.ex
  replace hq:H q=some (.tup [.int st.rm,.int st.tk,.int st.op,.int st.b,.int st.wt]):=hq
  refine⟨_,(qb (qx (i:=3) q3d.nd rfl (Or.inl rfl) (q3N (k:=1) (hr.mono (by decide)) (pv 0) (qa (pv 1) qc)))
   (qg (qq (q3R (qR q0f (qk (qh K) (pv 2) (qt (v:= .int 0) rfl we ⟨_,rfl⟩) (fun _ _=>rfl)) (qk (qh K) (pv 3) (qt (v:= .int 0) rfl wn ⟨_,rfl⟩) (fun _ _=>rfl)) (qr _)) (q2r (qR q5T (qk (qh K) (pv 2) (qt (v:= .int 4) rfl wM ⟨_,rfl⟩) (fun _ _=>rfl)) (qk (qh K) (pv 3) (qt (v:= .int 1) rfl wj ⟨_,rfl⟩) (fun _ _=>rfl)) (qr _))))))),?_⟩
  walk_at "r"
  refine r_vm hp vo (q3h _ _) ?_
  walk_at "r"
  refine⟨p,c,C,i,rfl,ho,hC,hi,fun r hrow=>?_⟩
  obtain⟨x,hx,hP⟩:=hrow
  have ecan:canB C st i .turn=(decide (st.rm=x.1)&& !decide (st.wt=x.2)):=by simp[canB,hx]
  replace hP:H r=some (.tup [.int x.1,.int x.2]):=hP
  have k':=k H (Same.refl _)
  rw[ecan] at k'
  walk_at "r"
  refine ifd (fun h1=>?_) (fun h1=>?_)
  ·rw [zu h1,zbJ] at k'
   walk_at "r"
   exact k'
  ·rw [zn h1,zbF] at k'
   exact k'
theorem q4c (T:Txt mg cs)(D:DCl K cs .unlock)(L:LaidM K cs.Unlock "fits" "Unlock.fits" q0Y ["self","cellar","stand"])(vo:VMeth P w K mg base 1 (dcls cs .unlock) "own_part" ["self","cellar"] (q4g cs .unlock))(wI:Cal P w K mg base 1 "can_enter" ["way","room"] q4I)(wf:Cal P w K mg base 1 "has_bit" ["bits","place"] q6n)
  (vH:Cal P w K mg base 2 "held" ["cellar","stand"] q6O):VMeth P w K mg base 5 (dcls cs .unlock) "fits" ["self","cellar","stand"] (q3F cs .unlock):=by
 obtain⟨t1,we⟩:=T.we
 obtain⟨t2,wq⟩:=T.wq
 obtain⟨t3,wG⟩:=T.wG
 refine LaidM.vm (k:=4) L D.cl q1g (fun vs H Q E h=>?_) (fun f cdv A outer s H vs Q E hr h=>?_)
 ·obtain ⟨p,c,q,C,st,i,rfl,_⟩:=h
  rfl
 ·obtain ⟨p,c,q,C,st,i,rfl,ho,hC,ok,hq,sok,hi,k⟩:=h
  obtain⟨dx,hp⟩:=ho.ex
  replace hq:H q=some (.tup [.int st.rm,.int st.tk,.int st.op,.int st.b,.int st.wt]):=hq
  refine⟨_,(qb (qx (i:=3) q1g.nd rfl (Or.inl rfl) (q3N (k:=1) (hr.mono (by decide)) (pv 0) (qa (pv 1) qc)))
   (qb (qx (i:=4) q1g.nd rfl (Or.inl rfl) (qk (qh K) (pv 3) (qt (v:= .int 2) rfl wG ⟨_,rfl⟩) (fun _ _=>rfl)))
   (qb (q02 (PW.pt (q2O (qv q5T (qk (qh K) (pv 4) qe (fun _ _=>rfl)) qJ (qr _)) (q2O (q2q (q0S (qH wI hr (by decide) rfl (qa (pv 3) (qa (qk (qh K) (pv 2) (qt (v:= .int 0) rfl we ⟨_,rfl⟩) (fun _ _=>rfl)) qc))))) (q25 (q0S (qH wf hr (by decide) rfl (qa (qk (qh K) (pv 2) (qt (v:= .int 2) rfl wq ⟨_,rfl⟩) (fun _ _=>rfl)) (qa (q0z K (pv 0) rfl) qc)))))))) (qg (qq q2C)) qz)
   (qg (qq (qR q3m (qk (qL K) (qH vH hr (by decide) rfl (qa (pv 1) (qa (pv 2) qc))) (qk (qh K) (pv 4) qe (fun _ _=>rfl)) (fun _ _=>rfl)) qe (qr _))))))),?_⟩
  walk_at "r"
  refine r_vm hp vo (q3h _ _) ?_
  walk_at "r"
  refine⟨p,c,C,i,rfl,ho,hC,hi,fun r hrow=>?_⟩
  obtain⟨x,hx,hW⟩:=hrow
  have xok:=ok.w x (zQ hx)
  obtain⟨g,hr1,hg⟩:=id hW
  have hg':=hg
  rw[Gt.vs_eq] at hg'
  walk_at "r"
  refine ifn (fun hn=>?_) (fun hn=>?_)
  ·walk_at "r"
   have hdk:x.g.dk=none:=by
    have:=q5c x.g
    rw[zn hn] at this
    cases e:x.g.dk with
    |none=>rfl
    |some k=>rw[e] at this;cases this
   have:=k H (Same.refl _)
   rw[show canB C st i .unlock=false by simp[canB,hx,hdk]] at this
   exact this
  obtain⟨kd,ekd⟩:=q9s hn
  have hk:0<=kd/\kd<12:=by have:=xok.2.2.2;rw[ekd] at this;exact this
  have edk:x.g.dk=some kd:=by rw[ekd];rfl
  have ecan:canB C st i .unlock=((q0R x st.rm&& !bit st.op i)&&decide (0<hold C st.tk st.op kd)):=by simp[canB,hx,edk]
  have hg2:H g=some (.tup [.str "door",.int kd]):=by rw[ekd] at hg;exact hg
  walk_at "r"
  refine⟨r,x,st.rm,rfl,hW,?_⟩
  walk_at "r"
  cases he:q0R x st.rm with
  |false=>
   walk_at "r"
   have:=k H (Same.refl _)
   rw[ecan,he] at this
   exact this
  |true=>
   walk_at "r"
   refine q1m hp D.cl D.nn (q0k _ _) ?_
   walk_at "r"
   refine⟨st.op,i,rfl,by omega,?_⟩
   rw[zk]
   walk_at "r"
   cases hb:bit st.op i with
   |true=>
    walk_at "r"
    have:=k H (Same.refl _)
    rw[ecan,he,hb] at this
    exact this
   |false=>
    walk_at "r"
    refine⟨c,q,C,st.rm,st.tk,st.op,st.b,st.wt,rfl,hC,ok,hq,sok.dr,fun hl H2 s2 hl0 hl2=>?_⟩
    have hg3:=s2 _ _ hg2
    walk_at "r"
    refine q6t (SqL.of hl2) (q9J hk.1 hk.2) ?_
    walk_at "r"
    have:=k H2 s2
    rw[ecan,he,hb] at this
    exact this
theorem q7o (T:Txt mg cs)(D:DCl K cs .go)(L:LaidM K cs.Go "done" "Go.done" q2L ["self","cellar","stand"])(vo:VMeth P w K mg base 1 (dcls cs .go) "own_part" ["self","cellar"] (q4g cs .go))(wg:Cal P w K mg base 1 "changed" ["parts","place","part"] q6l):VMeth P w K mg base 2 (dcls cs .go) "done" ["self","cellar","stand"] (q3G cs .go):=by
 obtain⟨t1,we⟩:=T.we
 obtain⟨t2,wU⟩:=T.wU
 obtain⟨t3,wX⟩:=T.wX
 refine LaidM.vm (k:=1) L D.cl q33 (fun vs H Q E h=>?_) (fun f cdv A outer s H vs Q E hr h=>?_)
 ·obtain ⟨p,c,q,C,st,n,rfl,_⟩:=h
  rfl
 ·obtain ⟨p,c,q,C,st,n,rfl,ho,hC,ok,hq,sok,hcan,k⟩:=h
  obtain⟨hl,i,rfl,hi,hcb⟩:=q2e hcan
  obtain⟨dx,hp⟩:=ho.ex
  have hq':H q=some (.tup [.int st.rm,.int st.tk,.int st.op,.int st.b,.int st.wt]):=hq
  refine⟨_,(qb (qx (i:=3) q33.nd rfl (Or.inl rfl) (q3N (k:=1) (hr.mono (by decide)) (pv 0) (qa (pv 1) qc)))
   (qb (qx (i:=4) q33.nd rfl (Or.inl rfl) (q70 (qv q0f (qk (qh K) (pv 2) (qt (v:= .int 0) rfl we ⟨_,rfl⟩) (fun _ _=>rfl)) (qk (qh K) (pv 3) (qt (v:= .int 0) rfl wU ⟨_,rfl⟩) (fun _ _=>rfl)) (qr _)) (qk (qh K) (pv 3) (qt (v:= .int 1) rfl wX ⟨_,rfl⟩) (fun _ _=>rfl)) (qk (qh K) (pv 3) (qt (v:= .int 0) rfl wU ⟨_,rfl⟩) (fun _ _=>rfl))))
   (qg (qq (qH wg hr (by decide) rfl (qa (pv 2) (qa (qt (v:= .int 0) rfl we ⟨_,rfl⟩) (qa (pv 4) qc)))))))),?_⟩
  walk_at "r"
  refine r_vm hp vo (q3h _ _) ?_
  walk_at "r"
  refine⟨p,c,C,i,rfl,ho,hC,hi,fun r hrow=>?_⟩
  obtain⟨x,hx,hW⟩:=hrow
  obtain⟨g,hr1,hg⟩:=id hW
  have edone:q1X C st .go (i:Int)={st with rm:=if st.rm=x.a then x.b else x.a}:=by
   show q1i C st ((i:Int)).toNat .go=_
   rw[zk];simp[q1i,hx]
  rw[edone] at k
  walk_at "r"
  refine ifd (fun h1=>?_) (fun h1=>?_)
  ·rw [zi h1] at k
   walk_at "r"
   exact⟨q,st,0,_,rfl,by decide,hq,fun r H' s' hr'=>k r H' s' hr'⟩
  ·rw [zd h1] at k
   walk_at "r"
   exact⟨q,st,0,_,rfl,by decide,hq,fun r H' s' hr'=>k r H' s' hr'⟩
theorem q5n (T:Txt mg cs)(D:DCl K cs .pull)(L:LaidM K cs.Pull "done" "Pull.done" q1I ["self","cellar","stand"])(vo:VMeth P w K mg base 1 (dcls cs .pull) "own_part" ["self","cellar"] (q4g cs .pull))(wg:Cal P w K mg base 1 "changed" ["parts","place","part"] q6l):VMeth P w K mg base 2 (dcls cs .pull) "done" ["self","cellar","stand"] (q3G cs .pull):=by
 obtain⟨t1,va⟩:=T.va
 obtain⟨t2,wj⟩:=T.wj
 refine LaidM.vm (k:=1) L D.cl q5I (fun vs H Q E h=>?_) (fun f cdv A outer s H vs Q E hr h=>?_)
 ·obtain ⟨p,c,q,C,st,n,rfl,_⟩:=h
  rfl
 ·obtain ⟨p,c,q,C,st,n,rfl,ho,hC,ok,hq,sok,hcan,k⟩:=h
  obtain⟨hl,i,rfl,hi,hcb⟩:=q2e hcan
  obtain⟨dx,hp⟩:=ho.ex
  have hq':H q=some (.tup [.int st.rm,.int st.tk,.int st.op,.int st.b,.int st.wt]):=hq
  refine⟨_,(qg (qq (qH wg hr (by decide) rfl (qa (pv 2) (qa (qt (v:= .int 3) rfl va ⟨_,rfl⟩) (qa (qm qby (qk (qh K) (pv 2) (qt (v:= .int 3) rfl va ⟨_,rfl⟩) (fun _ _=>rfl)) (qk (qh K) (q3N (k:=1) (hr.mono (by decide)) (pv 0) (qa (pv 1) qc)) (qt (v:= .int 1) rfl wj ⟨_,rfl⟩) (fun _ _=>rfl))) qc)))))),?_⟩
  walk_at "r"
  refine r_vm hp vo (q3h _ _) ?_
  walk_at "r"
  refine⟨p,c,C,i,rfl,ho,hC,hi,fun r hrow=>?_⟩
  obtain⟨x,hx,hP⟩:=hrow
  replace hP:H r=some (.tup [.int x.1,.int x.2]):=hP
  have edone:q1X C st .pull (i:Int)={st with b:=Builtin.bitXor st.b x.2}:=by
   show q1i C st ((i:Int)).toNat .pull=_
   rw[zk];simp[q1i,hx]
  rw[edone] at k
  walk_at "r"
  exact⟨q,st,3,_,rfl,by decide,hq,fun r H' s' hr'=>k r H' s' hr'⟩
theorem q5m (T:Txt mg cs)(D:DCl K cs .take)(L:LaidM K cs.Take "done" "Take.done" q1F ["self","cellar","stand"])(wg:Cal P w K mg base 1 "changed" ["parts","place","part"] q6l):VMeth P w K mg base 2 (dcls cs .take) "done" ["self","cellar","stand"] (q3G cs .take):=by
 obtain⟨t1,wD⟩:=T.wD
 refine LaidM.vm (k:=1) L D.cl q5F (fun vs H Q E h=>?_) (fun f cdv A outer s H vs Q E hr h=>?_)
 ·obtain ⟨p,c,q,C,st,n,rfl,_⟩:=h
  rfl
 ·obtain ⟨p,c,q,C,st,n,rfl,ho,hC,ok,hq,sok,hcan,k⟩:=h
  obtain⟨hl,i,rfl,hi,hcb⟩:=q2e hcan
  obtain⟨dx,hp⟩:=ho.ex
  have hq':H q=some (.tup [.int st.rm,.int st.tk,.int st.op,.int st.b,.int st.wt]):=hq
  have hi8:(i:Int)<8:=by have h2:i<C.things.length:=hi;have:=ok.tl;omega
  have hb:bit st.tk i=false:=by
   have h2:i<C.things.length:=hi
   simp only[canB,yB h2,Bool.and_eq_true,Bool.not_eq_true'] at hcb
   exact hcb.2
  have edone:q1X C st .take (i:Int)={st with tk:=st.tk+2 ^ i}:=by
   show q1i C st ((i:Int)).toNat .take=_
   rw[zk];rfl
  rw[edone] at k
  refine⟨_,(qg (qq (qH wg hr (by decide) rfl (qa (pv 2) (qa (qt (v:= .int 1) rfl wD ⟨_,rfl⟩) (qa (qm op_or (qk (qh K) (pv 2) (qt (v:= .int 1) rfl wD ⟨_,rfl⟩) (fun _ _=>rfl)) (qm q72 qe (q0z K (pv 0) rfl))) qc)))))),?_⟩
  walk_at "r"
  refine q1m hp D.cl D.nn (q0k _ _) ?_
  walk_at "r"
  rw[zk,zb0,q9S hb]
  exact⟨q,st,1,_,rfl,by decide,hq,fun r H' s' hr'=>k r H' s' hr'⟩
theorem q5l (T:Txt mg cs)(D:DCl K cs .turn)(L:LaidM K cs.Turn "done" "Turn.done" q1C ["self","cellar","stand"])(vo:VMeth P w K mg base 1 (dcls cs .turn) "own_part" ["self","cellar"] (q4g cs .turn))(wg:Cal P w K mg base 1 "changed" ["parts","place","part"] q6l):VMeth P w K mg base 2 (dcls cs .turn) "done" ["self","cellar","stand"] (q3G cs .turn):=by
 obtain⟨t1,wM⟩:=T.wM
 obtain⟨t2,wj⟩:=T.wj
 refine LaidM.vm (k:=1) L D.cl q5C (fun vs H Q E h=>?_) (fun f cdv A outer s H vs Q E hr h=>?_)
 ·obtain ⟨p,c,q,C,st,n,rfl,_⟩:=h
  rfl
 ·obtain ⟨p,c,q,C,st,n,rfl,ho,hC,ok,hq,sok,hcan,k⟩:=h
  obtain⟨hl,i,rfl,hi,hcb⟩:=q2e hcan
  obtain⟨dx,hp⟩:=ho.ex
  refine⟨_,(qg (qq (qH wg hr (by decide) rfl (qa (pv 2) (qa (qt (v:= .int 4) rfl wM ⟨_,rfl⟩) (qa (qk (qh K) (q3N (k:=1) (hr.mono (by decide)) (pv 0) (qa (pv 1) qc)) (qt (v:= .int 1) rfl wj ⟨_,rfl⟩) (fun _ _=>rfl)) qc)))))),?_⟩
  walk_at "r"
  refine r_vm hp vo (q3h _ _) ?_
  walk_at "r"
  refine⟨p,c,C,i,rfl,ho,hC,hi,fun r hrow=>?_⟩
  obtain⟨x,hx,hP⟩:=hrow
  replace hP:H r=some (.tup [.int x.1,.int x.2]):=hP
  have edone:q1X C st .turn (i:Int)={st with wt:=x.2}:=by
   show q1i C st ((i:Int)).toNat .turn=_
   rw[zk];simp[q1i,hx]
  rw[edone] at k
  walk_at "r"
  exact⟨q,st,4,_,rfl,by decide,hq,fun r H' s' hr'=>k r H' s' hr'⟩
theorem q4d (T:Txt mg cs)(D:DCl K cs .unlock)(L:LaidM K cs.Unlock "done" "Unlock.done" q0Z ["self","cellar","stand"])(wg:Cal P w K mg base 1 "changed" ["parts","place","part"] q6l):VMeth P w K mg base 2 (dcls cs .unlock) "done" ["self","cellar","stand"] (q3G cs .unlock):=by
 obtain⟨t1,wq⟩:=T.wq
 refine LaidM.vm (k:=1) L D.cl q4k (fun vs H Q E h=>?_) (fun f cdv A outer s H vs Q E hr h=>?_)
 ·obtain ⟨p,c,q,C,st,n,rfl,_⟩:=h
  rfl
 ·obtain ⟨p,c,q,C,st,n,rfl,ho,hC,ok,hq,sok,hcan,k⟩:=h
  obtain⟨hl,i,rfl,hi,hcb⟩:=q2e hcan
  obtain⟨dx,hp⟩:=ho.ex
  have hq':H q=some (.tup [.int st.rm,.int st.tk,.int st.op,.int st.b,.int st.wt]):=hq
  have hi20:(i:Int)<20:=by have h2:i<C.ways.length:=hi;have:=ok.wl;omega
  have hb:bit st.op i=false:=by
   have h2:i<C.ways.length:=hi
   cases hk:C.ways[i].g.dk with
   |none=>simp[canB,h2,hk] at hcb
   |some kd=>
    simp only[canB,yB h2,hk,Bool.and_eq_true,Bool.not_eq_true'] at hcb
    exact hcb.1.2
  have edone:q1X C st .unlock (i:Int)={st with op:=st.op+2 ^ i}:=by
   show q1i C st ((i:Int)).toNat .unlock=_
   rw[zk];rfl
  rw[edone] at k
  refine⟨_,(qg (qq (qH wg hr (by decide) rfl (qa (pv 2) (qa (qt (v:= .int 2) rfl wq ⟨_,rfl⟩) (qa (qm op_or (qk (qh K) (pv 2) (qt (v:= .int 2) rfl wq ⟨_,rfl⟩) (fun _ _=>rfl)) (qm q72 qe (q0z K (pv 0) rfl))) qc)))))),?_⟩
  walk_at "r"
  refine q1m hp D.cl D.nn (q0k _ _) ?_
  walk_at "r"
  rw[zk,zb0,q9S hb]
  exact⟨q,st,2,_,rfl,by decide,hq,fun r H' s' hr'=>k r H' s' hr'⟩
def DAt (cs:Cs)(H:Hp)(p:Addr)(x:Wd×Nat):Prop:=DObj cs H p x.1 ((x.2:Nat):Int)
def TAt (H:Hp)(p:Addr)(x:Wd×Nat):Prop:=H p=some (.tup [.str x.1.str,.int ((x.2:Nat):Int)])
theorem DAt.mono {cs:Cs}{H H':Hp}(s:Same H H'){p:Addr}{x:Wd×Nat}(h:DAt cs H p x):DAt cs H' p x:=DObj.mono s h
theorem DAt.put {cs:Cs}{H:Hp}{D:Addr}{xs:List V}{o:HO}(hD:H D=some (.lst xs)){p:Addr}{x:Wd×Nat}(h:DAt cs H p x):DAt cs (upd H D o) p x:=by
 obtain⟨dx,hp⟩:=h.ex
 exact⟨dx,by rw[qj (q2R hp hD (by intro z;cases z))];exact hp⟩
theorem qM {α:Type}{At:Hp->Addr->α->Prop}{H:Hp}{D x:Addr}{ps:List Addr}{xs:List α}{y:α}(mo:∀q z,At H q z->At (upd H D (.lst (ps.map V.ref++[.ref x]))) q z)(hr:Rows At H ps xs)(hx:At H x y):qG At (upd H D (.lst (ps.map V.ref++[.ref x]))) D (xs++[y]):=
 ⟨ps++[x],by rw[qd,zR];rfl,(hr.mono mo).snoc (mo _ _ hx)⟩
theorem q3s {α:Type}{At:Hp->Addr->α->Prop}{H:Hp}{ps qs:List Addr}{xs ys:List α}(a:Rows At H ps xs)(b:Rows At H qs ys):Rows At H (ps++qs) (xs++ys):=by
 refine⟨by rw[zm,zm,a.1,b.1],fun i p x h1 h2=>?_⟩
 by_cases hi:i<ps.length
 ·rw [zA hi] at h1
  rw[zA (by rw[<-a.1];exact hi)] at h2
  exact a.2 i p x h1 h2
 ·rw [zS (by omega)] at h1
  rw[zS (by rw[<-a.1];omega),<-a.1] at h2
  exact b.2 _ p x h1 h2
def q8e (cs:Cs):Sp:=fun vs H Q _=>∃(c:Addr) (C:Cl),vs=[.ref c]/\ClAt H c C/\ClOk C/\∀(l:Addr) (H':Hp),Same H H'->H l=none->qG (DAt cs) H' l (rowD .go C.ways.length)->Q (.ref l) H'
def q8h (cs:Cs):Sp:=fun vs H Q _=>∃(c:Addr) (C:Cl),vs=[.ref c]/\ClAt H c C/\ClOk C/\∀(l:Addr) (H':Hp),Same H H'->H l=none->qG (DAt cs) H' l (allD C)->Q (.ref l) H'
def q8g (cs:Cs):Sp:=fun vs H Q _=>∃(c q:Addr) (C:Cl) (s:Sd),vs=[.ref c,.ref q]/\ClAt H c C/\ClOk C/\H q=some (.tup s.vs)/\s.ok C/\∀(l:Addr) (H':Hp),Same H H'->H l=none->qG (DAt cs) H' l (fitD C s)->Q (.ref l) H'
theorem q2N {H0 H':Hp}{D:Addr}{d:Wd}{i:Nat}{v:Option V}{ps:List Addr}{x dx:Addr}(hD:H0 D=none)(s2:Same H0 H')(hi:i<100)(hps:H' D=some (.lst (ps.map V.ref)))(hrw:Rows (DAt cs) H' ps (rowD d i))(hx:H' x=none)(hdx:H' dx=none)(ne:dx≠x):
  q1Z cs d (.ref x::([.int (0+((i:Nat):Int))]++[])) (upd (upd H' dx (.own x)) x (.ins (dcls cs d) dx [])) (fun w H2=>w= .non/\∃ys,H2 D=some (.lst ys)/\ys.length<sizeLine/\∃v0,([v]:St)=[v0]/\Same H0 (upd H2 D (.lst (ys++[.ref x])))/\qG (DAt cs) (upd H2 D (.lst (ys++[.ref x]))) D (rowD d (i+1))) E0:=by
 have big:=qF
 rw[zaO]
 refine q8U (Q:=fun y H2=>∃ys,H2 D=some (.lst ys)/\ys.length<sizeLine/\∃v0,([v]:St)=[v0]/\Same H0 (upd H2 D (.lst (ys++[y])))/\qG (DAt cs) (upd H2 D (.lst (ys++[y]))) D (rowD d (i+1))) hx hdx ne fun x H3 s3 hx0 hob=>?_
 have hp3:=s3 _ _ hps
 refine⟨_,hp3,by rw[yC,hrw.1,q3t];omega,_,rfl,(s2.trans s3).put hD,?_⟩
 rw[q5Q]
 exact qM (fun _ _=>DAt.put hp3) (hrw.mono fun _ _=>DAt.mono s3) hob
theorem qcB (T:Txt mg cs)(L:Laid K mg "all_goes" q1l ["cellar"])(wY:Makes P w K mg base 2 "Go" cs.Go ["self","number"] (q1Z cs .go)):Cal P w K mg base 4 "all_goes" ["cellar"] (q8e cs):=by
 obtain⟨t1,wz⟩:=T.wz
 refine L.cal (k:=3) q6o (fun vs H Q E h=>?_) (fun f cdv A outer s H vs Q E hr h=>?_)
 ·obtain ⟨c,C,rfl,_⟩:=h
  rfl
 ·obtain ⟨c,C,rfl,hC,ok,k⟩:=h
  obtain⟨pw,pt,pl,pv',h0,hw,ht,hl,hv⟩:=hC.ex
  obtain⟨wv,hwv,hwl,hwg⟩:=hw.get
  have okw:=ok.wl
  have hwl2:(wv.length:Int)<=20:=by omega
  refine⟨_,(qg (qq (q1P (q0G (N:=["number"]) (own:=1) (caps:=[]) ["cellar"] (qf q1l) (by walk_at "k")) rfl (q08 rfl T.wu (qa (qy (lenK K) rfl T.wm q0g (qa (qk (qh K) (pv 0) (qt (v:= .int 3) rfl wz ⟨_,rfl⟩) (fun _ _=>rfl)) qc)) qc)) (fun _ _ _ _=>(qp (i:=0) (show List.Nodup (["number"]:List Str) by walk_at "k") rfl (Or.inl rfl))) (fun _ _ _ _=>q1W) (fun _ _ _ _=>(q2s wY hr (by decide) rfl (qa (pv 0) qc)))))),?_⟩
  walk_at "r"
  intro D hD
  refine q2W (fun i σ H'=>∃v0,σ=[v0]/\Same H H'/\qG (DAt cs) H' D (rowD .go i)) ⟨none,rfl,Same.upd hD,⟨[],qd,Rows.nil⟩⟩ ?_ ?_
  ·rintro i σ H' hi ⟨v0,rfl,s2,ps,hps,hrw⟩
   walk_at "r"
   exact fun x dx hx hdx ne => q2N hD s2 (by have:i<wv.length:=by simpa using hi
                                             omega) hps hrw hx hdx ne
  ·rintro σ H' ⟨v0,rfl,s2,hlst⟩
   rw[zk,hwl] at hlst
   exact k D H' s2 hD hlst
theorem qcE (T:Txt mg cs)(L:Laid K mg "all_deeds" q0r ["cellar"])(vI:Cal P w K mg base 4 "all_goes" ["cellar"] (q8e cs))(wE:Makes P w K mg base 2 "Pull" cs.Pull ["self","number"] (q1Z cs .pull))(wF:Makes P w K mg base 2 "Take" cs.Take ["self","number"] (q1Z cs .take))
  (wC:Makes P w K mg base 2 "Turn" cs.Turn ["self","number"] (q1Z cs .turn))(ww:Makes P w K mg base 2 "Unlock" cs.Unlock ["self","number"] (q1Z cs .unlock)):Cal P w K mg base 5 "all_deeds" ["cellar"] (q8h cs):=by
 obtain⟨t1,wz⟩:=T.wz
 obtain⟨t2,wS⟩:=T.wS
 obtain⟨t3,wB⟩:=T.wB
 obtain⟨t4,wT⟩:=T.wT
 refine L.cal (k:=4) q0N (fun vs H Q E h=>?_) (fun f cdv A outer s H vs Q E hr h=>?_)
 ·obtain ⟨c,C,rfl,_⟩:=h
  rfl
 ·obtain ⟨c,C,rfl,hC,ok,k⟩:=h
  have big:=qF
  obtain⟨pw,pt,pl,pv',h0,hw,ht,hl,hv⟩:=hC.ex
  obtain⟨wv,hwv,hwl,hwg⟩:=hw.get
  obtain⟨tv,htv,htl,htg⟩:=ht.get
  obtain⟨lv,hlv,hll,hlg⟩:=hl.get
  obtain⟨vv,hvv,hvl,hvg⟩:=hv.get
  have okw:=ok.wl
  have okt:=ok.tl
  have okl:=ok.ll
  have okv:=ok.vl
  have hwl2:(wv.length:Int)<=20:=by omega
  have htl2:(tv.length:Int)<=8:=by omega
  have hll2:(lv.length:Int)<=4:=by omega
  have hvl2:(vv.length:Int)<=4:=by omega
  refine⟨_,(qb (q28 (i:=1) q0N.nd rfl rfl (q0G (N:=["number"]) (own:=1) (caps:=[]) ["cellar","pulls","takes","turns","unlocks"] (qf q0r) (by walk_at "k")) rfl (q08 rfl T.wu (qa (qy (lenK K) rfl T.wm q0g (qa (qk (qh K) (pv 0) (qt (v:= .int 5) rfl wS ⟨_,rfl⟩) (fun _ _=>rfl)) qc)) qc)) (fun _ _ _ _=>(qp (i:=0) (show List.Nodup (["number"]:List Str) by walk_at "k") rfl (Or.inl rfl))) (fun _ _ _ _=>q1W) (fun _ _ _ _=>(q2s wE hr (by decide) rfl (qa (pv 0) qc))))
   (qb (q28 (i:=2) q0N.nd rfl rfl (q0G (N:=["number"]) (own:=1) (caps:=[]) ["cellar","pulls","takes","turns","unlocks"] (qf q0r) (by walk_at "k")) rfl (q08 rfl T.wu (qa (qy (lenK K) rfl T.wm q0g (qa (qk (qh K) (pv 0) (qt (v:= .int 4) rfl wB ⟨_,rfl⟩) (fun _ _=>rfl)) qc)) qc)) (fun _ _ _ _=>(qp (i:=0) (show List.Nodup (["number"]:List Str) by walk_at "k") rfl (Or.inl rfl))) (fun _ _ _ _=>q1W) (fun _ _ _ _=>(q2s wF hr (by decide) rfl (qa (pv 0) qc))))
   (qb (q28 (i:=3) q0N.nd rfl rfl (q0G (N:=["number"]) (own:=1) (caps:=[]) ["cellar","pulls","takes","turns","unlocks"] (qf q0r) (by walk_at "k")) rfl (q08 rfl T.wu (qa (qy (lenK K) rfl T.wm q0g (qa (qk (qh K) (pv 0) (qt (v:= .int 6) rfl wT ⟨_,rfl⟩) (fun _ _=>rfl)) qc)) qc)) (fun _ _ _ _=>(qp (i:=0) (show List.Nodup (["number"]:List Str) by walk_at "k") rfl (Or.inl rfl))) (fun _ _ _ _=>q1W) (fun _ _ _ _=>(q2s wC hr (by decide) rfl (qa (pv 0) qc))))
   (qb (q28 (i:=4) q0N.nd rfl rfl (q0G (N:=["number"]) (own:=1) (caps:=[]) ["cellar","pulls","takes","turns","unlocks"] (qf q0r) (by walk_at "k")) rfl (q08 rfl T.wu (qa (qy (lenK K) rfl T.wm q0g (qa (qk (qh K) (pv 0) (qt (v:= .int 3) rfl wz ⟨_,rfl⟩) (fun _ _=>rfl)) qc)) qc)) (fun _ _ _ _=>(qp (i:=0) (show List.Nodup (["number"]:List Str) by walk_at "k") rfl (Or.inl rfl))) (fun _ _ _ _=>q1W) (fun _ _ _ _=>(q2s ww hr (by decide) rfl (qa (pv 0) qc))))
   (qg (qq (qm q5V (qm q5V (qm q5V (qm q5V (qH vI hr (by decide) rfl (qa (pv 0) qc)) (pv 1)) (pv 2)) (pv 3)) (pv 4)))))))),?_⟩
  walk_at "r"
  intro D1 hD1
  refine q2W (fun i σ H'=>∃v0,σ=[v0]/\Same H H'/\qG (DAt cs) H' D1 (rowD .pull i)) ⟨none,rfl,Same.upd hD1,⟨[],qd,Rows.nil⟩⟩ ?_ ?_
  ·rintro i σ H' hi ⟨v0,rfl,s2,ps,hps,hrw⟩
   walk_at "r"
   exact fun x dx hx hdx ne => q2N hD1 s2 (by have:i<lv.length:=by simpa using hi
                                              omega) hps hrw hx hdx ne
  rintro σ H1 ⟨v0,rfl,s1,m1⟩
  rw[zk,hll] at m1
  have h01:=s1 _ _ h0
  have htv1:=s1 _ _ htv
  walk_at "r"
  intro D2 hD2
  refine q2W (fun i σ H'=>∃v0,σ=[v0]/\Same H1 H'/\qG (DAt cs) H' D2 (rowD .take i)) ⟨none,rfl,Same.upd hD2,⟨[],qd,Rows.nil⟩⟩ ?_ ?_
  ·rintro i σ H' hi ⟨v0,rfl,s2,ps,hps,hrw⟩
   walk_at "r"
   exact fun x dx hx hdx ne => q2N hD2 s2 (by have:i<tv.length:=by simpa using hi
                                              omega) hps hrw hx hdx ne
  rintro σ H2 ⟨v0,rfl,s2,m2⟩
  rw[zk,htl] at m2
  have s02:=s1.trans s2
  have h02:=s02 _ _ h0
  have hvv2:=s02 _ _ hvv
  walk_at "r"
  intro D3 hD3
  refine q2W (fun i σ H'=>∃v0,σ=[v0]/\Same H2 H'/\qG (DAt cs) H' D3 (rowD .turn i)) ⟨none,rfl,Same.upd hD3,⟨[],qd,Rows.nil⟩⟩ ?_ ?_
  ·rintro i σ H' hi ⟨v0,rfl,s2,ps,hps,hrw⟩
   walk_at "r"
   exact fun x dx hx hdx ne => q2N hD3 s2 (by have:i<vv.length:=by simpa using hi
                                              omega) hps hrw hx hdx ne
  rintro σ H3 ⟨v0,rfl,s3,m3⟩
  rw[zk,hvl] at m3
  have s03:=s02.trans s3
  have h03:=s03 _ _ h0
  have hwv3:=s03 _ _ hwv
  walk_at "r"
  intro D4 hD4
  refine q2W (fun i σ H'=>∃v0,σ=[v0]/\Same H3 H'/\qG (DAt cs) H' D4 (rowD .unlock i)) ⟨none,rfl,Same.upd hD4,⟨[],qd,Rows.nil⟩⟩ ?_ ?_
  ·rintro i σ H' hi ⟨v0,rfl,s2,ps,hps,hrw⟩
   walk_at "r"
   exact fun x dx hx hdx ne => q2N hD4 s2 (by have:i<wv.length:=by simpa using hi
                                              omega) hps hrw hx hdx ne
  rintro σ H4 ⟨v0,rfl,s4,m4⟩
  rw[zk,hwl] at m4
  have s04:=s03.trans s4
  walk_at "r"
  refine⟨c,C,rfl,hC.mono s04.ts,ok,fun l5 H5 s5 hl5 m5=>?_⟩
  obtain⟨p1,e1,r1⟩:=m1
  obtain⟨p2,e2,r2⟩:=m2
  obtain⟨p3,e3,r3⟩:=m3
  obtain⟨p4,e4,r4⟩:=m4
  obtain⟨p5,e5,r5⟩:=m5
  have n1:=r1.1
  have n2:=r2.1
  have n3:=r3.1
  have n4:=r4.1
  have n5:=r5.1
  rw[q3t] at n1 n2 n3 n4 n5
  have s45:=s4.trans s5
  have s35:=s3.trans s45
  have s25:=s2.trans s35
  walk_at "r"
  refine⟨l5,D1,_,_,rfl,rfl,e5,s25 _ _ e1,by simp;omega,fun l6 hl6=>?_⟩
  rw[<-zR]
  have s6:=Same.upd (o:= .lst ((p5++p1).map V.ref)) hl6
  have e6:=qd (H:=H5) (a:=l6) (o:= .lst ((p5++p1).map V.ref))
  generalize upd H5 l6 (.lst ((p5++p1).map V.ref))=H6 at s6 e6 ⊢
  walk_at "r"
  refine⟨l6,D2,_,_,rfl,rfl,e6,s6 _ _ (s35 _ _ e2),by simp;omega,fun l7 hl7=>?_⟩
  rw[<-zR]
  have s7:=Same.upd (o:= .lst ((p5++p1++p2).map V.ref)) hl7
  have e7:=qd (H:=H6) (a:=l7) (o:= .lst ((p5++p1++p2).map V.ref))
  generalize upd H6 l7 (.lst ((p5++p1++p2).map V.ref))=H7 at s7 e7 ⊢
  have s67:=s6.trans s7
  walk_at "r"
  refine⟨l7,D3,_,_,rfl,rfl,e7,s67 _ _ (s45 _ _ e3),by simp;omega,fun l8 hl8=>?_⟩
  rw[<-zR]
  have s8:=Same.upd (o:= .lst ((p5++p1++p2++p3).map V.ref)) hl8
  have e8:=qd (H:=H7) (a:=l8) (o:= .lst ((p5++p1++p2++p3).map V.ref))
  generalize upd H7 l8 (.lst ((p5++p1++p2++p3).map V.ref))=H8 at s8 e8 ⊢
  have s68:=s67.trans s8
  walk_at "r"
  refine⟨l8,D4,_,_,rfl,rfl,e8,s68 _ _ (s5 _ _ e4),by simp;omega,fun l9 hl9=>?_⟩
  rw[<-zR]
  have s9:=Same.upd (o:= .lst ((p5++p1++p2++p3++p4).map V.ref)) hl9
  have e9:=qd (H:=H8) (a:=l9) (o:= .lst ((p5++p1++p2++p3++p4).map V.ref))
  generalize upd H8 l9 (.lst ((p5++p1++p2++p3++p4).map V.ref))=H9 at s9 e9 ⊢
  have s69:=s68.trans s9
  have s09:=(s04.trans s5).trans s69
  refine k l9 H9 s09 ?_ ⟨_,e9,?_⟩
  ·exact (((s04.trans s5).trans s68).free hl9)
  ·exact q3s (q3s (q3s (q3s (r5.mono fun _ _=>DAt.mono s69) (r1.mono fun _ _=>DAt.mono (s25.trans s69))) (r2.mono fun _ _=>DAt.mono (s35.trans s69))) (r3.mono fun _ _=>DAt.mono (s45.trans s69))) (r4.mono fun _ _=>DAt.mono (s5.trans s69))
theorem qcC (T:Txt mg cs)(L:Laid K mg "fit_deeds" q15 ["cellar","stand"])(vD:Cal P w K mg base 5 "all_deeds" ["cellar"] (q8h cs))(vc:∀d,VMeth P w K mg base 6 (dcls cs d) "can" ["self","cellar","stand"] (qc6 cs d)):Cal P w K mg base 7 "fit_deeds" ["cellar","stand"] (q8g cs):=by
 refine L.cal (k:=6) q5w (fun vs H Q E h=>?_) (fun f cdv A outer s H vs Q E hr h=>?_)
 ·obtain ⟨c,q,C,st,rfl,_⟩:=h
  rfl
 ·obtain ⟨c,q,C,st,rfl,hC,ok,hq,sok,k⟩:=h
  have big:=qF
  have hal:=q7k ok
  refine⟨_,(qg (qq (q1P (q0G (N:=["deed","cellar","stand"]) (own:=1) (caps:=[0,1]) ["cellar","stand"] (qf q15) (by walk_at "k")) rfl (q09 K (qH vD hr (by decide) rfl (qa (pv 0) qc))) (fun _ _ _ _=>(qp (i:=0) (show List.Nodup (["deed","cellar","stand"]:List Str) by walk_at "k") rfl (Or.inl rfl))) (fun _ _ _ _=>(q4s (q0S (qbv (k:=6) P w K mg base hr (by decide) (pv 0) (qa (pv 1) (qa (pv 2) qc)))))) (fun _ _ _ _=>(pv 0))))),?_⟩
  walk_at "r"
  refine⟨c,C,rfl,hC,ok,fun l H1 s1 hl0 m1=>?_⟩
  obtain⟨ps,e1,r1⟩:=m1
  walk_at "r"
  intro D hD
  refine q0L (ps.map V.ref) (fun i σ H'=>∃v0,σ=[v0,some (.ref c),some (.ref q)]/\Same H1 H'/\qG (DAt cs) H' D (((allD C).take i).filter fun x=>canD C st x.1 (x.2:Int))) ⟨none,rfl,Same.upd hD,⟨[],qd,Rows.nil⟩⟩ ?_ ?_ ?_
  ·rintro i σ H' ⟨_,rfl,s2,_⟩
   exact SqL.of (s2 _ _ e1)
  ·rintro i x σ H' hx ⟨v0,rfl,s2,qs,hqs,hrw⟩
   have hi:i<(allD C).length:=by have:=(yA hx).1;rw[yC,r1.1] at this;exact this
   obtain⟨p,ep,hob⟩:=r1.get hi
   rw[hx] at ep
   cases ep
   have hob2:=DAt.mono s2 hob
   obtain⟨dx,hp⟩:=hob2.ex
   have s12:=s1.trans s2
   have hqlen:qs.length<=100:=by
    rw[hrw.1]
    refine zaf (zaw _ _) ?_
    rw[zo];omega
   walk_at "r"
   refine r_vm hp (vc _) (df_can _ _) ?_
   walk_at "r"
   refine⟨p,c,q,C,st,_,rfl,hob2,hC.mono s12.ts,ok,s12 _ _ hq,sok,fun H3 s3=>?_⟩
   have hq3:=s3 _ _ hqs
   walk_at "r"
   rw[zh hi,zat]
   refine ite2 (fun hc=>?_) (fun hc=>?_)
   ·walk_at "r"
    refine⟨_,hq3,by rw[yC];omega,_,rfl,(s2.trans s3).put hD,?_⟩
    rw[show([(allD C)[i]].filter fun x=>canD C st x.1 (x.2:Int))=[(allD C)[i]] by simp[hc]]
    exact qM (fun _ _=>DAt.put hq3) (hrw.mono fun _ _=>DAt.mono s3) (DAt.mono s3 hob2)
   ·refine ⟨_,rfl,s2.trans s3,qs,hq3,?_⟩
    rw[show([(allD C)[i]].filter fun x=>canD C st x.1 (x.2:Int))=[] by simp[hc],zM]
    exact hrw.mono fun _ _=>DAt.mono s3
  ·rintro σ H' ⟨v0,rfl,s2,m2⟩
   rw[yC,r1.1,zL] at m2
   exact k D H' (s1.trans s2) (s1.free hD) m2
end
seal L2.PA L2.PE L2.PI L2.PS L2.PSs L2.PG L2.PT
def Sml (n:Int):Prop:=n.natAbs.log2<1920
theorem Sml.of {n:Int}(h:n.natAbs<2 ^ 1000):Sml n:=by
 unfold Sml
 by_cases h0:n.natAbs=0
 ·rw [h0];walk_at "k"
 ·have:=(Nat.log2_lt h0).mpr h
  omega
theorem sml_in {n:Int}(h1: -100000<=n)(h2:n<=100000):Sml n:= .of (by
 have:n.natAbs<=100000:=by omega
 exact zbT this (by walk_at "k"))
theorem hu8_of {A:Around}{k:Nat}(hr:Room k A):A.units+8<cLine:=by have:=hr.un;omega
theorem jc {y:Str}{ts:List TE}{n:Nat}{σ:St}{H:Hp}{Q:VK}(hy:y.length<=100)(hn:n<=500000)(q:∀m,m<=n+100->q4e ts m σ H Q):q4e (tC (.str y)::ts) n σ H Q:=⟨y,rfl,by have:=qF;omega,q _ (by omega)⟩
theorem jn {n:Nat}{σ:St}{H:Hp}{Q:VK}(q:∀z:Str,z.length<=n->Q (.str z) H):q4e [] n σ H Q:=fun z hz=>q z (by omega)
theorem jft {te:TE}{ts:List TE}{n:Nat}{σ:St}{H:Hp}{Q:VK}{p:Addr}{xs:List V}(hp:H p=some (.tup xs))(hl:xs.length<=20)(hx:∀y∈xs,q6K y)(hn:n<=500000)(ht:∀K:VK,K (.ref p) H->te σ H K)(q:∀m,m<=n+50000->q4e ts m σ H Q):q4e (tFt te::ts) n σ H Q:=
 ht _ ⟨p,xs,rfl,hp,hl,hx,fun z hz=>⟨z,rfl,by have:=qF;omega,q _ (by omega)⟩⟩
theorem jfi {te:TE}{ts:List TE}{n:Nat}{σ:St}{H:Hp}{Q:VK}{i:Int}(hi:Sml i)(hn:n<=500000)(ht:∀K:VK,K (.int i) H->te σ H K)(q:∀m,m<=n+1921->q4e ts m σ H Q):q4e (tFm te::ts) n σ H Q:=
 ht _ (.inl ⟨i,rfl,hi,fun z hz=>⟨z,rfl,by have:=qF;omega,q _ (by omega)⟩⟩)
theorem q4z (x:Int)(t:Nat):decide (Builtin.bitAnd (x / 2 ^ t) 1=0)= !bit x t:=by
 unfold bit
 rw[PyProof.Rows.bitAnd_m1,zbd]
 simp
 omega
def q9Z (K:W.Frag):Sp:=fun vs H Q _=>∃(a:Addr) (ns:List Int),vs=[.ref a]/\SqL K H a (ns.map V.int)/\ns.length<=63/\∀H',Q (.bl true) H'
theorem q00 {H H':Hp}{a:Addr}{o:HO}(e:upd H a o=H')(h:H a=none):Same H H':=e▸Same.upd h
theorem q01 {H H':Hp}{a:Addr}{o:HO}(e:upd H a o=H'):H' a=some o:=e▸qd
theorem qbG {A:Around}{k:Nat}(hr:Room k A):A.units+1+1<cLine:=by have:=hr.un;omega
theorem hu5_of {A:Around}{k:Nat}(hr:Room k A):A.units+4<cLine:=by have:=hr.un;omega
theorem hu7_of {A:Around}{k:Nat}(hr:Room k A):A.units+2+1<cLine:=by have:=hr.un;omega
def LAt (f:Sd->List Sd)(H:Hp)(p:Addr)(x:Sd):Prop:=qG SAt H p (f x)
theorem LAt.mono {f:Sd->List Sd}{H H':Hp}(s:Same H H'){p:Addr}{x:Sd}(h:LAt f H p x):LAt f H' p x:=by
 obtain⟨ps,h1,h2⟩:=h
 exact⟨ps,s _ _ h1,h2.mono fun _ _=>SAt.mono s.ts⟩
theorem q52 {H:Hp}{D:Addr}{kvs:List (List Key×V)}{o:HO}(hD:H D=some (.dT kvs)):q0p H (upd H D o):=fun p xs h=>by rw[qj (q2R h hD (by intro z;cases z))];exact h
theorem LAt.dput {f:Sd->List Sd}{H:Hp}{D:Addr}{kvs:List (List Key×V)}{o:HO}(hD:H D=some (.dT kvs)){p:Addr}{x:Sd}(h:LAt f H p x):LAt f (upd H D o) p x:=by
 obtain⟨ps,h1,h2⟩:=h
 exact⟨ps,by rw[qj (q2R h1 hD (by intro z;cases z))];exact h1,h2.mono fun _ _=>SAt.mono (q52 hD)⟩
def lkD (ss:List Sd)(ls:List Addr):Dk:=List.zipWith (fun s l=>(s,V.ref l)) ss ls
theorem q1e:∀{ss:List Sd} {ls:List Addr},ls.length=ss.length->(lkD ss ls).map (·.1)=ss
 |[],[],_=>rfl
 |[],_::_,h=>by simp at h
 |_::_,[],h=>by simp at h
 |s::ss,l::ls,h=>by
  show s::(lkD ss ls).map (·.1)=_
  rw[q1e (by simpa using h)]
theorem q1R {ss:List Sd}{ls:List Addr}(h:ls.length=ss.length):(lkD ss ls).length=ss.length:=by have:=zag List.length (q1e h);simpa using this
theorem q4U {ss:List Sd}{ls:List Addr}{s:Sd}{l:Addr}(h:ls.length=ss.length):lkD (ss++[s]) (ls++[l])=lkD ss ls++[(s,.ref l)]:=by
 unfold lkD
 rw[List.zipWith_append h.symm]
 rfl
theorem qbE {ss:List Sd}{ls:List Addr}{i:Nat}{s:Sd}{l:Addr}(h:ls.length=ss.length)(hn:ss.Nodup)(hs:ss[i]? =some s)(hl:ls[i]? =some l):dat (lkD ss ls) s=some (.ref l):=by
 refine q50 (by rw[q1e h];exact hn) ?_
 have:(lkD ss ls)[i]? =some (s,.ref l):=by unfold lkD;rw[List.getElem?_zipWith,hs,hl]
 exact zQ this
theorem q30:∀{l m:List Sd},l.Nodup->(∀x∈l,x∈m)->l.length<=m.length
 |[],_,_,_=>zak _
 |x::l,m,hn,h=>by
  rw[zaZ] at hn
  have hx:=h x (.head _)
  have:=q30 (m:=m.erase x) hn.2 fun y hy=>(List.mem_erase_of_ne fun e=>hn.1 (by rw[<-e];exact hy)).mpr (h y (zw _ hy))
  rw[List.length_erase_of_mem hx] at this
  have:0<m.length:=List.length_pos_of_mem hx
  rw[zac]
  omega
theorem DAtS.lput {H:Hp}{R D:Addr}{l:Dk}{xs:List V}{o:HO}(hR:H R=some (.lst xs))(h:DAtS H D l):DAtS (upd H R o) D l:=by
 show upd H R o D=_
 rw[qj (q2R h hR (by intro z;cases z))]
 exact h
theorem Rd.same {H H':Hp}(s:Same H H'){a:Addr}{u:HO}(h:Rd H a u):Rd H' a u:=by
 rcases h with h|⟨o,h⟩
 ·exact .inl (s _ _ h)
 ·exact .inr ⟨o,s _ _ h⟩
def gE (es:List (Sd×Sd))(y:Sd):List Sd:=(es.filter fun e=>decide (e.2=y)).map (·.1)
theorem qcY {es:List (Sd×Sd)}{x y:Sd}:gE (es++[(x,y)]) y=gE es y++[x]:=by simp[gE]
theorem qb0 {es:List (Sd×Sd)}{x y z:Sd}(h:z≠y):gE (es++[(x,y)]) z=gE es z:=by simp[gE,Ne.symm h]
theorem gE_len (es:List (Sd×Sd))(y:Sd):(gE es y).length<=es.length:=by rw[gE,yC];exact zaw _ _
theorem qbB {es:List (Sd×Sd)}{x y:Sd}:x∈gE es y↔(x,y)∈es:=by
 simp only[gE,List.mem_map,List.mem_filter,decide_eq_true_eq]
 constructor
 ·rintro ⟨⟨a,b⟩,⟨h1,h2⟩,h3⟩
  have h2':b=y:=h2
  have h3':a=x:=h3
  subst h2' h3'
  exact h1
 ·exact fun h=>⟨(x,y),⟨h,rfl⟩,rfl⟩
def eds (f:Sd->List Sd)(ss:List Sd):List (Sd×Sd):=ss.flatMap fun x=>(f x).map fun y=>(x,y)
theorem qb7 (f:Sd->List Sd)(ss:List Sd)(x:Sd):eds f (ss++[x])=eds f ss++(f x).map fun y=>(x,y):=by simp[eds]
theorem q8T {f:Sd->List Sd}{ss:List Sd}{x y:Sd}:(x,y)∈eds f ss↔x∈ss/\y∈f x:=by
 simp only[eds,List.mem_flatMap,List.mem_map,Prod.mk.injEq]
 constructor
 ·rintro ⟨a,h1,b,h2,h3,h4⟩
  subst h3 h4
  exact⟨h1,h2⟩
 ·exact fun⟨h1,h2⟩=>⟨x,h1,y,h2,rfl,rfl⟩
theorem q6B {f:Sd->List Sd}:∀{ss:List Sd},(∀x∈ss,(f x).length<=500)->(eds f ss).length<=500*ss.length
 |[],_=>zak _
 |x::ss,h=>by
  have:=q6B (ss:=ss) fun y hy=>h y (zw _ hy)
  have h1:=h x (.head _)
  have e:(eds f (x::ss)).length=(f x).length+(eds f ss).length:=by simp[eds]
  rw[e,zac]
  omega
theorem q45 {ss:List Sd}{ls:List Addr}{i:Nat}{p:List Key×V}(hl:ls.length=ss.length)(h:(dkv (lkD ss ls))[i]? =some p):∃s l,ss[i]? =some s/\ls[i]? =some l/\p=(s.key,.ref l):=by
 have hi:i<ss.length:=by
  have:=(yA h).1
  rw[show(dkv (lkD ss ls)).length=(lkD ss ls).length by simp[dkv],q1R hl] at this
  exact this
 refine⟨ss[i],ls[i]'(by omega),yB hi,yB (by omega),?_⟩
 have e:(lkD ss ls)[i]? =some (ss[i],.ref (ls[i]'(by omega))):=by unfold lkD;rw[List.getElem?_zipWith,yB hi,yB (by omega)]
 rw[dkv,zJ,e] at h
 exact(zH h).symm
theorem q76 {α:Type}{l:List α}(h:l.Nodup){i j:Nat}{x:α}(hi:l[i]? =some x)(hj:l[j]? =some x):i=j:=by
 obtain⟨h1,e1⟩:=yA hi
 obtain⟨h2,e2⟩:=yA hj
 exact(zcL h).mp (e1.trans e2.symm)
theorem q8p {es:List (Sd×Sd)}{H:Hp}{ls qs:List Addr}{ss:List Sd}{j:Nat}{l p:Addr}{x y:Sd}(hr:Rows (LAt (gE es)) H ls ss)(hn:ls.Nodup)(hs:ss.Nodup)(hj:ls[j]? =some l)(hy:ss[j]? =some y)(hqs:H l=some (.lst (qs.map V.ref)))(rq:Rows SAt H qs (gE es y))(hp:SAt H p x):
  Rows (LAt (gE (es++[(x,y)]))) (upd H l (.lst (qs.map V.ref++[.ref p]))) ls ss:=by
 refine⟨hr.1,fun k q z hk hz=>?_⟩
 by_cases e:k=j
 ·subst e
  rw[hj] at hk
  cases hk
  rw[hy] at hz
  cases hz
  show qG SAt _ _ _
  rw[qcY]
  exact qM (fun _ _=>SAt.put hqs) rq hp
 ·have nq:q≠l:=fun z=>e (q76 hn (z▸hk) hj)
  have nz:z≠y:=fun w=>e (q76 hs (w▸hz) hy)
  obtain⟨rs,h1,h2⟩:=hr.2 k q z hk hz
  show qG SAt _ _ _
  rw[qb0 nz]
  exact⟨rs,by rw[qj nq];exact h1,h2.mono fun _ _=>SAt.put hqs⟩
theorem qG.pairs {H:Hp}{ps:List Addr}{R:List Sd}(h:Rows SAt H ps R):∃l:List (Addr×List Int),l.map (·.1)=ps/\l.map (·.2)=R.map Sd.ns/\∀x∈l,H x.1=some (.tup (x.2.map V.int))/\x.2.length=5:=by
 refine⟨List.zip ps (R.map Sd.ns),?_,?_,fun x hx=>?_⟩
 ·exact List.map_fst_zip (by rw[yC,h.1];exact ze _)
 ·exact zcP (by rw[yC,h.1];exact ze _)
 ·obtain ⟨i,hi,e⟩:=zal hx
  rw[List.length_zip,yC] at hi
  have hi1:i<ps.length:=by omega
  have hi2:i<R.length:=by omega
  have:=h.2 i ps[i] R[i] (yB hi1) (yB hi2)
  rw[List.getElem_zip] at e
  subst e
  simp only[List.getElem_map]
  exact⟨this,rfl⟩
theorem q7u {H:Hp}{ps:List Addr}{R:List Sd}{l l':List (Addr×List Int)}(h2:l.map (·.2)=R.map Sd.ns)(h3:∀x∈l,H x.1=some (.tup (x.2.map V.int))/\x.2.length=5)(hp:l'.Perm l)(hs:l'.Pairwise fun a b=>¬b.2<a.2):
  ∃R',R'.Perm R/\Ord R'/\Rows SAt H (l'.map (·.1)) R':=by
 have ex:∀x∈l',∃s:Sd,x.2=s.ns:=fun x hx=>by
  have:x.2∈l.map (·.2):=zK.mpr ⟨x,hp.mem_iff.mp hx,rfl⟩
  rw[h2] at this
  obtain⟨s,_,e⟩:=zK.mp this
  exact⟨s,e.symm⟩
 obtain⟨R',hR⟩:∃R':List Sd,l'.map (·.2)=R'.map Sd.ns:=by
  clear hp hs
  induction l' with
  |nil=>exact⟨[],rfl⟩
  |cons x l' ih=>
   obtain⟨R',e⟩:=ih fun y hy=>ex y (zw _ hy)
   obtain⟨s,es⟩:=ex x (.head _)
   exact⟨s::R',by simp[e,es]⟩
 have pm:(R'.map Sd.ns).Perm (R.map Sd.ns):=by rw[<-hR,<-h2];exact hp.map _
 refine⟨R',?_,?_,?_⟩
 ·have inv:∀l:List Sd,(l.map Sd.ns).map (fun k:List Int=>(⟨k.getD 0 0,k.getD 1 0,k.getD 2 0,k.getD 3 0,k.getD 4 0⟩:Sd))=l:=fun l=>by
   rw[zP]
   exact(zab fun a _=>rfl).trans (zay l)
  have:=pm.map fun k:List Int=>(⟨k.getD 0 0,k.getD 1 0,k.getD 2 0,k.getD 3 0,k.getD 4 0⟩:Sd)
  rwa [inv,inv] at this
 ·have:(l'.map (·.2)).Pairwise fun a b=>¬b<a:=zbi.mpr hs
  rw[hR] at this
  exact zbi.mp this
 ·have hl:l'.length=R'.length:=by have:=zag List.length hR;simpa using this
  refine⟨by simpa using hl,fun i p x hp' hx=>?_⟩
  have hi:i<R'.length:=(yA hx).1
  have e1:l'[i]'(by omega)∈l':=zU _
  have e2:=(h3 _ (hp.mem_iff.mp e1)).1
  have e3:(l'[i]'(by omega)).1=p:=by simpa[show i<l'.length by omega] using hp'
  have e4:(l'[i]'(by omega)).2=x.ns:=by
   have:=zag (fun z=>z[i]?) hR
   simp only[List.getElem?_map,hx,yB (show i<l'.length by omega),Option.map_some] at this
   exact zH this
  rw[e3,e4] at e2
  exact e2
theorem qbN {R1 R2:List Sd}(hl:R1.length=R2.length){n:Nat}(hn:n=R1.length):((List.range n).all fun j=>decide (R1.getD j ⟨0,0,0,0,0⟩=R2.getD j ⟨0,0,0,0,0⟩))=decide (R1=R2):=by
 subst hn
 rw[zbd,zcN,decide_eq_true_eq]
 constructor
 ·intro h
  refine List.ext_getElem hl fun i h1 h2=>?_
  have:=h i (zcU.mpr h1)
  simpa[List.getD_eq_getElem?_getD,h1,h2] using this
 ·intro h j _
  rw[h]
  simp
theorem q2M {H:Hp}{ps:List Addr}{R:List Sd}(h:Rows SAt H ps R){j:Nat}(hj:j<R.length):∃p,(ps.map V.ref).getD j .non= .ref p/\SAt H p (R.getD j ⟨0,0,0,0,0⟩):=by
 have hp:j<ps.length:=by rw[h.1];exact hj
 refine⟨ps[j],by simp[List.getD_eq_getElem?_getD,hp],?_⟩
 have:=h.2 j ps[j] R[j] (yB hp) (yB hj)
 simpa[List.getD_eq_getElem?_getD,hj] using this
theorem r_eqSs {K:W.Frag}{H:Hp}{Q:VK}{p q:Addr}{R1 R2:List Sd}(h1:qG SAt H p R1)(h2:qG SAt H q R2)(k:Q (.bl (decide (R1=R2))) H):rEqD K 1 (.ref p) (.ref q) H Q:=by
 obtain⟨ps,e1,r1⟩:=h1
 obtain⟨qs,e2,r2⟩:=h2
 by_cases hl:R1.length=R2.length
 ·refine .inr (.inl ⟨p,q,_,_,fun j=>decide (R1.getD j ⟨0,0,0,0,0⟩=R2.getD j ⟨0,0,0,0,0⟩),rfl,rfl,SqL.of e1,SqL.of e2,by rw[yC,yC,r1.1,r2.1,hl],fun j h1 h2=>?_,?_⟩)
  ·rw [yC,r1.1] at h1
   rw[yC,r2.1] at h2
   obtain⟨a,ea,ha⟩:=q2M r1 h1
   obtain⟨b,eb,hb⟩:=q2M r2 h2
   rw[ea,eb]
   exact q9u ha hb
  ·rw [qbN hl (by rw[yC,r1.1])]
   exact k
 ·refine .inr (.inr ⟨p,q,_,_,rfl,rfl,SqL.of e1,SqL.of e2,by rw[yC,yC,r1.1,r2.1];exact hl,?_⟩)
  rw[zn (fun e=>hl (by rw[e]))] at k
  exact k
theorem r_neSs {K:W.Frag}{H:Hp}{Q:VK}{p q:Addr}{R1 R2:List Sd}(h1:qG SAt H p R1)(h2:qG SAt H q R2)(k:Q (.bl (!decide (R1=R2))) H):rNeD K 1 (.ref p) (.ref q) H Q:=by
 obtain⟨ps,e1,r1⟩:=h1
 obtain⟨qs,e2,r2⟩:=h2
 by_cases hl:R1.length=R2.length
 ·refine .inl ⟨p,q,_,_,fun j=>decide (R1.getD j ⟨0,0,0,0,0⟩=R2.getD j ⟨0,0,0,0,0⟩),rfl,rfl,SqL.of e1,SqL.of e2,by rw[yC,yC,r1.1,r2.1,hl],fun j h1 h2=>?_,?_⟩
  ·rw [yC,r1.1] at h1
   rw[yC,r2.1] at h2
   obtain⟨a,ea,ha⟩:=q2M r1 h1
   obtain⟨b,eb,hb⟩:=q2M r2 h2
   rw[ea,eb]
   exact q9u ha hb
  ·rw [qbN hl (by rw[yC,r1.1])]
   exact k
 ·refine .inr ⟨p,q,_,_,rfl,rfl,SqL.of e1,SqL.of e2,by rw[yC,yC,r1.1,r2.1];exact hl,?_⟩
  rw[zn (fun e=>hl (by rw[e]))] at k
  exact k
def Opn (I nx:St->Hp->Prop)(rt:VK)(P:Ends->Prop):Prop:=∀D:Ends,(∀σ H,I σ H->D.nx σ H)->(∀σ H,I σ H->D.ct σ H)->(∀σ H,nx σ H->D.bk σ H)->(∀v H,rt v H->D.rt v H)->P D
section
variable {K:W.Frag}{a:Addr}{g:TG}{tb:TS}{nx:St->Hp->Prop}{rt:VK}{σ:St}{H:Hp}
theorem q2j {lo:Int}{n:Nat}(Pv:Nat->St->Hp->Prop)(h0:Pv 0 σ H)(go:∀i σ H,i<n->Pv i σ H->Opn (Pv (i+1)) nx rt fun D=>g (.int (lo+(i:Nat))) σ H fun σ2 H2=>tb D σ2 H2)(stop:∀σ H,Pv n σ H->nx σ H):ForG (Itr lo n) g tb nx rt σ H:=
 q42 Pv h0 (fun i σ H hi p=>go i σ H hi p ⟨Pv (i+1),rt,nx,Pv (i+1)⟩ (fun _ _ h=>h) (fun _ _ h=>h) (fun _ _ h=>h) fun _ _ h=>h) stop
theorem q3z (xs:List V)(Pv:Nat->St->Hp->Prop)(h0:Pv 0 σ H)(hl:∀i σ H,Pv i σ H->SqL K H a xs)(go:∀i x σ H,xs[i]? =some x->Pv i σ H->Opn (Pv (i+1)) nx rt fun D=>g x σ H fun σ2 H2=>tb D σ2 H2)(stop:∀σ H,Pv xs.length σ H->nx σ H):ForG (Itl K a) g tb nx rt σ H:=
 q4Y xs Pv h0 hl (fun i x σ H hx p=>go i x σ H hx p ⟨Pv (i+1),rt,nx,Pv (i+1)⟩ (fun _ _ h=>h) (fun _ _ h=>h) (fun _ _ h=>h) fun _ _ h=>h) stop
end
def q6m (K:W.Frag):Sp:=fun vs H Q _=>∃(a:Addr) (ns:List Int) (i:Int),vs=[.ref a,.int i]/\SqL K H a (ns.map V.int)/\ns.length<=63/\0<=i/\Q (.int (ns.getD i.toNat 0)) H
section
variable {P:Program}{w:World}{K:W.Frag}{mg:Str->Option Value}{base:Heap}{cs:Cs}
theorem qaF (T:Txt mg cs)(L:Laid K mg "_law_cell_at" q0J ["_law_script","_law_k"]):Cal P w K mg base 1 "_law_cell_at" ["_law_script","_law_k"] (q6m K):=by
 refine L.cal (k:=0) q3K (fun vs H Q E h=>?_) (fun f cdv A outer s H vs Q E hr h=>?_)
 ·obtain ⟨a,ns,i,rfl,_⟩:=h
  rfl
 ·obtain ⟨a,ns,i,rfl,hS,hl,h0,k⟩:=h
  refine⟨_,(qb (q02 (qv q6v (pv 1) (qy (lenK K) rfl T.wm q0g (qa (pv 0) qc)) (qr _)) (qg (qq (qk (qL K) (pv 0) (pv 1) (fun _ _=>rfl)))) qz)
   (qg (qq qe))),?_⟩
  walk_at "r"
  refine ifd (fun h=>?_) (fun h=>?_)
  ·rw [yC] at h
   obtain⟨j,rfl⟩:∃j:Nat,i=(j:Int):=⟨i.toNat,by omega⟩
   walk_at "r"
   refine q6t hS (q59 (by omega)) ?_
   rw[zk] at k
   exact k
  ·rw [yC] at h
   walk_at "r"
   rw[show ns.getD i.toNat 0=0 by simp[List.getD,show ns.length<=i.toNat by omega]] at k
   exact k
def PrAt (C:Cl)(s:Sd)(H:Hp)(p:Addr)(x:Wd×Nat):Prop:=∃t r,H p=some (.tup [.ref t,.ref r])/\TAt H t x/\SAt H r (q1X C s x.1 (x.2:Int))
theorem PrAt.mono {C:Cl}{s:Sd}{H H':Hp}(ts:q0p H H'){p:Addr}{x:Wd×Nat}(h:PrAt C s H p x):PrAt C s H' p x:=let ⟨t,r,a,b,c⟩:=h;⟨t,r,ts _ _ a,ts _ _ b,ts _ _ c⟩
def q3E:Sp:=fun vs H Q _=>∃(c q:Addr) (C:Cl) (s:Sd),vs=[.ref c,.ref q]/\ClAt H c C/\ClOk C/\SAt H q s/\s.ok C/\∀(l:Addr) (H':Hp),Same H H'->H l=none->qG (PrAt C s) H' l (fitD C s)->Q (.ref l) H'
theorem qaz (T:Txt mg cs)(L:Laid K mg "leads" q3M ["cellar","stand"])(vw:Cal P w K mg base 7 "fit_deeds" ["cellar","stand"] (q8g cs))(vt:∀d,VMeth P w K mg base 1 (dcls cs d) "told" ["self"] (q6k cs d))(vd:∀d,VMeth P w K mg base 2 (dcls cs d) "done" ["self","cellar","stand"] (q3G cs d)):Cal P w K mg base 8 "leads" ["cellar","stand"] q3E:=by
 refine L.cal (k:=7) qa2 (fun vs H Q E h=>?_) (fun f cdv A outer s H vs Q E hr h=>?_)
 ·obtain ⟨c,q,C,st,rfl,_⟩:=h
  rfl
 ·obtain ⟨c,q,C,st,rfl,hC,ok,hq,sok,k⟩:=h
  have big:=qF
  have hal:=q2U ok st
  refine⟨_,(qg (qq (q1P (q0G (N:=["deed","cellar","stand"]) (own:=1) (caps:=[0,1]) ["cellar","stand"] (qf q3M) (by walk_at "k")) rfl (q09 K (qH vw hr (by decide) rfl (qa (pv 0) (qa (pv 1) qc)))) (fun _ _ _ _=>(qp (i:=0) (show List.Nodup (["deed","cellar","stand"]:List Str) by walk_at "k") rfl (Or.inl rfl))) (fun _ _ _ _=>q1W) (fun _ _ _ _=>(qC (qa (qcp (k:=1) P w K mg base hr (by decide) (pv 0)) (qa (qbv (k:=2) P w K mg base hr (by decide) (pv 0) (qa (pv 1) (qa (pv 2) qc))) qc))))))),?_⟩
  walk_at "r"
  refine⟨c,q,C,st,rfl,hC,ok,hq,sok,fun l H1 s1 hl0 m1=>?_⟩
  obtain⟨ps,e1,r1⟩:=m1
  walk_at "r"
  intro D hD
  refine q0L (ps.map V.ref) (fun i σ H'=>∃v0,σ=[v0,some (.ref c),some (.ref q)]/\Same H1 H'/\qG (PrAt C st) H' D ((fitD C st).take i)) ⟨none,rfl,Same.upd hD,⟨[],qd,Rows.nil⟩⟩ ?_ ?_ ?_
  ·rintro i σ H' ⟨_,rfl,s2,_⟩
   exact SqL.of (s2 _ _ e1)
  ·rintro i x σ H' hx ⟨v0,rfl,s2,qs,hqs,hrw⟩
   have hi:i<(fitD C st).length:=by have:=(yA hx).1;rw[yC,r1.1] at this;exact this
   obtain⟨p,ep,hob⟩:=r1.get hi
   rw[hx] at ep
   cases ep
   have hc:canD C st (fitD C st)[i].1 ((fitD C st)[i].2:Int)=true:=q79.mp (zU hi)
   have hob2:=DAt.mono s2 hob
   obtain⟨dx,hp⟩:=hob2.ex
   have hqlen:qs.length<=100:=by
    rw[hrw.1,zo];omega
   have s12:=s1.trans s2
   walk_at "r"
   refine r_vm hp (vt _) (qd8 _ _) ?_
   refine⟨p,_,rfl,hob2,fun t H3 s3 ht3=>?_⟩
   have hq3:=s3 _ _ hqs
   have hob3:=DAt.mono s3 hob2
   obtain⟨dx3,hp3⟩:=hob3.ex
   have s13:=s12.trans s3
   walk_at "r"
   refine r_vm hp3 (vd _) (qda _ _) ?_
   walk_at "r"
   refine⟨p,c,q,C,st,_,rfl,hob3,hC.mono s13.ts,ok,s13 _ _ hq,sok,hc,fun r H4 s4 hr4=>?_⟩
   have hq4:=s4 _ _ hq3
   walk_at "r"
   intro z hz
   have s5:=Same.upd (o:= .tup [.ref t,.ref r]) hz
   have hq5:=s5 _ _ hq4
   have hz5:=qd (H:=H4) (a:=z) (o:= .tup [.ref t,.ref r])
   generalize upd H4 z (.tup [.ref t,.ref r])=H5 at s5 hq5 hz5 ⊢
   refine⟨_,hq5,by rw[yC];omega,_,rfl,(((s2.trans s3).trans s4).trans s5).put hD,?_⟩
   rw[zh hi]
   exact qM (fun _ _ h=>PrAt.mono (q0p.lst hq5) h) (hrw.mono fun _ _=>PrAt.mono ((s3.trans s4).trans s5).ts) ⟨t,r,hz5,(s4.trans s5) _ _ ht3,s5 _ _ hr4⟩
  ·rintro σ H' ⟨v0,rfl,s2,m2⟩
   rw[yC,r1.1,zL] at m2
   exact k D H' (s1.trans s2) (s1.free hD) m2
end
def setD (l:Dk)(s:Sd)(v:V):Dk:=l.map fun x=>if x.1=s then(x.1,v) else x
theorem qd5 {l:Dk}{s:Sd}{v:V}(h:s∈l.map (·.1)):putK (dkv l) s.key v=dkv (setD l s v):=by
 unfold putK
 rw[q3p,q4Z,q2l,zu h,zi rfl]
 unfold dkv setD
 rw[zP,zP]
 refine zab fun x _=>?_
 show(if x.1.key=s.key then(x.1.key,v) else(x.1.key,x.2))=((if x.1=s then(x.1,v) else x).1.key,(if x.1=s then(x.1,v) else x).2)
 by_cases e:x.1=s
 ·rw [zi e,zi (by rw[e])]
 ·rw [zd e,zd fun z=>e (Sd.key_inj z)]
theorem dput_o {H:Hp}{a b:Addr}{l:Dk}{s:Sd}{v:V}(h:DAtS H a l)(hb:SAt H b s)(hl:l.length<sizeLine)(hn:s∈l.map (·.1)):DPut H a (.ref b) v (upd H a (.dT (dkv (setD l s v)))):=by
 have:=DPut.t (k:=s.key) (v:=v) h hb (by simpa[dkv] using hl)
 rwa [qd5 hn] at this
def PrL (C:Cl)(H:Hp)(l:Addr)(x:Sd):Prop:=qG (PrAt C x) H l (fitD C x)
theorem PrL.same {C:Cl}{H H':Hp}{l:Addr}{x:Sd}(s:Same H H')(h:PrL C H l x):PrL C H' l x:=let ⟨ps,h1,h2⟩:=h;⟨ps,s _ _ h1,h2.mono fun _ _=>PrAt.mono s.ts⟩
theorem PrL.dput {C:Cl}{H:Hp}{l D:Addr}{x:Sd}{kvs:List (List Key×V)}{o:HO}(hD:H D=some (.dT kvs))(h:PrL C H l x):PrL C (upd H D o) l x:=let ⟨ps,h1,h2⟩:=h;⟨ps,by rw[qj (q2R h1 hD (by intro z;cases z))];exact h1,h2.mono fun _ _=>PrAt.mono (q52 hD)⟩
theorem PrL.put {C:Cl}{H:Hp}{l R:Addr}{x:Sd}{xs:List V}{o:HO}(hR:H R=some (.lst xs))(n:l≠R)(h:PrL C H l x):PrL C (upd H R o) l x:=let ⟨ps,h1,h2⟩:=h;⟨ps,by rw[qj n];exact h1,h2.mono fun _ _ z=>PrAt.mono (q0p.lst hR) z⟩
def WkD (C:Cl)(R:Addr)(H:Hp)(row:List Sd)(ls:List Addr)(n:Nat):Prop:=ls.length=row.length/\∀i,i<n->∀p x,ls[i]? =some p->row[i]? =some x->p≠R/\PrL C H p x
section
variable {C:Cl}{R:Addr}{H H':Hp}{row:List Sd}{ls:List Addr}{n:Nat}
theorem WkD.mono (h:WkD C R H row ls n)(f:∀p x,p≠R->PrL C H p x->PrL C H' p x):WkD C R H' row ls n:=⟨h.1,fun i hi p x h1 h2=>let ⟨a,b⟩:=h.2 i hi p x h1 h2;⟨a,f p x a b⟩⟩
theorem WkD.snoc {y:Sd}{e:Addr}(h:WkD C R H row ls n)(hn:n<=row.length):WkD C R H (row++[y]) (ls++[e]) n:=⟨by rw[zm,zm,h.1];rfl,fun i hi p x h1 h2=>h.2 i hi p x (by rwa [zA (by rw[h.1];omega)] at h1) (by rwa [zA (by omega)] at h2)⟩
theorem WkD.set {x:Sd}{lp:Addr}(h:WkD C R H row ls n)(hx:row[n]? =some x)(ne:lp≠R)(hp:PrL C H lp x):WkD C R H row (ls.set n lp) (n+1):=⟨by rw[List.length_set];exact h.1,fun i hi p y h1 h2=>by
 rw[zcE] at h1
 by_cases e:n=i
 ·subst e
  rw[zi rfl] at h1
  split at h1
  ·cases h1;rw[hx] at h2;cases h2;exact⟨ne,hp⟩
  ·cases h1
 ·rw [zd e] at h1
  exact h.2 i (by omega) p y h1 h2⟩
theorem qcN {x:Sd}{lp:Addr}(h:ls.length=row.length)(nd:row.Nodup)(hx:row[n]? =some x):setD (lkD row ls) x (.ref lp)=lkD row (ls.set n lp):=by
 refine zbg fun i=>?_
 unfold setD lkD
 rw[zJ,List.getElem?_zipWith,List.getElem?_zipWith,zcE]
 obtain⟨hn,en⟩:=yA hx
 by_cases hi:i<row.length
 ·rw [yB hi,yB (by omega)]
  by_cases e:n=i
  ·subst e
   rw[zi rfl,zi (by omega)]
   simp[en]
  ·have:row[i]≠x:=fun z=>by
    rw[<-en] at z
    exact e ((zcL nd).mp z).symm
   rw[zd e]
   simp[this]
 ·rw [List.getElem?_eq_none (by omega)]
  simp
end
def spWFX (X:Addr):Sp:=fun vs H Q E=>∃(c q:Addr) (C:Cl) (s:Sd),vs=[.ref c,.ref q]/\ClAt H c C/\ClOk C/\(∀x∈s.vs,q6K x)/\SAt H q s/\s.ok C/\(∀(d:Addr) (row:List Sd) (ls:List Addr) (H':Hp),Same H H'->H d=none->DAtS H' d (lkD row ls)->Rows (PrL C) H' ls row->row.Nodup->row.length<=300->(∀x,x∈row↔Rch (NxR C) s x)->Q (.ref d) H')/\∀(row:List Sd) (H':Hp),Same H H'->row.Nodup->(∀x∈row,Rch (NxR C) s x)->300<row.length->E (.ref X) none H'
section
variable {P:Program}{w:World}{K:W.Frag}{mg:Str->Option Value}{base:Heap}{xs:Xs}{cs:Cs}
theorem qar (T:Txt mg cs)(TX:Tx K mg xs)(L:Laid K mg "walk_from" q1p ["cellar","begin"])(wac:Cal P w K mg base 8 "leads" ["cellar","stand"] q3E):CalX P w K mg base 9 "walk_from" ["cellar","begin"] (spWFX xs.Wide):=by
 obtain⟨t1,wH⟩:=T.wH
 refine L.calX (k:=8) q07 (fun vs H Q E h=>?_) (fun f cdv A outer s H vs Q E hr h=>?_)
 ·obtain ⟨c,q,C,st,rfl,_⟩:=h
  rfl
 ·obtain ⟨c,q,C,st,rfl,hC,ok,sh,hq,sok,k,ke⟩:=h
  have big:=qF
  refine⟨_,(qb (qx (i:=2) q07.nd rfl (Or.inl rfl) (q71 (q0E hr) (pv 1) (q0P qc)))
   (qb (qx (i:=3) q07.nd rfl (Or.inl rfl) (q0P (qa (pv 1) qc)))
   (qb (qx (i:=4) q07.nd rfl (Or.inl rfl) qe)
   (qb (q4T PassesOwn.leaving (qv q6v (pv 4) (qy (lenK K) rfl T.wm q0g (qa (pv 3) qc)) (qr _)) (qb (qx (i:=5) q07.nd rfl (Or.inl rfl) (qk (qL K) (pv 3) (pv 4) (fun _ _=>rfl)))
   (qb (qbr (i:=4) q07.nd rfl (Or.inl rfl) qe q97)
   (qb (qx (i:=6) q07.nd rfl (Or.inl rfl) (qH wac hr (by decide) rfl (qa (pv 0) (qa (pv 5) qc))))
   (qb (q27 (q0E hr) (pv 2) (pv 5) (pv 6) rfl)
   (qb (ps_nox (q0u PassesOwn.never rfl (q09 K (pv 6)) (q0y (n:=2) K rfl (qw (qp (i:=7) q07.nd rfl (Or.inl rfl)) (qw (qp (i:=8) q07.nd rfl (Or.inl rfl)) q0x))) (qg (q02 (q26 (q3S (q0E hr) (pv 8) (pv 2))) (qb (q27 (q0E hr) (pv 2) (pv 8) (q0P qc) rfl)
   (qg (qN (q2A zF zN zO qS (pv 3) (qa (pv 8) qc))))) qz))))
   (qg (q02 (qv q3m (qy (lenK K) rfl T.wm q0g (qa (pv 3) qc)) (qt (v:= .int 300) rfl wH ⟨_,rfl⟩) (qr _)) (qg (qad q8q rfl rfl TX.wae TX.wbm (qa (qcs (.cons qJ (.cons (pe_fm (qt (v:= .int 300) rfl wH ⟨_,rfl⟩)) (.cons qJ (.cons (pe_ft hr.gd (hu8_of hr) (pv 1)) .nil))))) qc))) qz))))))))
   (qg (qq (pv 2))))))),?_⟩
  walk_at "r"
  intro D hD
  have s1:=Same.upd (o:= .dT []) hD
  have h1:=qd (H:=H) (a:=D) (o:= .dT [])
  generalize upd H D (.dT [])=H1 at s1 h1 ⊢
  walk_at "r"
  intro e0 he0
  have s2:=s1.trans (Same.upd (o:= .lst []) he0)
  have h2:=(Same.upd (o:= .lst []) he0) _ _ h1
  generalize upd H1 e0 (.lst [])=H2 at s2 h2 ⊢
  refine⟨q,st.key,rfl,h2,s2 _ _ hq,?_⟩
  have s3:Same H (upd H2 D (.dT [(st.key,V.ref e0)])):=s2.put hD
  have d3:DAtS (upd H2 D (.dT [(st.key,V.ref e0)])) D [(st,V.ref e0)]:=qd
  generalize upd H2 D (.dT [(st.key,V.ref e0)])=H3 at s3 d3 ⊢
  walk_at "r"
  intro R hR3
  have hR:H R=none:=s3.free hR3
  have s4:=s3.trans (Same.upd (o:= .lst [.ref q]) hR3)
  have d4:DAtS (upd H3 R (.lst [.ref q])) D [(st,V.ref e0)]:=(Same.upd (o:= .lst [.ref q]) hR3) _ _ d3
  have hR4:=qd (H:=H3) (a:=R) (o:= .lst [.ref q])
  generalize upd H3 R (.lst [.ref q])=H4 at s4 d4 hR4 ⊢
  walk_at "r"
  refine q6s (fun m σ H'=>∃(row:List Sd) (ls:List Addr) (pl:Nat) (v5 v6 v7 v8:Option V),σ=[some (.ref c),some (.ref q),some (.ref D),some (.ref R),some (.int pl),v5,v6,v7,v8]/\Same H H'/\qG SAt H' R row/\DAtS H' D (lkD row ls)/\WkD C R H' row ls pl/\Srch (NxR C) st row pl/\pl<=row.length/\row.length<=300/\m=2000 - pl) (2000 - 0)
   ⟨[st],[e0],0,none,none,none,none,rfl,s4,⟨[q],hR4,Rows.nil.snoc (s4 _ _ hq)⟩,d4,⟨rfl,fun i z=>absurd z (zbO i)⟩,Srch.start,by simp,by simp,rfl⟩ ?_
  rintro m σ H5 ⟨row,ls,pl,v5,v6,v7,v8,rfl,s5,⟨qs,hqs,rqs⟩,hd5,hk,sr,hpl,hrl,hm⟩
  have hql:qs.length=row.length:=rqs.1
  walk_at "r"
  rw[yC,hql]
  refine ifd (fun hlt=>?_) (fun hge=>?_)
  ·have hlt':pl<row.length:=by omega
   obtain⟨p,ep,hp5⟩:=rqs.get hlt'
   generalize hx:row[pl]=x at hp5
   have hrx:row[pl]? =some x:=by rw[yB hlt',hx]
   have hxr:x∈row:=zQ hrx
   have hp5:SAt H5 p x:=hp5
   have xok:x.ok C:=q6E ok sok (sr.rch x hxr)
   have hfl:=q2U ok x
   refine⟨fun σ' H'=>∃(row:List Sd) (ls:List Addr) (v6 v7 v8:Option V),σ'=[some (.ref c),some (.ref q),some (.ref D),some (.ref R),some (.int ((pl:Int)+1)),some (.ref p),v6,v7,v8]/\Same H H'/\qG SAt H' R row/\DAtS H' D (lkD row ls)/\WkD C R H' row ls (pl+1)/\Srch (NxR C) st row (pl+1)/\pl+1<=row.length/\row.length<=300,?_,?_⟩
   ·rintro σ' H' ⟨row,ls,v6,v7,v8,rfl,z1,z2,z3,z4,z5,z6,z7⟩
    exact⟨2000 - (pl+1),by omega,row,ls,pl+1,some (.ref p),v6,v7,v8,rfl,z1,z2,z3,z4,z5,z6,z7,rfl⟩
   ·walk_at "r"
    refine⟨c,p,C,x,rfl,hC.mono s5.ts,ok,hp5,xok,fun lp H6 s6 hl0 m6=>?_⟩
    obtain⟨ps,hps,rps⟩:=m6
    have s06:=s5.trans s6
    have hd6:DAtS H6 D (lkD row ls):=s6 _ _ hd5
    have neR:lp≠R:=fun z=>by subst z;rw[hl0] at hqs;cases hqs
    have neD:lp≠D:=fun z=>by rw[z,show H5 D=some _ from hd5] at hl0;cases hl0
    have hll:=q1R hk.1
    walk_at "r"
    refine⟨D,_,rfl,dput_o hd6 (s6 _ _ hp5) (by omega) (by rw[q1e hk.1];exact hxr),?_⟩
    rw[qcN hk.1 sr.nd hrx]
    have ts7:=q52 (o:= .dT (dkv (lkD row (ls.set pl lp)))) hd6
    have s07:Same H (upd H6 D (.dT (dkv (lkD row (ls.set pl lp))))):=s06.put hD
    have d7:DAtS (upd H6 D (.dT (dkv (lkD row (ls.set pl lp))))) D (lkD row (ls.set pl lp)):=qd
    have l7:upd H6 D (.dT (dkv (lkD row (ls.set pl lp)))) lp=some (.lst (ps.map V.ref)):=by rw[qj neD];exact hps
    have R7:upd H6 D (.dT (dkv (lkD row (ls.set pl lp)))) R=some (.lst (qs.map V.ref)):=by rw[qj (q2R (s6 _ _ hqs) hd6 (by intro z;cases z))];exact s6 _ _ hqs
    have k7:=((hk.mono fun _ _ _ z=>PrL.dput (o:= .dT (dkv (lkD row (ls.set pl lp)))) hd6 (PrL.same s6 z)).set hrx neR ⟨ps,l7,rps.mono fun _ _=>PrAt.mono ts7⟩)
    generalize upd H6 D (.dT (dkv (lkD row (ls.set pl lp))))=H7 at ts7 s07 d7 l7 R7 k7 ⊢
    have ts67:=s6.ts.trans ts7
    walk_at "r"
    refine q3z (ps.map V.ref) (fun i σ' H'=>∃(row:List Sd) (ls:List Addr) (v7 v8:Option V),σ'=[some (.ref c),some (.ref q),some (.ref D),some (.ref R),some (.int ((pl:Int)+1)),some (.ref p),some (.ref lp),v7,v8]/\Same H H'/\H' lp=some (.lst (ps.map V.ref))/\Rows (PrAt C x) H' ps (fitD C x)/\qG SAt H' R row/\DAtS H' D (lkD row ls)/\WkD C R H' row ls (pl+1)/\Mid (NxR C) st x row pl ((nx C x).take i)/\row.length<=300+i)
     ⟨row,ls.set pl lp,v7,v8,rfl,s07,l7,rps.mono fun _ _=>PrAt.mono ts7,⟨qs,R7,rqs.mono fun _ _=>SAt.mono ts67⟩,d7,k7,sr.mid hrx,hrl⟩ ?_ ?_ ?_
    ·rintro i σ' H' ⟨_,_,_,_,rfl,_,e,_⟩
     exact SqL.of e
    ·rintro i z σ' H8 hz ⟨row,ls,v7,v8,rfl,s8,l8,rps8,⟨qs,hqs,rqs⟩,hd8,hk,md,hrl⟩
     have hi:i<(fitD C x).length:=by have:=(yA hz).1;rw[yC,rps.1] at this;exact this
     obtain⟨p',ep',hp8⟩:=rps8.get hi
     rw[hz] at ep'
     cases ep'
     obtain⟨t,r,e8,_,hr8⟩:=hp8
     have hi':i<(nx C x).length:=by unfold nx;rw[yC];exact hi
     have ey:q1X C x (fitD C x)[i].1 ((fitD C x)[i].2:Int)=(nx C x)[i]:=by simp[nx]
     rw[ey] at hr8
     have hy:NxR C x (nx C x)[i]:=zU hi'
     rw[zh hi']
     generalize (nx C x)[i]=y at hr8 hy ⊢
     have hr8:SAt H8 r y:=hr8
     have hll:=q1R hk.1
     intro D2 hn2 hc2 hb2 hr2
     walk_at "r"
     refine⟨D,_,rfl,q2V (.inl hd8) hr8,?_⟩
     rw[q2l,q1e hk.1]
     walk_at "r"
     by_cases hin:y∈row
     ·rw [zu hin]
      walk_at "r"
      exact hn2 _ _ ⟨row,ls,_,_,rfl,s8,l8,rps8,⟨qs,hqs,rqs⟩,hd8,hk,md.old hin,by omega⟩
     ·rw [zn hin]
      walk_at "r"
      intro e1 he1
      have s9:=Same.upd (o:= .lst []) he1
      generalize upd H8 e1 (.lst [])=H9 at s9 ⊢
      have hd9:DAtS H9 D (lkD row ls):=s9 _ _ hd8
      have hqs9:=s9 _ _ hqs
      have neRD:R≠D:=q2R hqs9 hd9 (by intro z;cases z)
      walk_at "r"
      refine⟨D,_,rfl,q44 hd9 (s9 _ _ hr8) (by omega) (by rw[q1e hk.1];exact hin),?_⟩
      rw[<-q4U hk.1]
      have ts10:=q52 (o:= .dT (dkv (lkD (row++[y]) (ls++[e1])))) hd9
      have s10:Same H (upd H9 D (.dT (dkv (lkD (row++[y]) (ls++[e1]))))):=(s8.trans s9).put hD
      have d10:DAtS (upd H9 D (.dT (dkv (lkD (row++[y]) (ls++[e1]))))) D (lkD (row++[y]) (ls++[e1])):=qd
      have l10:upd H9 D (.dT (dkv (lkD (row++[y]) (ls++[e1])))) lp=some (.lst (ps.map V.ref)):=by rw[qj neD];exact s9 _ _ l8
      have k10:=hk.mono fun _ _ _ z=>PrL.dput (o:= .dT (dkv (lkD (row++[y]) (ls++[e1])))) hd9 (PrL.same s9 z)
      have R10:upd H9 D (.dT (dkv (lkD (row++[y]) (ls++[e1])))) R=some (.lst (qs.map V.ref)):=by rw[qj neRD];exact hqs9
      generalize upd H9 D (.dT (dkv (lkD (row++[y]) (ls++[e1]))))=H10 at ts10 s10 d10 l10 R10 k10 ⊢
      have ts810:=s9.ts.trans ts10
      walk_at "r"
      refine q34 R10 (by rw[yC,rqs.1];omega) ?_
      exact hn2 _ _ ⟨row++[y],ls++[e1],_,_,rfl,s10.put hR,by rw[qj neR];exact l10,rps8.mono fun _ _ h=>PrAt.mono (ts810.trans (q0p.lst R10)) h,qM (fun _ _=>SAt.put R10) (rqs.mono fun _ _=>SAt.mono ts810) (SAt.mono ts810 hr8),DAtS.lput R10 d10,(k10.mono fun _ _ n z=>PrL.put R10 n z).snoc (yA md.at').1,md.new hin hy,by rw[zm,zb5];omega⟩
    ·rintro σ' H8 ⟨row,ls,v7,v8,rfl,s8,l8,rps8,⟨qs,hqs,rqs⟩,hd8,hk,md,hrl⟩
     have hql:qs.length=row.length:=rqs.1
     rw[yC,rps.1,show(fitD C x).length=(nx C x).length by simp[nx],zL] at md
     walk_at "r"
     rw[yC,hql]
     refine ifd (fun hgt=>?_) (fun hle=>?_)
     ·walk_at "r"
      refine qcg ?_
      walk_at "r"
      refine jc (by walk_at "k") (by omega) fun m2 h2=>?_
      refine jfi (sml_in (n:=300) (by omega) (by omega)) (by omega) (fun K h=>h) fun m3 h3=>?_
      refine jc (by walk_at "k") (by omega) fun m4 h4=>?_
      refine jft (s8 _ _ hq) (by simp[Sd.vs]) sh (n:=m4) (by omega) (fun K h=>⟨_,rfl,h⟩) fun m5 h5=>?_
      refine jn fun y hy=>?_
      walk_at "r"
      exact ke row _ s8 md.nd md.rch (by omega)
     walk_at "r"
     exact⟨row,ls,_,_,_,rfl,s8,⟨qs,hqs,rqs⟩,hd8,hk,md.next fun y hy=>hy,(yA md.at').1,by omega⟩
  ·walk_at "r"
   exact k D row ls H5 s5 hD hd5 ⟨hk.1,fun i p x h1 h2=>(hk.2 i (by have:=(yA h2).1;omega) p x h1 h2).2⟩ sr.nd hrl (sr.end (by omega))
end
def q4H:Sp:=fun vs H Q _=>∃(c q:Addr) (C:Cl) (s:Sd) (kd:Int),vs=[.ref c,.ref q,.int kd]/\ClAt H c C/\ClOk C/\SAt H q s/\∀H',Same H H'->Q (.int (hold C s.tk s.op kd)) H'
def q8d:Sp:=fun vs H Q _=>∃(c q:Addr) (C:Cl) (s:Sd) (i:Nat) (x:Way),vs=[.ref c,.ref q,.int i]/\ClAt H c C/\ClOk C/\SAt H q s/\C.ways[i]? =some x/\∀H',Same H H'->Q (.bl (q3W x.g (hold C s.tk s.op) (bit s.op i) s.b s.wt)) H'
theorem q4y (x:Int)(t:Nat):Builtin.bitAnd (x / 2 ^ t) 1=if bit x t=true then 1 else 0:=by
 have a:=q2m x t
 have b:=q4z x t
 cases h:bit x t with
 |true=>rw[h] at a;rw[zi rfl];exact za4 a
 |false=>rw[h] at b;rw[zd zl];exact za4 b
section
variable {P:Program}{w:World}{K:W.Frag}{mg:Str->Option Value}{base:Heap}{cs:Cs}
local macro_rules| `(tactic| walk_at "wk")=> `(tactic| repeat (first|walk_at "rd1" |(refine ifd (fun h=>absurd h (by decide)) (fun _=>?_))|(refine ifd (fun _=>?_) (fun h=>absurd (by decide) h))))
theorem q8Q (T:Txt mg cs)(L:Laid K mg "_law_amount" q0W ["_law_cave_here","_law_stand","_law_kind"]):Cal P w K mg base 1 "_law_amount" ["_law_cave_here","_law_stand","_law_kind"] q4H:=by
 refine L.cal (k:=0) q0m (fun vs H Q E h=>?_) (fun f cdv A outer s H vs Q E hr h=>?_)
 ·obtain ⟨c,q,C,st,kd,rfl,_⟩:=h
  rfl
 ·obtain ⟨c,q,C,st,kd,rfl,hC,ok,hq,k⟩:=h
  obtain⟨pw,pt,pl,pv',h0,h1,h2,_⟩:=hC.ex
  obtain⟨wv,hw,hwl,hwg⟩:=h1.get
  obtain⟨tv,ht,htl,htg⟩:=h2.get
  have hq:H q=some (.tup [.int st.rm,.int st.tk,.int st.op,.int st.b,.int st.wt]):=hq
  have big:=qF
  have hu:=zbh (qcW hr)
  have okw:=ok.wl
  have okt:=ok.tl
  have htl2:(tv.length:Int)<=8:=by omega
  have hwl2:(wv.length:Int)<=20:=by omega
  refine⟨_,(qb (qx (i:=3) q0m.nd rfl (Or.inl rfl) qe)
   (qb (q0u PassesOwn.never rfl (q08 rfl T.wu (qa (qy (lenK K) rfl T.wm q0g (qa (qk (qh K) (pv 0) qe (fun _ _=>rfl)) qc)) qc)) (qp (i:=4) q0m.nd rfl (Or.inl rfl)) (qg (qx (i:=3) q0m.nd rfl (Or.inl rfl) (qm q03 (pv 3) (qm q5U (q0j int1 rfl T.vO q6a (qa (qR q0f (qk (qh K) (qk (qh K) (qk (qh K) (pv 0) qe (fun _ _=>rfl)) (pv 4) (fun _ _=>rfl)) qe (fun _ _=>rfl)) (pv 2) (qr _)) qc)) (qm q4u (qm q4t (qk (qh K) (pv 1) qe (fun _ _=>rfl)) (pv 4)) qe))))))
   (qb (q0u PassesOwn.never rfl (q08 rfl T.wu (qa (qy (lenK K) rfl T.wm q0g (qa (qk (qh K) (pv 0) qe (fun _ _=>rfl)) qc)) qc)) (qp (i:=4) q0m.nd rfl (Or.inl rfl)) (qg (qx (i:=3) q0m.nd rfl (Or.inl rfl) (qm q2a (pv 3) (qm q5U (q0j int1 rfl T.vO q6a (qa (qR (qcv K hu) (qk (qh K) (qk (qh K) (qk (qh K) (pv 0) qe (fun _ _=>rfl)) (pv 4) (fun _ _=>rfl)) qe (fun _ _=>rfl)) (qC (qa qJ (qa (pv 2) qc))) (qr _)) qc)) (qm q4u (qm q4t (qk (qh K) (pv 1) qe (fun _ _=>rfl)) (pv 4)) qe))))))
   (qg (qq (pv 3)))))),?_⟩
  walk_at "r"
  refine q42 (fun i σ H'=>∃v4,σ=[some (.ref c),some (.ref q),some (.int kd),some (.int (cnt (tP C st.tk kd) i:Int)),v4]/\H'=H) ⟨none,rfl,rfl⟩ ?_ ?_
  ·rintro i σ H' hi ⟨v4,rfl,rfl⟩
   have hi2:i<C.things.length:=by rw[<-htl];simpa using hi
   obtain⟨p2,hx,hp2⟩:=htg i hi2
   have step:=q9D (C:=C) (tk:=st.tk) (k:=kd) hi2
   have hp3:H' p2=_:=hp2
   walk_at "r"
   refine⟨some (.int (0+(i:Nat))),?_,rfl⟩
   rw[zaO (i:Int),zk,q4y,step]
   show [_,_,_,some (V.int (_+_)),_]=_
   congr 5
   by_cases e1:C.things[i].2=kd
   ·rw [zi (zu e1),zb0,zi e1.symm]
   ·rw [zd (by simpa using e1),Int.zero_mul,zd (show¬kd=C.things[i].2 from fun z=>e1 z.symm)]
    split<;>rfl
  ·rintro σ H' ⟨v4,rfl,rfl⟩
   have e1:(↑tv.length:Int).toNat=C.things.length:=by rw[zk,htl]
   rw[e1]
   walk_at "r"
   refine q42 (fun i σ H2=>∃v4,σ=[some (.ref c),some (.ref q),some (.int kd),some (.int ((cnt (tP C st.tk kd) C.things.length:Int) - (cnt (dP (dsOf C) st.op kd) i:Int))),v4]/\Same H' H2) ⟨v4,by rw[show(cnt (dP (dsOf C) st.op kd) 0:Int)=0 from rfl,Int.sub_zero],Same.refl _⟩ ?_ ?_
   ·rintro i σ H2 hi ⟨v4,rfl,s2⟩
    have hi2:i<C.ways.length:=by rw[<-hwl];simpa using hi
    obtain⟨p2,hx,g2,hp2,hg2⟩:=hwg i hi2
    have hp3:=s2 _ _ hp2
    have hg3:=s2 _ _ hg2
    have h0c:=s2 _ _ h0
    have hwc:=s2 _ _ hw
    have step:=q9F (C:=C) (op:=st.op) (k:=kd) hi2
    walk_at "r"
    intro t5 ht5
    have s5:Same H2 (upd H2 t5 (.tup [.str "door",.int kd])):=Same.upd ht5
    have hq5:=(s2.trans s5) _ _ hq
    refine⟨g2,t5,_,_,rfl,rfl,SqT.of (s5 _ _ hg3),SqT.of qd,Gt.flat _,rfl,?_⟩
    rw[qd3]
    walk_at "r"
    refine⟨some (.int (0+(i:Nat))),?_,s2.trans s5⟩
    rw[zaO (i:Int),zk,q4y,step]
    show [_,_,_,some (V.int (_ - _)),_]=_
    congr 5
    by_cases e1:C.ways[i].g.dk=some kd
    ·rw [zi (zu e1),zb0,zi e1,Int.sub_sub]
    ·rw [zd (by simpa using e1),Int.zero_mul,zd e1,Int.sub_zero]
     split<;>rw[Int.add_zero]
   ·rintro σ H2 ⟨v4,rfl,s2⟩
    have e2:(↑wv.length:Int).toNat=C.ways.length:=by rw[zk,hwl]
    rw[e2]
    walk_at "r"
    exact k H2 s2
theorem qay (T:Txt mg cs)(L:Laid K mg "_law_lets" q1v ["_law_cave_here","_law_stand","_law_k"])(wy:Cal P w K mg base 1 "_law_amount" ["_law_cave_here","_law_stand","_law_kind"] q4H):Cal P w K mg base 2 "_law_lets" ["_law_cave_here","_law_stand","_law_k"] q8d:=by
 refine L.cal (k:=1) q3c (fun vs H Q E h=>?_) (fun f cdv A outer s H vs Q E hr h=>?_)
 ·obtain ⟨c,q,C,st,i,x,rfl,_⟩:=h
  rfl
 ·obtain ⟨c,q,C,st,i,x,rfl,hC,ok,hq,hx,k⟩:=h
  obtain⟨pw,pt,pl,pv',h0,h1,_⟩:=hC.ex
  obtain⟨wv,hw,hwl,hwg⟩:=h1.get
  have hi:i<C.ways.length:=(yA hx).1
  have ex:C.ways[i]=x:=(yA hx).2
  obtain⟨p2,hxp,g2,hp2,hg2⟩:=hwg i hi
  have hxa:atI wv (i:Int)=some (.ref p2):=q0n hxp
  have okx:=ok.w x (zQ hx)
  rw[ex] at hp2 hg2
  have hq':H q=some (.tup [.int st.rm,.int st.tk,.int st.op,.int st.b,.int st.wt]):=hq
  refine⟨_,(qb (qx (i:=3) q3c.nd rfl (Or.inl rfl) (qk (qh K) (qk (qh K) (qk (qh K) (pv 0) qe (fun _ _=>rfl)) (pv 2) (fun _ _=>rfl)) qe (fun _ _=>rfl)))
   (qb (q02 (qv q0f (qk (qh K) (pv 3) qe (fun _ _=>rfl)) qJ (qr _)) (qg (qq (qR q0f (qm q4u (qm q4t (qk (qh K) (pv 1) qe (fun _ _=>rfl)) (pv 2)) qe) qe (qr _)))) qz)
   (qb (q02 (qv q0f (qk (qh K) (pv 3) qe (fun _ _=>rfl)) qJ (qr _)) (qg (qq (qR q3m (qH wy hr (by decide) rfl (qa (pv 0) (qa (pv 1) (qa (qk (qh K) (pv 3) qe (fun _ _=>rfl)) qc)))) qe (qr _)))) qz)
   (qb (q02 (qv q0f (qk (qh K) (pv 3) qe (fun _ _=>rfl)) qJ (qr _)) (qg (qq (qR q0f (qm q4u (qm q4t (qk (qh K) (pv 1) qe (fun _ _=>rfl)) (qk (qh K) (pv 3) qe (fun _ _=>rfl))) qe) qe (qr _)))) qz)
   (qb (q02 (qv q0f (qk (qh K) (pv 3) qe (fun _ _=>rfl)) qJ (qr _)) (qg (qq (qak (qR qap (qk (qh K) (pv 1) qe (fun _ _=>rfl)) (qk (qh K) (pv 3) qe (fun _ _=>rfl)) (qr _)) (q2r (qR q3m (qH wy hr (by decide) rfl (qa (pv 0) (qa (pv 1) (qa (qk (qh K) (pv 3) qe (fun _ _=>rfl)) qc)))) qe (qr _)))))) qz)
   (qg (qq (qak (qR q0f (qk (qh K) (pv 3) qe (fun _ _=>rfl)) qJ (qr _)) (q2r (qR qcu (qk (qh K) (pv 1) qe (fun _ _=>rfl)) (qk (qh K) (pv 3) qe (fun _ _=>rfl)) (qr _))))))))))),?_⟩
  walk_at "r"
  have gok:=okx.2.2.2
  have held:∀(kd:Int) (Q':VK),(∀H',Same H H'->Q' (.int (hold C st.tk st.op kd)) H')->q4H [.ref c,.ref q,.int kd] H Q' E0:=fun kd Q' q'=>⟨c,q,C,st,kd,rfl,hC,ok,hq,q'⟩
  cases eg:x.g with
  |plain=>
   rw[eg] at hg2 k
   have hg5:H g2=some (.tup [.str "plain"]):=hg2
   walk_at "wk"
   exact k H (Same.refl _)
  |door kd=>
   rw[eg] at hg2 k
   have hg5:H g2=some (.tup [.str "door",.int kd]):=hg2
   walk_at "wk"
   rw[zk,q2m]
   exact k H (Same.refl _)
  |need kd=>
   rw[eg] at hg2 k
   have hg5:H g2=some (.tup [.str "need",.int kd]):=hg2
   walk_at "wk"
   refine held kd _ fun H4 s4=>?_
   walk_at "wk"
   exact k H4 s4
  |bar kd=>
   rw[eg] at hg2 gok k
   have hg5:H g2=some (.tup [.str "bar",.int kd]):=hg2
   have gok:0<=kd/\kd<8:=gok
   walk_at "wk"
   rw[q2m]
   exact k H (Same.refl _)
  |float h=>
   rw[eg] at hg2 k
   have hg5:H g2=some (.tup [.str "float",.int h]):=hg2
   walk_at "wk"
   exact k H (Same.refl _)
  |wade h kd=>
   rw[eg] at hg2 k
   have hg5:H g2=some (.tup [.str "wade",.int h,.int kd]):=hg2
   walk_at "wk"
   refine ifd (fun hw=>?_) (fun hw=>?_)
   ·walk_at "r"
    have:=k H (Same.refl _)
    rwa [show q3W (.wade h kd) (hold C st.tk st.op) (bit st.op i) st.b st.wt=true by simp[q3W,hw]] at this
   ·walk_at "r"
    refine held kd _ fun H4 s4=>?_
    walk_at "r"
    have:=k H4 s4
    rwa [show q3W (.wade h kd) (hold C st.tk st.op) (bit st.op i) st.b st.wt=decide (0<hold C st.tk st.op kd) by simp[q3W,hw]] at this
theorem gt_at (gt:Gt):atI gt.vs 0=some (.str gt.word):=by cases gt<;>rfl
theorem gt_dr (gt:Gt):decide (gt.word="door")=gt.dk.isSome:=by cases gt<;>first|rfl|decide
def canR (C:Cl)(s:Sd)(d:Wd)(n:Nat):List (Wd×Nat):=(rowD d n).filter fun x=>canB C s x.2 x.1
theorem q2d (C:Cl)(s:Sd)(d:Wd)(n:Nat):canR C s d (n+1)=canR C s d n++(if canB C s n d=true then [(d,n)] else []):=by
 unfold canR
 rw[q5Q,zat,List.filter_cons]
 rfl
theorem q0M (C:Cl)(s:Sd)(d:Wd)(n:Nat):(canR C s d n).length<=n:=zaf (zaw _ _) (by rw[q3t];omega)
theorem qd1 {C:Cl}{s:Sd}(h:¬s.rm=C.lst):fitD C s=canR C s .go C.ways.length++canR C s .pull C.levers.length++canR C s .take C.things.length++canR C s .turn C.wheels.length++canR C s .unlock C.ways.length:=by
 have e:(fun x:Wd×Nat=>canD C s x.1 (x.2:Int))=fun x=>canB C s x.2 x.1:=by funext x;exact q9L h
 unfold fitD allD canR
 rw[e,zat,zat,zat,zat]
theorem q9l {C:Cl}{s:Sd}(h:s.rm=C.lst):fitD C s=[]:=by
 unfold fitD
 exact List.filter_eq_nil_iff.mpr fun x _=>by rw[q66 h];decide
theorem can_go {C:Cl}{s:Sd}{i:Nat}{x:Way}(h:C.ways[i]? =some x):canB C s i .go=(q0R x s.rm&&q3W x.g (hold C s.tk s.op) (bit s.op i) s.b s.wt):=by simp only[canB,h]
theorem q9K {C:Cl}{s:Sd}{i:Nat}{x:Way}{k:Int}(h:C.ways[i]? =some x)(hg:x.g= .door k):canB C s i .unlock=((q0R x s.rm&& !bit s.op i)&&decide (0<hold C s.tk s.op k)):=by simp only[canB,h,hg,Gt.dk]
theorem q6G {C:Cl}{s:Sd}{i:Nat}{x:Way}(h:C.ways[i]? =some x)(hg:∀k,x.g≠ .door k):canB C s i .unlock=false:=by
 simp only[canB,h]
 cases e:x.g<;>first|rfl|exact absurd e (hg _)
theorem q3f {α:Type}{At:Hp->Addr->α->Prop}{H H':Hp}{l:Addr}{xs:List α}(m:∀p x,At H p x->At H' p x)(s:Same H H')(h:qG At H l xs):qG At H' l xs:=let ⟨ps,a,b⟩:=h;⟨ps,s _ _ a,b.mono m⟩
theorem no_un {C:Cl}{s:Sd}{i:Nat}{x:Way}(h:C.ways[i]? =some x)(he:q0R x s.rm=false):canB C s i .unlock=false:=by
 by_cases hd:∃kd,x.g= .door kd
 ·obtain ⟨kd,hd⟩:=hd
  rw[q9K h hd,he]
  rfl
 ·exact q6G h fun kd z=>hd ⟨kd,z⟩
theorem qa4 {α:Type}{At:Hp->Addr->α->Prop}{H:Hp}{ps qs:List Addr}{xs ys:List α}(h1:Rows At H ps xs)(h2:Rows At H qs ys):Rows At H (ps++qs) (xs++ys):=by
 refine⟨by rw[zm,zm,h1.1,h2.1],fun i p x hp hx=>?_⟩
 by_cases hi:i<ps.length
 ·rw [zA hi] at hp
  rw[zA (by rw[<-h1.1];exact hi)] at hx
  exact h1.2 i p x hp hx
 ·rw [zS (by omega)] at hp
  rw[zS (by rw[<-h1.1];omega),<-h1.1] at hx
  exact h2.2 _ p x hp hx
theorem qde {α:Type}{At:Hp->Addr->α->Prop}(mo:∀{H H':Hp},q0p H H'->∀p x,At H p x->At H' p x){H:Hp}{Q:VK}{p q:Addr}{xs ys:List α}(h1:qG At H p xs)(h2:qG At H q ys)(hl:xs.length+ys.length<=1000)(k:∀(r:Addr) (H':Hp),Same H H'->H r=none->qG At H' r (xs++ys)->Q (.ref r) H'):rCat (.ref p) (.ref q) H Q:=by
 obtain⟨ps,hp,rp⟩:=h1
 obtain⟨qs,hq,rq⟩:=h2
 have big:=qF
 refine⟨p,q,_,_,rfl,rfl,hp,hq,by rw[yC,yC,rp.1,rq.1];omega,fun r hr=>?_⟩
 have s:=Same.upd (o:= .lst (ps.map V.ref++qs.map V.ref)) hr
 exact k r _ s hr ⟨ps++qs,by rw[zR];exact qd,(qa4 rp rq).mono (mo s.ts)⟩
def PrF (C:Cl)(F:Sd->List (Wd×Nat))(H:Hp)(l:Addr)(x:Sd):Prop:=qG (PrAt C x) H l (F x)
theorem PrF.same {C:Cl}{F:Sd->List (Wd×Nat)}{H H':Hp}{l:Addr}{x:Sd}(s:Same H H')(h:PrF C F H l x):PrF C F H' l x:=let ⟨ps,h1,h2⟩:=h;⟨ps,s _ _ h1,h2.mono fun _ _=>PrAt.mono s.ts⟩
def nxF (C:Cl)(F:Sd->List (Wd×Nat))(s:Sd):List Sd:=(F s).map fun x=>q1X C s x.1 (x.2:Int)
def spLk:Sp:=fun vs H Q _=>∃(a:Addr) (C:Cl) (F:Sd->List (Wd×Nat)) (o:Obj) (ss:List Sd) (ls:List Addr),vs=[.ref a]/\(∀x,(F x).length<=56)/\H a=some (.frz o (.dT (dkv (lkD ss ls))))/\Rows (PrF C F) H ls ss/\ss.Nodup/\ss.length<=1000/\
 ∀(t:Addr) (ls':List Addr) (H':Hp),Same H H'->H t=none->DAtS H' t (lkD ss ls')->Rows (LAt (nxF C F)) H' ls' ss->Q (.ref t) H'
theorem qax (T:Txt mg cs)(L:Laid K mg "links_of" q1k ["walk"]):Cal P w K mg base 1 "links_of" ["walk"] spLk:=by
 refine L.cal (k:=0) q1o (fun vs H Q E h=>?_) (fun f cdv A outer s H vs Q E hr h=>?_)
 ·obtain ⟨a,C,F,o,ss,ls,rfl,_⟩:=h
  rfl
 ·obtain ⟨a,C,F,o,ss,ls,rfl,hF,ha,hrw,nd,hln,k⟩:=h
  have big:=qF
  have hll:ls.length=ss.length:=hrw.1
  have hkl:(dkv (lkD ss ls)).length=ss.length:=by rw[show(dkv (lkD ss ls)).length=(lkD ss ls).length by simp[dkv],q1R hll]
  refine⟨_,(qb (qx (i:=1) q1o.nd rfl (Or.inl rfl) q3v)
   (qb (q0u PassesOwn.never rfl (qbt K (pv 0)) (q0y (n:=2) K rfl (qw (qp (i:=2) q1o.nd rfl (Or.inl rfl)) (qw (qp (i:=3) q1o.nd rfl (Or.inl rfl)) q0x))) (qg (q27 (q0E hr) (pv 1) (pv 2) (q1P (q0G (N:=["deed","other"]) (own:=2) (caps:=[]) ["walk","links","stand","pairs"] (qf q1k) (by walk_at "k")) rfl (q09 K (pv 3)) (fun _ _ _ _=>(q0y (n:=2) K rfl (qw (qp (i:=0) (show List.Nodup (["deed","other"]:List Str) by walk_at "k") rfl (Or.inl rfl)) (qw (qp (i:=1) (show List.Nodup (["deed","other"]:List Str) by walk_at "k") rfl (Or.inl rfl)) q0x)))) (fun _ _ _ _=>q1W) (fun _ _ _ _=>(pv 1))) rfl)))
   (qg (qq (pv 1))))),?_⟩
  walk_at "r"
  intro D hD
  have d1:DAtS (upd H D (.dT [])) D []:=qd
  have s1:=Same.upd (o:= .dT []) hD
  generalize upd H D (.dT [])=H1 at d1 s1 ⊢
  have ha1:=s1 _ _ ha
  walk_at "r"
  refine⟨a,o,_,rfl,ha1,?_⟩
  refine qbH (fun i σ H'=>∃v2 v3 ls',σ=[some (.ref a),some (.ref D),v2,v3]/\Same H H'/\DAtS H' D (lkD (ss.take i) ls')/\Rows (LAt (nxF C F)) H' ls' (ss.take i)) ⟨none,none,[],rfl,s1,d1,Rows.nil⟩ ?_ ?_ ?_
  ·rintro i σ H' ⟨_,_,_,rfl,s3,_⟩
   exact s3 _ _ ha
  ·rintro i b T' p σ H' hp hb hT ⟨v2,v3,ls',rfl,s3,hd,hr3⟩
   obtain⟨x,l,hx,hl,rfl⟩:=q45 hll hp
   have hi:i<ss.length:=(yA hx).1
   have ex:ss[i]=x:=(yA hx).2
   have hb':SAt H' b x:=hb
   have s4:=Same.upd (o:= .tup [.ref b,.ref l]) hT
   have h4:=qd (H:=H') (a:=T') (o:= .tup [.ref b,.ref l])
   show _
   generalize upd H' T' (.tup [.ref b,.ref l])=H4 at s4 h4 ⊢
   have s34:=s3.trans s4
   obtain⟨ps,hps,rps⟩:=PrF.same s34 (hrw.2 i l x hl hx)
   have hfl:=hF x
   have et:ss.take (i+1)=ss.take i++[x]:=by rw[zh hi,ex]
   have hnx:x∉ss.take i:=fun h=>by
    have:=nd.sublist (z8 (i+1) ss)
    rw[et,zaJ] at this
    exact this.2.2 _ h _ (by simp) rfl
   walk_at "r"
   intro D2 hD2'
   refine q0L (ps.map V.ref) (fun j σ H''=>∃v0 v1,σ=[v0,v1]/\Same H4 H''/\qG SAt H'' D2 ((nxF C F x).take j)) ⟨none,none,rfl,Same.upd hD2',[],qd,Rows.nil⟩ ?_ ?_ ?_
   ·rintro j σ H'' ⟨_,_,rfl,s5,_⟩
    exact SqL.of (s5 _ _ hps)
   ·rintro j z σ H5 hz ⟨v0,v1,rfl,s5,qs,hqs,rqs⟩
    have hj:j<(F x).length:=by have:=(yA hz).1;rw[yC,rps.1] at this;exact this
    obtain⟨p,ep,hp⟩:=rps.get hj
    rw[hz] at ep
    cases ep
    obtain⟨t,r,e5,_,hr5⟩:=PrAt.mono s5.ts hp
    have hj':j<(nxF C F x).length:=by unfold nxF;rw[yC];exact hj
    have ey:q1X C x (F x)[j].1 ((F x)[j].2:Int)=(nxF C F x)[j]:=by simp[nxF]
    rw[ey] at hr5
    walk_at "r"
    refine⟨_,hqs,by rw[yC,rqs.1,zo];omega,_,_,rfl,s5.put hD2',?_⟩
    rw[zh hj']
    exact qM (fun _ _=>SAt.put hqs) rqs hr5
   ·rintro σ H5 ⟨v0,v1,rfl,s5,m5⟩
    rw[yC,rps.1,show(F x).length=(nxF C F x).length by simp[nxF],zL] at m5
    have s35:=s34.trans s5
    have hd5:DAtS H5 D _:=(s4.trans s5) _ _ hd
    have hlen:ls'.length=(ss.take i).length:=hr3.1
    walk_at "r"
    refine⟨D,_,rfl,q44 hd5 ((s4.trans s5) _ _ hb') (by rw[q1R hlen,zo];omega) (by rw[q1e hlen];exact hnx),?_⟩
    refine⟨_,_,ls'++[D2],rfl,s35.put hD,?_,?_⟩
    ·rw [et,q4U hlen]
     exact qd
    ·rw [et]
     exact(hr3.mono fun _ _ z=>LAt.dput hd5 (LAt.mono (s4.trans s5) z)).snoc (LAt.dput hd5 m5)
  ·rintro σ H3 ⟨v2,v3,ls',rfl,s3,hd3,hr3⟩
   rw[hkl,zL] at hd3 hr3
   walk_at "r"
   exact k D ls' H3 s3 hD hd3 hr3
end
structure Cnt (g:Sd->List Sd)(B:List Sd)(L:List (Sd×Int))(pl:Nat):Prop where
 nd:(L.map (·.1)).Nodup
 bg:∀b∈B,b∈L.map (·.1)
 ge:∀x∈L,0<=x.2
 up:∀x∈L,(x.1∈B/\x.2=0)\/∃p∈L,x.1∈g p.1/\x.2=p.2+1
 cl:∀i,i<pl->∀p,L[i]? =some p->∀y∈g p.1,y∈L.map (·.1)
 bz:∀b∈B,(b,(0:Int))∈L
 so:∀(i j:Nat) (p q:Sd×Int),i<=j->L[i]? =some p->L[j]? =some q->p.2<=q.2
 hi:∀p,L[pl]? =some p->∀x∈L,x.2<=p.2+1
 le:∀i,i<pl->∀p,L[i]? =some p->∀y∈g p.1,∀m,(y,m)∈L->m<=p.2+1
structure CntM (g:Sd->List Sd)(B:List Sd)(L:List (Sd×Int))(pl:Nat)(p:Sd×Int)(done:List Sd):Prop extends Cnt g B L pl where
 at':L[pl]? =some p
 dn:∀y∈done,y∈L.map (·.1)
structure CntE (g:Sd->List Sd)(B:List Sd)(L:List (Sd×Int)):Prop where
 nd:(L.map (·.1)).Nodup
 bg:∀b∈B,b∈L.map (·.1)
 ge:∀x∈L,0<=x.2
 up:∀x∈L,(x.1∈B/\x.2=0)\/∃p∈L,x.1∈g p.1/\x.2=p.2+1
 cl:∀p∈L,∀y∈g p.1,y∈L.map (·.1)
 bz:∀b∈B,(b,(0:Int))∈L
 le:∀p∈L,∀y∈g p.1,∀m,(y,m)∈L->m<=p.2+1
section
variable {g:Sd->List Sd}{B:List Sd}{L:List (Sd×Int)}{pl:Nat}{p:Sd×Int}{done:List Sd}{y:Sd}
theorem Cnt.start (hB:B.Nodup):Cnt g B (B.map fun b=>(b,0)) 0:=by
 have e:(B.map fun b=>(b,(0:Int))).map (·.1)=B:=by rw[zP];exact zay B
 have z:∀x∈B.map fun b=>(b,(0:Int)),x.2=0:=fun x hx=>by
  obtain⟨b,_,rfl⟩:=zK.mp hx
  rfl
 refine⟨by rw[e];exact hB,fun b hb=>by rw[e];exact hb,fun x hx=>?_,fun x hx=>?_,fun i hi=>absurd hi (zbO i),fun b hb=>zK.mpr ⟨b,hb,rfl⟩,fun i j p q _ hp hq=>?_,fun p hp x hx=>?_,fun i hi=>absurd hi (zbO i)⟩
 ·obtain ⟨b,_,rfl⟩:=zK.mp hx
  exact zbK 0
 ·obtain ⟨b,hb,rfl⟩:=zK.mp hx
  exact .inl ⟨hb,rfl⟩
 ·rw [z p (zQ hp),z q (zQ hq)]
  exact zbK 0
 ·rw [z p (zQ hp),z x hx]
  decide
theorem Cnt.mid (h:Cnt g B L pl)(e:L[pl]? =some p):CntM g B L pl p []:=⟨h,e,fun y hy=>nomatch hy⟩
theorem CntM.old (h:CntM g B L pl p done)(hy:y∈L.map (·.1)):CntM g B L pl p (done++[y]):=⟨h.toCnt,h.at',fun z hz=>(zr.mp hz).elim (h.dn z) fun e=>by rw[zp.mp e];exact hy⟩
theorem CntM.new (h:CntM g B L pl p done)(hn:y∉L.map (·.1))(hy:y∈g p.1):CntM g B (L++[(y,p.2+1)]) pl p (done++[y]):=by
 have hpl:pl<L.length:=(yA h.at').1
 have hm:=zQ h.at'
 have e:(L++[(y,p.2+1)]).map (·.1)=L.map (·.1)++[y]:=by rw[zR];rfl
 have inl:∀z,z∈L.map (·.1)->z∈(L++[(y,p.2+1)]).map (·.1):=fun z hz=>by rw[e];exact zY _ hz
 have ep:(L++[(y,p.2+1)])[pl]? =some p:=by rw[zA hpl];exact h.at'
 have hh:∀x∈L++[(y,p.2+1)],x.2<=p.2+1:=fun x hx=>by
  rcases zr.mp hx with hx|hx
  ·exact h.hi p h.at' x hx
  ·rw [zp.mp hx]
   exact zbK _
 refine⟨⟨?_,fun b hb=>inl b (h.bg b hb),fun x hx=>?_,fun x hx=>?_,fun i hi q hq z hz=>?_,fun b hb=>zY _ (h.bz b hb),fun i j q r hij hq hr=>?_,fun q hq x hx=>?_,fun i hi q hq z hz m hzm=>?_⟩,ep,fun z hz=>?_⟩
 ·rw [e]
  exact zaJ.mpr ⟨h.nd,by simp,fun a ha b hb e=>hn (by rw[List.mem_singleton.mp hb] at e;rw[<-e];exact ha)⟩
 ·rcases zr.mp hx with hx|hx
  ·exact h.ge x hx
  ·rw [zp.mp hx]
   have:=h.ge p hm
   show 0<=p.2+1
   omega
 ·rcases zr.mp hx with hx|hx
  ·exact (h.up x hx).imp id fun⟨q,a,b⟩=>⟨q,zY _ a,b⟩
  ·rw [zp.mp hx]
   exact .inr ⟨p,zY _ hm,hy,rfl⟩
 ·rw [zA (by omega)] at hq
  exact inl z (h.cl i hi q hq z hz)
 ·by_cases hj:j<L.length
  ·rw [zA hj] at hr
   rw[zA (by omega)] at hq
   exact h.so i j q r hij hq hr
  ·have hj2:=(yA hr).1
   rw[zm,zb5] at hj2
   have ej:j=L.length:=by omega
   rw[ej,zS (ze _),Nat.sub_self] at hr
   cases hr
   exact hh q (zQ hq)
 ·rw [ep] at hq
  cases hq
  exact hh x hx
 ·rw [zA (by omega)] at hq
  rcases zr.mp hzm with hzm|hzm
  ·exact h.le i hi q hq z hz m hzm
  ·have ez:z=y:=zag Prod.fst (zp.mp hzm)
   exact absurd (h.cl i hi q hq z hz) (by rw[ez];exact hn)
 ·rcases zr.mp hz with hz|hz
  ·exact inl z (h.dn z hz)
  ·rw [zp.mp hz,e]
   simp
theorem CntM.next (h:CntM g B L pl p done)(hd:∀y∈g p.1,y∈done):Cnt g B L (pl+1):=by
 refine {h.toCnt with cl:=fun i hi q hq z hz=>?_,hi:=fun q hq x hx=>?_,le:=fun i hi q hq z hz m hm=>?_}
 ·by_cases e:i=pl
  ·rw [e,h.at'] at hq
   cases hq
   exact h.dn z (hd z hz)
  ·exact h.cl i (by omega) q hq z hz
 ·have a:=h.hi p h.at' x hx
  have b:=h.so pl (pl+1) p q (za9 _) h.at' hq
  omega
 ·by_cases e:i=pl
  ·rw [e,h.at'] at hq
   cases hq
   exact h.hi p h.at' _ hm
  ·exact h.le i (by omega) q hq z hz m hm
theorem Cnt.end (h:Cnt g B L pl)(hp:L.length<=pl):CntE g B L:=by
 have at':∀p∈L,∃i,i<pl/\L[i]? =some p:=fun p hp'=>by
  obtain⟨i,hi,e⟩:=zal hp'
  exact⟨i,by omega,by rw[yB hi,e]⟩
 refine {h with cl:=fun p hp' y hy=>?_,le:=fun p hp' y hy m hm=>?_}
 ·obtain ⟨i,hi,e⟩:=at' p hp'
  exact h.cl i hi p e y hy
 ·obtain ⟨i,hi,e⟩:=at' p hp'
  exact h.le i hi p e y hy m hm
end
def cnL (L:List (Sd×Int)):Dk:=L.map fun x=>(x.1,V.int x.2)
theorem q3B {L:List (Sd×Int)}:(cnL L).map (·.1)=L.map (·.1):=by unfold cnL;rw[List.map_map];rfl
theorem q9G {L:List (Sd×Int)}:(cnL L).length=L.length:=yC _
theorem q7g {L:List (Sd×Int)}{s:Sd}{n:Int}:cnL (L++[(s,n)])=cnL L++[(s,.int n)]:=by unfold cnL;rw[List.map_append];rfl
theorem cnL_at {L:List (Sd×Int)}{s:Sd}{n:Int}(nd:(L.map (·.1)).Nodup)(h:(s,n)∈L):dat (cnL L) s=some (.int n):=q50 (by rw[q3B];exact nd) (zK.mpr ⟨_,h,rfl⟩)
def spCF:Sp:=fun vs H Q _=>∃(b a:Addr) (B ss:List Sd) (f:Sd->List Sd) (ls:List Addr),vs=[.ref b,.ref a]/\qG SAt H b B/\Rd H a (.dT (dkv (lkD ss ls)))/\Rows (LAt f) H ls ss/\ss.Nodup/\B.Nodup/\(∀x∈B,x∈ss)/\(∀x∈ss,∀y∈f x,y∈ss)/\ss.length<=1000/\
 ∀(d:Addr) (L:List (Sd×Int)) (H':Hp),Same H H'->H d=none->DAtS H' d (cnL L)->CntE f B L->(∀x∈L.map (·.1),x∈ss)->Q (.ref d) H'
section
variable {P:Program}{w:World}{K:W.Frag}{mg:Str->Option Value}{base:Heap}{cs:Cs}
theorem qaE (T:Txt mg cs)(L:Laid K mg "counts_from" q0U ["begins","links"]):Cal P w K mg base 1 "counts_from" ["begins","links"] spCF:=by
 refine L.cal (k:=0) qY (fun vs H Q E h=>?_) (fun f cdv A outer s H vs Q E hr h=>?_)
 ·obtain ⟨b,a,B,ss,f,ls,rfl,_⟩:=h
  rfl
 ·obtain ⟨b,a,B,ss,g,ls,rfl,⟨bs,hb,rb⟩,ha,hrw,nd,ndB,hB,hcl,hln,k⟩:=h
  have big:=qF
  have hBl:B.length<=ss.length:=q30 ndB hB
  refine⟨_,(qb (qx (i:=2) qY.nd rfl (Or.inl rfl) (q0j (qbC K) rfl T.vF q49 (qa (pv 0) qc)))
   (qb (qx (i:=3) qY.nd rfl (Or.inl rfl) q3v)
   (qb (q0u PassesOwn.never rfl (q09 K (pv 0)) (qp (i:=4) qY.nd rfl (Or.inl rfl)) (qg (q27 (q0E hr) (pv 3) (pv 4) qe rfl)))
   (qb (qx (i:=5) qY.nd rfl (Or.inl rfl) qe)
   (qb (q4T PassesOwn.never (qv q6v (pv 5) (qy (lenK K) rfl T.wm q0g (qa (pv 2) qc)) (qr _)) (qb (qx (i:=6) qY.nd rfl (Or.inl rfl) (qk (qL K) (pv 2) (pv 5) (fun _ _=>rfl)))
   (qb (qbr (i:=5) qY.nd rfl (Or.inl rfl) qe q97)
   (qg (q0u PassesOwn.never rfl (q09 K (q3P (q0E hr) (pv 1) (pv 6) (fun _ _=>rfl))) (qp (i:=7) qY.nd rfl (Or.inl rfl)) (qg (q02 (q26 (q3S (q0E hr) (pv 7) (pv 3))) (qb (q27 (q0E hr) (pv 3) (pv 7) (qm q03 (q3P (q0E hr) (pv 3) (pv 6) (fun _ _=>rfl)) qe) rfl)
   (qg (qN (q2A zF zN zO qS (pv 2) (qa (pv 7) qc))))) qz)))))))
   (qg (qq (pv 3)))))))),?_⟩
  walk_at "r"
  refine⟨b,_,rfl,.inl (SqL.of hb),fun R hR=>?_⟩
  have s1:=Same.upd (o:= .lst (bs.map V.ref)) hR
  have h1:=qd (H:=H) (a:=R) (o:= .lst (bs.map V.ref))
  generalize upd H R (.lst (bs.map V.ref))=H1 at s1 h1 ⊢
  have hb1:=s1 _ _ hb
  walk_at "r"
  intro D hD1
  have hD:H D=none:=s1.free hD1
  have s2:=s1.trans (Same.upd (o:= .dT []) hD1)
  have h2:=(Same.upd (o:= .dT []) hD1) _ _ h1
  have hb2:=(Same.upd (o:= .dT []) hD1) _ _ hb1
  have d2:DAtS (upd H1 D (.dT [])) D []:=qd
  generalize upd H1 D (.dT [])=H2 at s2 h2 hb2 d2 ⊢
  walk_at "r"
  refine q4Y (bs.map V.ref) (fun i σ H'=>∃v4,σ=[some (.ref b),some (.ref a),some (.ref R),some (.ref D),v4,none,none,none]/\Same H H'/\H' R=some (.lst (bs.map V.ref))/\H' b=some (.lst (bs.map V.ref))/\DAtS H' D (cnL ((B.take i).map fun b=>(b,0)))) ⟨none,rfl,s2,h2,hb2,d2⟩ ?_ ?_ ?_
  ·rintro i σ H' ⟨v4,rfl,_,_,e,_⟩
   exact SqL.of e
  ·rintro i x σ H' hx ⟨v4,rfl,s3,hR3,hb3,hd⟩
   have hi:i<B.length:=by have:=(yA hx).1;rw[yC,rb.1] at this;exact this
   obtain⟨p0,e0,hp0⟩:=rb.get hi
   rw[hx] at e0
   cases e0
   have ek:(cnL ((B.take i).map fun b=>(b,0))).map (·.1)=B.take i:=by rw[q3B,zP];exact zay _
   have hnx:B[i]∉B.take i:=fun z=>by
    have:=ndB.sublist (z8 (i+1) B)
    rw[zh hi,zaJ] at this
    exact this.2.2 _ z _ (by simp) rfl
   walk_at "r"
   refine⟨D,_,rfl,q44 hd (s3 _ _ hp0) (by rw[q9G,yC,zo];omega) (by rw[ek];exact hnx),?_⟩
   have ne1:R≠D:=q2R hR3 hd (by intro z;cases z)
   have ne2:b≠D:=q2R hb3 hd (by intro z;cases z)
   refine⟨_,rfl,s3.put hD,by rw[qj ne1];exact hR3,by rw[qj ne2];exact hb3,?_⟩
   rw[zh hi,zR,List.map_singleton,q7g]
   exact qd
  ·rintro σ H3 ⟨v4,rfl,s3,hR3,hb3,hd3⟩
   rw[yC,rb.1,zL] at hd3
   have eB:(B.map fun b=>(b,(0:Int))).map (·.1)=B:=by rw[zP];exact zay B
   walk_at "r"
   refine q6s (fun m σ H'=>∃(L:List (Sd×Int)) (pl:Nat) (v6 v7:Option V),σ=[some (.ref b),some (.ref a),some (.ref R),some (.ref D),v4,some (.int pl),v6,v7]/\Same H H'/\qG SAt H' R (L.map (·.1))/\DAtS H' D (cnL L)/\Cnt g B L pl/\(∀x∈L.map (·.1),x∈ss)/\pl<=(L.map (·.1)).length/\m=2000 - pl) (2000 - 0)
    ⟨B.map fun b=>(b,0),0,none,none,rfl,s3,⟨bs,hR3,by rw[eB];exact rb.mono fun _ _=>SAt.mono s3.ts⟩,hd3,Cnt.start ndB,fun x hx=>by rw[eB] at hx;exact hB x hx,zak _,rfl⟩ ?_
   rintro m σ H4 ⟨L,pl,v6,v7,rfl,s4,⟨qs,hqs,rqs⟩,hd4,ct,hsub,hpl,hm⟩
   have nd4:=ct.nd
   obtain⟨row,hrow⟩:∃row,row=L.map (·.1):=⟨_,rfl⟩
   rw[<-hrow] at rqs nd4 hsub hpl
   have hql:qs.length=row.length:=rqs.1
   have hrl:row.length<=ss.length:=q30 nd4 hsub
   walk_at "r"
   rw[yC,hql]
   refine ifd (fun hlt=>?_) (fun hge=>?_)
   ·have hlt':pl<row.length:=by omega
    obtain⟨q,eq,hq4⟩:=rqs.get hlt'
    generalize hx:row[pl]=x at hq4
    have hrx:row[pl]? =some x:=by rw[yB hlt',hx]
    have hxr:x∈row:=zQ hrx
    have hq4:SAt H4 q x:=hq4
    have hxs:=hsub x hxr
    refine⟨fun σ' H'=>∃(L:List (Sd×Int)) (v7:Option V),σ'=[some (.ref b),some (.ref a),some (.ref R),some (.ref D),v4,some (.int ((pl:Int)+1)),some (.ref q),v7]/\Same H H'/\qG SAt H' R (L.map (·.1))/\DAtS H' D (cnL L)/\Cnt g B L (pl+1)/\(∀x∈L.map (·.1),x∈ss)/\pl+1<=(L.map (·.1)).length,?_,?_⟩
    ·rintro σ' H' ⟨L,v7,rfl,z1,z2,z3,z4,z5,z6⟩
     exact⟨2000 - (pl+1),by omega,L,pl+1,some (.ref q),v7,rfl,z1,z2,z3,z4,z5,z6,rfl⟩
    ·walk_at "r"
     obtain⟨j,hj,ej⟩:=zal (hsub x hxr)
     have hll:ls.length=ss.length:=hrw.1
     have hsj:ss[j]? =some x:=by rw[yB hj,ej]
     have hlj:ls[j]? =some (ls[j]'(by omega)):=yB _
     generalize ls[j]'(by omega)=l at hlj
     obtain⟨os,hos,ros⟩:=hrw.2 j l x hlj hsj
     have dg:=q2V (Rd.same s4 ha) hq4
     rw[qbE hll nd hsj hlj] at dg
     refine⟨a,.ref l,rfl,dg,?_⟩
     have hos4:=s4 _ _ hos
     walk_at "r"
     obtain⟨n,hLp⟩:∃n,L[pl]? =some (x,n):=by
      rw[hrow,zJ] at hrx
      obtain⟨⟨x',n⟩,h1,h2⟩:=zaP.mp hrx
      cases h2
      exact⟨n,h1⟩
     refine q3z (os.map V.ref) (fun i σ' H'=>∃(L:List (Sd×Int)) (v7:Option V),σ'=[some (.ref b),some (.ref a),some (.ref R),some (.ref D),v4,some (.int ((pl:Int)+1)),some (.ref q),v7]/\Same H H'/\qG SAt H' R (L.map (·.1))/\DAtS H' D (cnL L)/\CntM g B L pl (x,n) ((g x).take i)/\(∀x∈L.map (·.1),x∈ss)/\SAt H' q x)
      ⟨L,v7,rfl,s4,⟨qs,hqs,hrow▸rqs⟩,hd4,ct.mid hLp,hrow▸hsub,hq4⟩ ?_ ?_ ?_
     ·rintro i σ' H' ⟨_,_,rfl,s5,_⟩
      exact SqL.of (s5 _ _ hos)
     ·rintro i z σ' H5 hz ⟨L,v7,rfl,s5,⟨qs,hqs,rqs⟩,hd5,md,hsub,hx5⟩
      have hi:i<(g x).length:=by have:=(yA hz).1;rw[yC,ros.1] at this;exact this
      obtain⟨p,ep,hp⟩:=ros.get hi
      rw[hz] at ep
      cases ep
      have hp5:SAt H5 p (g x)[i]:=SAt.mono s5.ts hp
      have hy:(g x)[i]∈g x:=zU hi
      rw[zh hi]
      generalize (g x)[i]=y at hp5 hy ⊢
      have hrl:(L.map (·.1)).length<=ss.length:=q30 md.nd hsub
      have hll2:(L.map (·.1)).length=L.length:=yC _
      intro D2 hn2 hc2 hb2 hr2
      walk_at "r"
      refine⟨D,_,rfl,q2V (.inl hd5) hp5,?_⟩
      rw[q2l,q3B]
      walk_at "r"
      by_cases hin:y∈L.map (·.1)
      ·rw [zu hin]
       walk_at "r"
       exact hn2 _ _ ⟨L,_,rfl,s5,⟨qs,hqs,rqs⟩,hd5,md.old hin,hsub,hx5⟩
      ·rw [zn hin]
       walk_at "r"
       have hn:=cnL_at md.nd (zQ md.at')
       have dg5:=q2V (.inl hd5) hx5
       rw[hn] at dg5
       refine⟨D,_,rfl,dg5,?_⟩
       walk_at "r"
       have ne1:R≠D:=q2R hqs hd5 (by intro z;cases z)
       refine⟨D,_,rfl,q44 hd5 hp5 (by rw[q9G];omega) (by rw[q3B];exact hin),?_⟩
       rw[<-q7g]
       have e6:(L++[(y,n+1)]).map (·.1)=L.map (·.1)++[y]:=by rw[zR];rfl
       have hR6:upd H5 D (.dT (dkv (cnL (L++[(y,n+1)])))) R=some (.lst (qs.map V.ref)):=by rw[qj ne1];exact hqs
       have hd6:DAtS (upd H5 D (.dT (dkv (cnL (L++[(y,n+1)]))))) D (cnL (L++[(y,n+1)])):=qd
       walk_at "r"
       refine⟨R,_,_,rfl,rfl,hR6,by rw[yC,rqs.1];omega,?_⟩
       refine hn2 _ _ ⟨L++[(y,n+1)],_,rfl,(s5.put hD).put hR,?_,DAtS.lput hR6 hd6,md.new hin hy,?_,SAt.put hR6 (SAt.mono (q52 hd5) hx5)⟩
       ·rw [e6]
        exact qM (fun _ _=>SAt.put hR6) (rqs.mono fun _ _=>SAt.mono (q52 hd5)) (SAt.mono (q52 hd5) hp5)
       ·rw [e6]
        intro z hz'
        rcases zr.mp hz' with z1|z1
        ·exact hsub z z1
        ·rw [zp.mp z1];exact hcl x hxs y hy
     ·rintro σ' H5 ⟨L,v7,rfl,s5,hR5,hd5,md,hsub,_⟩
      rw[yC,ros.1,zL] at md
      exact⟨L,v7,rfl,s5,hR5,hd5,md.next fun y hy=>hy,hsub,by rw[yC];exact(yA md.at').1⟩
   ·walk_at "r"
    exact k D L H4 s4 hD hd4 (ct.end (by rw[hrow,yC] at hge hpl;omega)) (hrow▸hsub)
def spTL:Sp:=fun vs H Q _=>∃(a:Addr) (o:Obj) (ss:List Sd) (f:Sd->List Sd) (ls:List Addr),vs=[.ref a]/\H a=some (.frz o (.dT (dkv (lkD ss ls))))/\Rows (LAt f) H ls ss/\ss.Nodup/\(∀x∈ss,∀y∈f x,y∈ss)/\ss.length<=1000/\(∀x∈ss,(f x).length<=500)/\
 ∀(t:Addr) (ls':List Addr) (H':Hp),Same H H'->H t=none->DAtS H' t (lkD ss ls')->Rows (LAt (gE (eds f ss))) H' ls' ss->Q (.ref t) H'
theorem q8O (T:Txt mg cs)(L:Laid K mg "turned_links" q0H ["links"]):Cal P w K mg base 1 "turned_links" ["links"] spTL:=by
 refine L.cal (k:=0) q0c (fun vs H Q E h=>?_) (fun f cdv A outer s H vs Q E hr h=>?_)
 ·obtain ⟨a,o,ss,f,ls,rfl,_⟩:=h
  rfl
 ·obtain ⟨a,o,ss,g,ls,rfl,ha,hrw,nd,hcl,hln,hfl,k⟩:=h
  have big:=qF
  have hll:ls.length=ss.length:=hrw.1
  have hkl:(dkv (lkD ss ls)).length=ss.length:=by rw[show(dkv (lkD ss ls)).length=(lkD ss ls).length by simp[dkv],q1R hll]
  have hel:=q6B hfl
  refine⟨_,(qb (qx (i:=1) q0c.nd rfl (Or.inl rfl) q3v)
   (qb (q0u PassesOwn.never rfl (q8D K (pv 0)) (qp (i:=2) q0c.nd rfl (Or.inl rfl)) (qg (q27 (q0E hr) (pv 1) (pv 2) (q0P qc) rfl)))
   (qb (q0u PassesOwn.never rfl (qbt K (pv 0)) (q0y (n:=2) K rfl (qw (qp (i:=2) q0c.nd rfl (Or.inl rfl)) (qw (qp (i:=3) q0c.nd rfl (Or.inl rfl)) q0x))) (qg (q0u PassesOwn.never rfl (q09 K (pv 3)) (qp (i:=4) q0c.nd rfl (Or.inl rfl)) (qg (qN (q2A zF zN zO qS (q3P (q0E hr) (pv 1) (pv 4) (fun _ _=>rfl)) (qa (pv 2) qc)))))))
   (qg (qq (pv 1)))))),?_⟩
  walk_at "r"
  intro D hD
  have s1:=Same.upd (o:= .dT []) hD
  have d1:DAtS (upd H D (.dT [])) D []:=qd
  generalize upd H D (.dT [])=H1 at s1 d1 ⊢
  walk_at "r"
  refine⟨a,o,_,rfl,s1 _ _ ha,?_⟩
  refine for_dk (fun i σ H'=>∃v2 ls',σ=[some (.ref a),some (.ref D),v2,none,none]/\Same H H'/\DAtS H' D (lkD (ss.take i) ls')/\Rows (LAt (gE [])) H' ls' (ss.take i)/\ls'.Nodup/\∀l∈ls',H l=none) ⟨none,[],rfl,s1,d1,Rows.nil,List.nodup_nil,fun l h=>nomatch h⟩ ?_ ?_ ?_
  ·rintro i σ H' ⟨v2,ls',rfl,s2,_⟩
   exact s2 _ _ ha
  ·rintro i b p σ H' hp hb ⟨v2,ls',rfl,s2,hd,hrw',hn',hfr⟩
   obtain⟨x,l,hx,hl,rfl⟩:=q45 hll hp
   have hb':SAt H' b x:=hb
   have hi:i<ss.length:=(yA hx).1
   have ex:ss[i]=x:=(yA hx).2
   have hlen:ls'.length=(ss.take i).length:=hrw'.1
   walk_at "r"
   intro q hq
   have s3:=Same.upd (o:= .lst []) hq
   have h3:=qd (H:=H') (a:=q) (o:= .lst [])
   generalize upd H' q (.lst [])=H3 at s3 h3 ⊢
   have hd3:DAtS H3 D _:=s3 _ _ hd
   have et:ss.take (i+1)=ss.take i++[x]:=by rw[zh hi,ex]
   have hnx:x∉ss.take i:=fun h=>by
    have:=nd.sublist (z8 (i+1) ss)
    rw[et,zaJ] at this
    exact this.2.2 _ h _ (by simp) rfl
   walk_at "r"
   refine⟨D,_,rfl,q44 hd3 (s3 _ _ hb') (by rw[q1R hlen,zo];omega) (by rw[q1e hlen];exact hnx),?_⟩
   refine⟨_,ls'++[q],rfl,(s2.trans s3).put hD,?_,?_,?_,?_⟩
   ·rw [et,q4U hlen]
    exact qd
   ·rw [et]
    exact(hrw'.mono fun _ _ z=>LAt.dput hd3 (LAt.mono s3 z)).snoc (LAt.dput hd3 ⟨[],h3,Rows.nil⟩)
   ·refine zaJ.mpr ⟨hn',by simp,fun a' h1 b' h2 e=>?_⟩
    rw[zp.mp h2] at e
    subst e
    obtain⟨y,_,rs,hy,_⟩:=Rows.mem hrw' h1
    rw[hq] at hy
    cases hy
   ·intro l h
    rcases zr.mp h with h|h
    ·exact hfr l h
    ·rw [zp.mp h];exact s2.free hq
  ·rintro σ H2 ⟨v2,ls',rfl,s2,hd2,hrw2,hn2,hfr⟩
   rw[hkl,zL] at hd2 hrw2
   have hlen:ls'.length=ss.length:=hrw2.1
   walk_at "r"
   refine⟨a,o,_,rfl,s2 _ _ ha,?_⟩
   refine qbH (fun i σ H'=>∃v2 v3 v4,σ=[some (.ref a),some (.ref D),v2,v3,v4]/\Same H H'/\DAtS H' D (lkD ss ls')/\Rows (LAt (gE (eds g (ss.take i)))) H' ls' ss) ⟨_,_,_,rfl,s2,hd2,hrw2⟩ ?_ ?_ ?_
   ·rintro i σ H' ⟨v2,v3,v4,rfl,s3,_⟩
    exact s3 _ _ ha
   ·rintro i b T' p σ H' hp hb hT ⟨v2,v3,v4,rfl,s3,hd,hr3⟩
    obtain⟨x,l,hx,hl,rfl⟩:=q45 hll hp
    have hi:i<ss.length:=(yA hx).1
    have ex:ss[i]=x:=(yA hx).2
    have hxs:x∈ss:=zQ hx
    have hb':SAt H' b x:=hb
    have s4:=Same.upd (o:= .tup [.ref b,.ref l]) hT
    have h4:=qd (H:=H') (a:=T') (o:= .tup [.ref b,.ref l])
    show _
    generalize upd H' T' (.tup [.ref b,.ref l])=H4 at s4 h4 ⊢
    have s34:=s3.trans s4
    have hb4:SAt H4 b x:=s4 _ _ hb'
    obtain⟨os,hos,ros⟩:=hrw.2 i l x hl hx
    have hos4:=s34 _ _ hos
    have et:eds g (ss.take (i+1))=eds g (ss.take i)++(g x).map fun y=>(x,y):=by rw[zh hi,ex,qb7]
    have hel4:(eds g (ss.take i)).length<=500*ss.length:=zaf (q6B fun y hy=>hfl y (zao hy)) (by rw[zo];omega)
    have hgx:=hfl x hxs
    walk_at "r"
    refine q4Y (os.map V.ref) (fun j σ H'=>∃v4,σ=[some (.ref a),some (.ref D),some (.ref b),some (.ref l),v4]/\Same H H'/\SAt H' b x/\DAtS H' D (lkD ss ls')/\Rows (LAt (gE (eds g (ss.take i)++((g x).take j).map fun y=>(x,y)))) H' ls' ss) ⟨v4,rfl,s34,hb4,s4 _ _ hd,by simpa using hr3.mono fun _ _=>LAt.mono s4⟩ ?_ ?_ ?_
    ·rintro j σ H' ⟨_,rfl,s5,_⟩
     exact SqL.of (s5 _ _ hos)
    ·rintro j z σ H5 hz ⟨v4,rfl,s5,hb5,hd5,hr5⟩
     have hj:j<(g x).length:=by have:=(yA hz).1;rw[yC,ros.1] at this;exact this
     obtain⟨p,ep,hp⟩:=ros.get hj
     rw[hz] at ep
     cases ep
     have hp5:SAt H5 p (g x)[j]:=SAt.mono s5.ts hp
     have hy:(g x)[j]∈g x:=zU hj
     rw[zh hj,zR,<-zq]
     have hbd:(eds g (ss.take i)++((g x).take j).map fun y=>(x,y)).length<=501000:=by rw[zm,yC,zo];omega
     generalize eds g (ss.take i)++((g x).take j).map (fun y=>(x,y))=es at hr5 hbd ⊢
     generalize (g x)[j]=y at hp5 hy ⊢
     obtain⟨m,hm,em⟩:=zal (hcl x hxs y hy)
     have hsm:ss[m]? =some y:=by rw[yB hm,em]
     have hlm:ls'[m]? =some (ls'[m]'(by omega)):=yB _
     generalize ls'[m]'(by omega)=lm at hlm
     obtain⟨qs,hqs,rqs⟩:=hr5.2 m lm y hlm hsm
     have hl5:=gE_len es y
     have hfm:=hfr lm (zQ hlm)
     have dg:=q2V (.inl hd5) hp5
     rw[qbE hlen nd hsm hlm] at dg
     walk_at "r"
     refine⟨D,_,rfl,dg,?_⟩
     walk_at "r"
     refine⟨lm,_,_,rfl,rfl,hqs,by rw[yC,rqs.1];omega,?_⟩
     refine⟨_,rfl,s5.put hfm,SAt.put hqs hb5,DAtS.lput hqs hd5,?_⟩
     exact q8p hr5 hn2 nd hlm hsm hqs rqs hb5
    ·rintro σ H5 ⟨v4,rfl,s5,hb5,hd5,hr5⟩
     rw[yC,ros.1,zL] at hr5
     exact⟨_,_,_,rfl,s5,hd5,by rw[et];exact hr5⟩
   ·rintro σ H3 ⟨v2,v3,v4,rfl,s3,hd3,hr3⟩
    rw[hkl,zL] at hr3
    walk_at "r"
    exact k D ls' H3 s3 hD hd3 hr3
def isO (x:Wd×Nat)(o:Wd×Int):Bool:=decide (x.1=o.1/\(x.2:Int)=o.2)
def canO (C:Cl)(o:Wd×Int)(x:Sd):Bool:=(fitD C x).any fun u=>isO u o
def gl (C:Cl)(oo:Option (Wd×Int))(x:Sd):Bool:=match oo with
 |none=>decide (x.rm=C.lst)
 |some o=>canO C o x
structure WAt (H:Hp)(a:Addr)(C:Cl)(F:Sd->List (Wd×Nat))(row:List Sd):Prop where
 ex:∃(ob:Obj) (ls:List Addr),H a=some (.frz ob (.dT (dkv (lkD row ls))))/\Rows (PrF C F) H ls row
 nd:row.Nodup
 ln:row.length<=300
 fl:∀x,(F x).length<=56
theorem WAt.same {H H':Hp}{a:Addr}{C:Cl}{F:Sd->List (Wd×Nat)}{row:List Sd}(s:Same H H')(h:WAt H a C F row):WAt H' a C F row:=⟨let ⟨o,l,a,b⟩:=h.ex;⟨o,l,s _ _ a,b.mono fun _ _=>PrF.same s⟩,h.nd,h.ln,h.fl⟩
def qbo:Sp:=fun vs H Q _=>∃(c d:Addr) (C:Cl) (F:Sd->List (Wd×Nat)) (row:List Sd),vs=[.ref c,.ref d]/\ClAt H c C/\WAt H d C F row/\∀(r:Addr) (H':Hp),Same H H'->H r=none->qG SAt H' r (row.filter (gl C none))->Q (.ref r) H'
def spCTo:Sp:=fun vs H Q _=>∃(e d:Addr) (C:Cl) (F:Sd->List (Wd×Nat)) (row G:List Sd),vs=[.ref e,.ref d]/\qG SAt H e G/\G.Nodup/\(∀x∈G,x∈row)/\WAt H d C F row/\(∀x∈row,∀y∈nxF C F x,y∈row)/\
 ∀(t:Addr) (L:List (Sd×Int)) (H':Hp),Same H H'->H t=none->DAtS H' t (cnL L)->CntE (gE (eds (nxF C F) row)) G L->(∀x∈L.map (·.1),x∈row)->Q (.ref t) H'
theorem qcD (T:Txt mg cs)(L:Laid K mg "ends_of" q23 ["cellar","walk"]):Cal P w K mg base 1 "ends_of" ["cellar","walk"] qbo:=by
 obtain⟨t1,we⟩:=T.we
 obtain⟨t2,vq⟩:=T.vq
 refine L.cal (k:=0) q7x (fun vs H Q E h=>?_) (fun f cdv A outer s H vs Q E hr h=>?_)
 ·obtain ⟨c,d,C,F,row,rfl,_⟩:=h
  rfl
 ·obtain ⟨c,d,C,F,row,rfl,hC,hW,k⟩:=h
  have big:=qF
  have hln:=hW.ln
  obtain⟨ob,ls,hd,hrw⟩:=hW.ex
  have hll:ls.length=row.length:=hrw.1
  have hkl:(dkv (lkD row ls)).length=row.length:=by rw[show(dkv (lkD row ls)).length=(lkD row ls).length by simp[dkv],q1R hll]
  obtain⟨wv,tv,lv,vv,hc,_⟩:=hC.ex
  refine⟨_,(qg (qq (q1P (q0G (N:=["stand","cellar"]) (own:=1) (caps:=[0]) ["cellar","walk"] (qf q23) (by walk_at "k")) rfl (q8D K (pv 1)) (fun _ _ _ _=>(qp (i:=0) (show List.Nodup (["stand","cellar"]:List Str) by walk_at "k") rfl (Or.inl rfl))) (fun _ _ _ _=>(q4s (qv q0f (qk (qh K) (pv 0) (qt (v:= .int 0) rfl we ⟨_,rfl⟩) (fun _ _=>rfl)) (qk (qh K) (pv 1) (qt (v:= .int 2) rfl vq ⟨_,rfl⟩) (fun _ _=>rfl)) (qr _)))) (fun _ _ _ _=>(pv 0))))),?_⟩
  walk_at "r"
  refine⟨d,ob,_,rfl,hd,fun D hD=>?_⟩
  refine q9B (fun i σ H'=>∃v0,σ=[v0,some (.ref c)]/\Same H H'/\qG SAt H' D ((row.take i).filter (gl C none))) ⟨none,rfl,Same.upd hD,[],qd,Rows.nil⟩ ?_ ?_ ?_
  ·rintro i σ H' ⟨v0,rfl,s2,_⟩
   exact s2 _ _ hd
  ·rintro i b p σ H' hp hb ⟨v0,rfl,s2,qs,hqs,rqs⟩
   obtain⟨x,l,hx,hl,rfl⟩:=q45 hll hp
   have hi:i<row.length:=(yA hx).1
   have ex:row[i]=x:=(yA hx).2
   have hb':H' b=some (.tup [.int x.rm,.int x.tk,.int x.op,.int x.b,.int x.wt]):=hb
   have hc2:=s2 _ _ hc
   have hql:qs.length<=300:=by rw[rqs.1];refine zaf (zaw _ _) ?_;rw[zo];omega
   rw[zh hi,ex,zat]
   walk_at "r"
   refine ifd (fun e=>?_) (fun e=>?_)
   ·walk_at "r"
    refine⟨_,hqs,by rw[yC];omega,_,rfl,s2.put hD,?_⟩
    rw[show [x].filter (gl C none)=[x] by simp[gl,e]]
    exact qM (fun _ _=>SAt.put hqs) rqs hb
   ·refine ⟨_,rfl,s2,qs,hqs,?_⟩
    rw[show [x].filter (gl C none)=[] by simp[gl,e],zM]
    exact rqs
  ·rintro σ H' ⟨v0,rfl,s2,m2⟩
   rw[hkl,zL] at m2
   exact k D H' s2 hD m2
theorem ok_cto (T:Txt mg cs)(L:Laid K mg "counts_to" q1q ["ends","walk"])(vJ:Cal P w K mg base 1 "links_of" ["walk"] spLk)(wZ:Cal P w K mg base 1 "turned_links" ["links"] spTL)(ve:Cal P w K mg base 1 "counts_from" ["begins","links"] spCF):Cal P w K mg base 2 "counts_to" ["ends","walk"] spCTo:=by
 refine L.cal (k:=1) q5x (fun vs H Q E h=>?_) (fun f cdv A outer s H vs Q E hr h=>?_)
 ·obtain ⟨e,d,C,F,row,G,rfl,_⟩:=h
  rfl
 ·obtain ⟨e,d,C,F,row,G,rfl,hG,ndG,sG,hW,hcl,k⟩:=h
  have big:=qF
  have hln:=hW.ln
  obtain⟨ob,ls,hd,hrw⟩:=hW.ex
  refine⟨_,(qg (qq (qH ve hr (by decide) rfl (qa (pv 0) (qa (qH wZ hr (by decide) rfl (qa (q8E (qH vJ hr (by decide) rfl (qa (pv 1) qc))) qc)) qc))))),?_⟩
  walk_at "r"
  refine⟨d,C,F,ob,row,ls,rfl,hW.fl,hd,hrw,hW.nd,by omega,fun t ls1 H1 s1 ht0 ht rt=>?_⟩
  refine⟨t,_,rfl,ht,fun o1=>?_⟩
  have s2:Same H (upd H1 t (.frz o1 (.dT (dkv (lkD row ls1))))):=s1.put ht0
  have e2:=qd (H:=H1) (a:=t) (o:= .frz o1 (.dT (dkv (lkD row ls1))))
  have r2:Rows (LAt (nxF C F)) (upd H1 t (.frz o1 (.dT (dkv (lkD row ls1))))) ls1 row:=rt.mono fun _ _=>LAt.dput ht
  generalize upd H1 t (.frz o1 (.dT (dkv (lkD row ls1))))=H2 at s2 e2 r2 ⊢
  walk_at "r"
  refine⟨t,o1,row,nxF C F,ls1,rfl,e2,r2,hW.nd,hcl,by omega,fun x _=>by unfold nxF;rw[yC];have:=hW.fl x;omega,fun t3 ls3 H3 s3 ht3 h3 r3=>?_⟩
  walk_at "r"
  obtain⟨gs,hgs,rgs⟩:=hG
  have s23:=s2.trans s3
  refine⟨e,t3,G,row,_,ls3,rfl,⟨gs,s23 _ _ hgs,rgs.mono fun _ _=>SAt.mono s23.ts⟩,.inl h3,r3,hW.nd,ndG,sG,fun x hx y hy=>(q8T.mp (qbB.mp hy)).1,by omega,fun d4 L H4 s4 hd4 h4 ce sb=>?_⟩
  walk_at "r"
  exact k d4 L H4 (s23.trans s4) (s23.free hd4) h4 ce sb
def spByW:Sp:=fun vs H Q _=>∃(c q:Addr) (C:Cl) (s:Sd),vs=[.ref c,.ref q]/\ClAt H c C/\ClOk C/\SAt H q s/\s.ok C/\∀(r D1 D2:Addr) (H':Hp),Same H H'->H D1=none->H D2=none->D1≠D2->H' r=some (.tup [.ref D1,.ref D2])->qG (PrAt C s) H' D1 (canR C s .go C.ways.length)->qG (PrAt C s) H' D2 (canR C s .unlock C.ways.length)->Q (.ref r) H'
local macro_rules| `(tactic| walk_at "wk")=> `(tactic| repeat (first|walk_at "rd1" |(refine ifd (fun h=>absurd h (by decide)) (fun _=>?_))|(refine ifd (fun _=>?_) (fun h=>absurd (by decide) h))))
theorem ok_byw (T:Txt mg cs)(L:Laid K mg "_law_by_ways" q0K ["_law_cave_here","_law_stand"])(vz:Cal P w K mg base 2 "_law_lets" ["_law_cave_here","_law_stand","_law_k"] q8d)(wy:Cal P w K mg base 1 "_law_amount" ["_law_cave_here","_law_stand","_law_kind"] q4H):Cal P w K mg base 3 "_law_by_ways" ["_law_cave_here","_law_stand"] spByW:=by
 refine L.cal (k:=2) qB (fun vs H Q E h=>?_) (fun f cdv A outer s H vs Q E hr h=>?_)
 ·obtain ⟨c,q,C,st,rfl,_⟩:=h
  rfl
 ·obtain ⟨c,q,C,st,rfl,hC,ok,hq,sok,k⟩:=h
  have big:=qF
  obtain⟨pw,pt,pl,pv',h0,h1,_⟩:=hC.ex
  obtain⟨wv,hw,hwl,hwg⟩:=h1.get
  have okw:=ok.wl
  have hwl2:(wv.length:Int)<=20:=by omega
  have hq':H q=some (.tup [.int st.rm,.int st.tk,.int st.op,.int st.b,.int st.wt]):=hq
  refine⟨_,(qb (q5S (pv 1) (q0y (n:=5) K rfl (qw (qp (i:=2) qB.nd rfl (Or.inl rfl)) (qw (qp (i:=3) qB.nd rfl (Or.inl rfl)) (qw (qp (i:=4) qB.nd rfl (Or.inl rfl)) (qw (qp (i:=5) qB.nd rfl (Or.inl rfl)) (qw (qp (i:=6) qB.nd rfl (Or.inl rfl)) q0x)))))))
   (qb (qx (i:=7) qB.nd rfl (Or.inl rfl) (q0P qc))
   (qb (qx (i:=8) qB.nd rfl (Or.inl rfl) (q0P qc))
   (qb (q0u PassesOwn.never rfl (q08 rfl T.wu (qa (qy (lenK K) rfl T.wm q0g (qa (qk (qh K) (pv 0) qe (fun _ _=>rfl)) qc)) qc)) (qp (i:=9) qB.nd rfl (Or.inl rfl)) (qb (q5S (qk (qh K) (qk (qh K) (pv 0) qe (fun _ _=>rfl)) (pv 9) (fun _ _=>rfl)) (q0y (n:=4) K rfl (qw (qp (i:=10) qB.nd rfl (Or.inl rfl)) (qw (qp (i:=11) qB.nd rfl (Or.inl rfl)) (qw (qp (i:=12) qB.nd rfl (Or.inl rfl)) (qw (qp (i:=13) qB.nd rfl (Or.inl rfl)) q0x))))))
   (qb (q02 (PW.pt (q3e (qv q5T (pv 2) (pv 10) (qr _)) (q2z (PW.pt (q2O (qv q5T (pv 2) (pv 11) (qr _)) (q25 (q2q (q0S (pv 13))))))))) (qg q6u) qz)
   (qg (q02 (q0S (qH vz hr (by decide) rfl (qa (pv 0) (qa (pv 1) (qa (pv 9) qc))))) (qg (qN (q2A zF zN zO qS (pv 7) (qa (qC (qa (qC (qa qJ (qa (pv 9) qc))) (qa (qC (qa (qm q2a (qm q03 (pv 10) (pv 11)) (pv 2)) (qa (pv 3) (qa (pv 4) (qa (pv 5) (qa (pv 6) qc)))))) qc))) qc)))) (qg (q02 (PW.pt (q3e (qv q0f (qk (qh K) (pv 12) qe (fun _ _=>rfl)) qJ (qr _)) (q2z (qv q3m (qH wy hr (by decide) rfl (qa (pv 0) (qa (pv 1) (qa (qk (qh K) (pv 12) qe (fun _ _=>rfl)) qc)))) qe (qr _))))) (qg (qN (q2A zF zN zO qS (pv 8) (qa (qC (qa (qC (qa qJ (qa (pv 9) qc))) (qa (qC (qa (pv 2) (qa (pv 3) (qa (qm q03 (pv 4) (qm q72 qe (pv 9))) (qa (pv 5) (qa (pv 6) qc)))))) qc))) qc)))) qz)))))))
   (qg (qq (qC (qa (pv 7) (qa (pv 8) qc))))))))),?_⟩
  walk_at "r"
  intro D1 hD1
  have s1:=Same.upd (o:= .lst []) hD1
  have e1:=qd (H:=H) (a:=D1) (o:= .lst [])
  generalize upd H D1 (.lst [])=H1 at s1 e1 ⊢
  walk_at "r"
  intro D2 hD2'
  have s2:=s1.trans (Same.upd (o:= .lst []) hD2')
  have f1:=(Same.upd (o:= .lst []) hD2') _ _ e1
  have f2:=qd (H:=H1) (a:=D2) (o:= .lst [])
  have hD2:H D2=none:=s1.free hD2'
  have ne:D1≠D2:=fun z=>by rw[<-z,e1] at hD2';cases hD2'
  generalize upd H1 D2 (.lst [])=H2 at s2 f1 f2 ⊢
  have h02:=s2 _ _ h0
  have hw2:=s2 _ _ hw
  walk_at "r"
  refine q2j (fun i σ H'=>∃v9 v10 v11 v12 v13,σ=[some (.ref c),some (.ref q),some (.int st.rm),some (.int st.tk),some (.int st.op),some (.int st.b),some (.int st.wt),some (.ref D1),some (.ref D2),v9,v10,v11,v12,v13]/\Same H H'/\qG (PrAt C st) H' D1 (canR C st .go i)/\qG (PrAt C st) H' D2 (canR C st .unlock i)) ⟨none,none,none,none,none,rfl,s2,⟨[],f1,Rows.nil⟩,⟨[],f2,Rows.nil⟩⟩ ?_ ?_
  ·rintro i σ H3 hi ⟨v9,v10,v11,v12,v13,rfl,s3,g1,g2⟩
   have hi2:i<C.ways.length:=by rw[<-hwl];simpa using hi
   obtain⟨p2,hx,ga,hp2,hg2⟩:=hwg i hi2
   have ex:C.ways[i]? =some C.ways[i]:=yB hi2
   have eg1:=can_go (s:=st) ex
   generalize C.ways[i]=x at hp2 hg2 ex eg1
   have hp3:=s3 _ _ hp2
   have hg3:=s3 _ _ hg2
   have h03:=s3 _ _ h0
   have hw3:=s3 _ _ hw
   have l1:=q0M C st .go i
   have l2:=q0M C st .unlock i
   rw[q2d,q2d]
   intro Dn hn hc hb hrt
   cases he:q0R x st.rm with
   |false=>
    rw[show(if canB C st i .go=true then [(Wd.go,i)] else [])=[] from zd (by rw[eg1,he];exact zl),show(if canB C st i .unlock=true then [(Wd.unlock,i)] else [])=[] from zd (by rw[no_un ex he];decide),zM,zM] at hc
    unfold q0R at he
    rw[Bool.or_eq_false_iff,Bool.and_eq_false_iff] at he
    have fin:=hc [some (.ref c),some (.ref q),some (.int st.rm),some (.int st.tk),some (.int st.op),some (.int st.b),some (.int st.wt),some (.ref D1),some (.ref D2),some (.int (0+(i:Nat))),some (.int x.a),some (.int x.b),some (.ref ga),some (.bl x.back)] H3 ⟨_,_,_,_,_,rfl,s3,g1,g2⟩
    walk_at "r"
    rw[zn (zaW he.1)]
    walk_at "r"
    by_cases y:st.rm=x.b
    ·rw [zu y]
     have hbk:x.back=false:=by
      rcases he.2 with z|z
      ·exact absurd y (zaW z)
      ·exact z
     walk_at "r"
     rw[hbk] at fin ⊢
     walk_at "r"
     exact fin
    ·rw [zn y]
     walk_at "r"
     exact fin
   |true=>
    have he':=he
    unfold q0R at he'
    walk_at "r"
    rename_i zz hzz
    have th:zz {nx:=Dn.nx,rt:=Dn.rt,bk:=Dn.bk,ct:=Dn.ct} [some (.ref c),some (.ref q),some (.int st.rm),some (.int st.tk),some (.int st.op),some (.int st.b),some (.int st.wt),some (.ref D1),some (.ref D2),some (.int (0+(i:Nat))),some (.int x.a),some (.int x.b),some (.ref ga),some (.bl x.back)] H3:=by
     walk_at "r"
     refine⟨c,q,C,st,i,x,by rw[zaO];rfl,hC.mono s3.ts,ok,SAt.mono s3.ts hq,ex,fun H4 s4=>?_⟩
     have g14:=q3f (fun _ _ h=>PrAt.mono s4.ts h) s4 g1
     have g24:=q3f (fun _ _ h=>PrAt.mono s4.ts h) s4 g2
     have hg4:=s4 _ _ hg3
     have s34:=s3.trans s4
     cases hlt:q3W x.g (hold C st.tk st.op) (bit st.op i) st.b st.wt with
     |false=>
      rw[show(if canB C st i .go=true then [(Wd.go,i)] else [])=[] from zd (by rw[eg1,he,hlt];decide),zM] at hn
      obtain⟨qs,hqs,rqs⟩:=g24
      have hqs2:qs.length<=20:=by rw[rqs.1];omega
      by_cases hd:∃kd,x.g= .door kd
      ·obtain ⟨kd,hd⟩:=hd
       rw[hd] at hg4 hlt
       have hg5:H4 ga=some (.tup [.str "door",.int kd]):=hg4
       have hbt:bit st.op i=false:=hlt
       have eu:=q9K (s:=st) ex hd
       rw[he,hbt,Bool.not_false,Bool.and_true,zbJ] at eu
       walk_at "wk"
       refine⟨c,q,C,st,kd,rfl,hC.mono s34.ts,ok,SAt.mono s34.ts hq,fun H5 s5=>?_⟩
       have hqs5:=s5 _ _ hqs
       have g5:=q3f (fun _ _ h=>PrAt.mono s5.ts h) s5 g14
       walk_at "r"
       refine ifd (fun hp=>?_) (fun hp=>?_)
       ·rw [show(if canB C st i .unlock=true then [(Wd.unlock,i)] else [])=[(Wd.unlock,i)] from zi (by rw[eu];exact zu hp)] at hn
        walk_at "r"
        intro t5 ht5
        generalize hG5:upd _ t5 _=H6
        have s6:=q00 hG5 ht5
        have h6:=q01 hG5
        walk_at "r"
        intro t6 ht6
        generalize hG6:upd _ t6 _=H7
        have s7:=q00 hG6 ht6
        have h7:=q01 hG6
        walk_at "r"
        intro t7 ht7
        generalize hG7:upd _ t7 _=H8
        have s8:=q00 hG7 ht7
        have h8:=q01 hG7
        have s58:=s6.trans (s7.trans s8)
        have hqs8:=s58 _ _ hqs5
        walk_at "r"
        refine q34 hqs8 (by rw[yC];omega) ?_
        have ts9:=q0p.lst (o:= .lst (qs.map V.ref++[.ref t7])) hqs8
        refine hn _ _ ⟨_,_,_,_,_,rfl,((s34.trans s5).trans s58).put hD2,?_,qM (fun _ _ h=>PrAt.mono ts9 h) (rqs.mono fun _ _ h=>PrAt.mono (s5.trans s58).ts h) ⟨t5,t6,h8,?_,?_⟩⟩
        ·obtain ⟨us,hus,rus⟩:=g5
         exact⟨us,by rw[qj ne];exact s58 _ _ hus,rus.mono fun _ _ h=>PrAt.mono (s58.ts.trans ts9) h⟩
        ·show H8 t5=some (.tup [.str Wd.unlock.str,.int ((i:Nat):Int)])
         rw[<-zaO (i:Int)]
         exact(s7.trans s8) _ _ h6
        ·show H8 t6=_
         have:H8 t6=_:=s8 _ _ h7
         rw[this]
         show _=some (HO.tup (q1i C st (i:Int).toNat .unlock).vs)
         rw[zaO,zk,zb0]
         rfl
       ·rw [show(if canB C st i .unlock=true then [(Wd.unlock,i)] else [])=[] from zd (by rw[eu,zn hp];exact zl),zM] at hn
        walk_at "r"
        exact hn _ _ ⟨_,_,_,_,_,rfl,s34.trans s5,g5,⟨qs,hqs5,rqs.mono fun _ _ h=>PrAt.mono s5.ts h⟩⟩
      ·have c2:=q6G (s:=st) ex fun kd z=>hd ⟨kd,z⟩
       rw[show(if canB C st i .unlock=true then [(Wd.unlock,i)] else [])=[] from zd (by rw[c2];decide),zM] at hn
       have hwd:=gt_at x.g
       have hdr:=gt_dr x.g
       have hnn:x.g.dk.isSome=false:=by
        cases e:x.g<;>first|rfl|exact absurd ⟨_,e⟩ hd
       walk_at "r"
       rw[hdr,hnn]
       walk_at "r"
       exact hn _ _ ⟨_,_,_,_,_,rfl,s34,g14,⟨qs,hqs,rqs⟩⟩
     |true=>
      have nu:canB C st i .unlock=false:=by
       by_cases hd:∃kd,x.g= .door kd
       ·obtain ⟨kd,hd⟩:=hd
        rw[hd] at hlt
        rw[q9K ex hd,show bit st.op i=true from hlt,Bool.not_true,zcX,zbF]
       ·exact q6G ex fun kd z=>hd ⟨kd,z⟩
      rw[show(if canB C st i .go=true then [(Wd.go,i)] else [])=[(Wd.go,i)] from zi (by rw[eg1,he,hlt];rfl),show(if canB C st i .unlock=true then [(Wd.unlock,i)] else [])=[] from zd (by rw[nu];decide),zM] at hn
      obtain⟨ps,hps,rps⟩:=g14
      have hpl:ps.length<=20:=by rw[rps.1];omega
      walk_at "r"
      intro t5 ht5
      generalize hG5:upd _ t5 _=H5
      have s5:=q00 hG5 ht5
      have h5:=q01 hG5
      walk_at "r"
      intro t6 ht6
      generalize hG6:upd _ t6 _=H6
      have s6:=q00 hG6 ht6
      have h6:=q01 hG6
      walk_at "r"
      intro t7 ht7
      generalize hG7:upd _ t7 _=H7
      have s7:=q00 hG7 ht7
      have h7:=q01 hG7
      have s47:=s5.trans (s6.trans s7)
      have hps7:=s47 _ _ hps
      walk_at "r"
      refine q34 hps7 (by rw[yC];omega) ?_
      have ts8:=q0p.lst (o:= .lst (ps.map V.ref++[.ref t7])) hps7
      refine hn _ _ ⟨_,_,_,_,_,rfl,(s34.trans s47).put hD1,?_,?_⟩
      ·refine qM (fun _ _ h=>PrAt.mono ts8 h) (rps.mono fun _ _ h=>PrAt.mono s47.ts h) ⟨t5,t6,h7,?_,?_⟩
       ·show H7 t5=some (.tup [.str Wd.go.str,.int ((i:Nat):Int)])
        rw[<-zaO (i:Int)]
        exact(s6.trans s7) _ _ h5
       ·show H7 t6=_
        have:H7 t6=_:=s7 _ _ h6
        rw[this]
        show _=some (HO.tup (q1i C st (i:Int).toNat .go).vs)
        rw[zk]
        simp only[q1i,ex]
        rw[go_end he]
        rfl
      ·obtain ⟨qs,hqs,rqs⟩:=g24
       exact⟨qs,by rw[qj ne.symm];exact s47 _ _ hqs,rqs.mono fun _ _ h=>PrAt.mono (s47.ts.trans ts8) h⟩
    clear hzz
    by_cases ya:st.rm=x.a
    ·rw [zu ya]
     walk_at "r"
     exact th
    ·rw [zn ya] at he' ⊢
     rw[zcy,zaT] at he'
     walk_at "r"
     rw[zu (za4 he'.1)]
     walk_at "r"
     rw[he'.2] at th ⊢
     walk_at "r"
     exact th
  ·rintro σ H3 ⟨v9,v10,v11,v12,v13,rfl,s3,g1,g2⟩
   rw[zk,hwl] at g1 g2
   walk_at "r"
   intro r hr0
   have s4:=Same.upd (o:= .tup [.ref D1,.ref D2]) hr0
   exact k r D1 D2 _ (s3.trans s4) hD1 hD2 ne qd (q3f (fun _ _ h=>PrAt.mono s4.ts h) s4 g1) (q3f (fun _ _ h=>PrAt.mono s4.ts h) s4 g2)
theorem qcy (T:Txt mg cs)(L:Laid K mg "_law_next" q1t ["_law_cave_here","_law_stand"])(w4:Cal P w K mg base 3 "_law_by_ways" ["_law_cave_here","_law_stand"] spByW):Cal P w K mg base 4 "_law_next" ["_law_cave_here","_law_stand"] q3E:=by
 refine L.cal (k:=3) qQ (fun vs H Q E h=>?_) (fun f cdv A outer s H vs Q E hr h=>?_)
 ·obtain ⟨c,q,C,st,rfl,_⟩:=h
  rfl
 ·obtain ⟨c,q,C,st,rfl,hC,ok,hq,sok,k⟩:=h
  have big:=qF
  obtain⟨pw,pt,pl,pv',h0,_,hth,hlv,hwh⟩:=hC.ex
  obtain⟨lv,hlv0,llv,glv⟩:=hlv.get
  obtain⟨tv,hth0,lth,gth⟩:=hth.get
  obtain⟨vv,hwh0,lwh,gwh⟩:=hwh.get
  have okl:=ok.ll
  have okt:=ok.tl
  have okv:=ok.vl
  have okw:=ok.wl
  have x1:(lv.length:Int)<=4:=by omega
  have x2:(tv.length:Int)<=8:=by omega
  have x3:(vv.length:Int)<=4:=by omega
  have hq':H q=some (.tup [.int st.rm,.int st.tk,.int st.op,.int st.b,.int st.wt]):=hq
  refine⟨_,(qb (q5S (pv 1) (q0y (n:=5) K rfl (qw (qp (i:=2) qQ.nd rfl (Or.inl rfl)) (qw (qp (i:=3) qQ.nd rfl (Or.inl rfl)) (qw (qp (i:=4) qQ.nd rfl (Or.inl rfl)) (qw (qp (i:=5) qQ.nd rfl (Or.inl rfl)) (qw (qp (i:=6) qQ.nd rfl (Or.inl rfl)) q0x)))))))
   (qb (q02 (qv q0f (pv 2) (qk (qh K) (pv 0) qe (fun _ _=>rfl)) (qr _)) (qg (qq (q0P qc))) qz)
   (qb (q5S (qH w4 hr (by decide) rfl (qa (pv 0) (qa (pv 1) qc))) (q0y (n:=2) K rfl (qw (qp (i:=7) qQ.nd rfl (Or.inl rfl)) (qw (qp (i:=8) qQ.nd rfl (Or.inl rfl)) q0x))))
   (qb (q0u PassesOwn.never rfl (q08 rfl T.wu (qa (qy (lenK K) rfl T.wm q0g (qa (qk (qh K) (pv 0) qe (fun _ _=>rfl)) qc)) qc)) (qp (i:=9) qQ.nd rfl (Or.inl rfl)) (qg (q02 (qv q0f (qk (qh K) (qk (qh K) (qk (qh K) (pv 0) qe (fun _ _=>rfl)) (pv 9) (fun _ _=>rfl)) qe (fun _ _=>rfl)) (pv 2) (qr _)) (qg (qN (q2A zF zN zO qS (pv 7) (qa (qC (qa (qC (qa qJ (qa (pv 9) qc))) (qa (qC (qa (pv 2) (qa (pv 3) (qa (pv 4) (qa (qm qby (pv 5) (qk (qh K) (qk (qh K) (qk (qh K) (pv 0) qe (fun _ _=>rfl)) (pv 9) (fun _ _=>rfl)) qe (fun _ _=>rfl))) (qa (pv 6) qc)))))) qc))) qc)))) qz)))
   (qb (q0u PassesOwn.never rfl (q08 rfl T.wu (qa (qy (lenK K) rfl T.wm q0g (qa (qk (qh K) (pv 0) qe (fun _ _=>rfl)) qc)) qc)) (qp (i:=9) qQ.nd rfl (Or.inl rfl)) (qg (q02 (PW.pt (q3e (qv q0f (qk (qh K) (qk (qh K) (qk (qh K) (pv 0) qe (fun _ _=>rfl)) (pv 9) (fun _ _=>rfl)) qe (fun _ _=>rfl)) (pv 2) (qr _)) (q2z (qv q0f (qm q4u (qm q4t (pv 3) (pv 9)) qe) qe (qr _))))) (qg (qN (q2A zF zN zO qS (pv 7) (qa (qC (qa (qC (qa qJ (qa (pv 9) qc))) (qa (qC (qa (pv 2) (qa (qm q03 (pv 3) (qm q72 qe (pv 9))) (qa (pv 4) (qa (pv 5) (qa (pv 6) qc)))))) qc))) qc)))) qz)))
   (qb (q0u PassesOwn.never rfl (q08 rfl T.wu (qa (qy (lenK K) rfl T.wm q0g (qa (qk (qh K) (pv 0) qe (fun _ _=>rfl)) qc)) qc)) (qp (i:=9) qQ.nd rfl (Or.inl rfl)) (qg (q02 (PW.pt (q3e (qv q0f (qk (qh K) (qk (qh K) (qk (qh K) (pv 0) qe (fun _ _=>rfl)) (pv 9) (fun _ _=>rfl)) qe (fun _ _=>rfl)) (pv 2) (qr _)) (q2z (qv q5T (qk (qh K) (qk (qh K) (qk (qh K) (pv 0) qe (fun _ _=>rfl)) (pv 9) (fun _ _=>rfl)) qe (fun _ _=>rfl)) (pv 6) (qr _))))) (qg (qN (q2A zF zN zO qS (pv 7) (qa (qC (qa (qC (qa qJ (qa (pv 9) qc))) (qa (qC (qa (pv 2) (qa (pv 3) (qa (pv 4) (qa (pv 5) (qa (qk (qh K) (qk (qh K) (qk (qh K) (pv 0) qe (fun _ _=>rfl)) (pv 9) (fun _ _=>rfl)) qe (fun _ _=>rfl)) qc)))))) qc))) qc)))) qz)))
   (qg (qq (qm q5V (pv 7) (pv 8)))))))))),?_⟩
  walk_at "r"
  refine ifd (fun e=>?_) (fun e=>?_)
  ·walk_at "r"
   intro r hr0
   exact k r _ (Same.upd hr0) hr0 (by rw[q9l e];exact⟨[],qd,Rows.nil⟩)
  rw[qd1 e] at k
  walk_at "r"
  refine⟨c,q,C,st,rfl,hC,ok,hq,sok,fun r D1 D2 H1 s1 n1 n2 ne hr1 g1 g2=>?_⟩
  have h01:=s1 _ _ h0
  have hlv1:=s1 _ _ hlv0
  have l0:=q0M C st .go C.ways.length
  have l5:=q0M C st .unlock C.ways.length
  walk_at "r"
  refine q2j (fun i σ H'=>∃v9,σ=[some (.ref c),some (.ref q),some (.int st.rm),some (.int st.tk),some (.int st.op),some (.int st.b),some (.int st.wt),some (.ref D1),some (.ref D2),v9]/\Same H H'/\qG (PrAt C st) H' D1 (canR C st .go C.ways.length++canR C st .pull i)/\qG (PrAt C st) H' D2 (canR C st .unlock C.ways.length)) ⟨none,rfl,s1,by rw[show canR C st .pull 0=[] from rfl,zM];exact g1,g2⟩ ?_ ?_
  ·rintro i σ H3 hi ⟨v9,rfl,s3,⟨ps,hps,rps⟩,⟨qs,hqs,rqs⟩⟩
   have hi2:i<C.levers.length:=by rw[<-llv];simpa using hi
   obtain⟨p2,hx,hp2⟩:=glv i hi2
   have hp3:=s3 _ _ hp2
   have h03:=s3 _ _ h0
   have hlv3:=s3 _ _ hlv0
   have l1:=q0M C st .pull i
   have hpl:ps.length<=40:=by rw[rps.1,zm];omega
   have ec:canB C st i .pull=decide (st.rm=C.levers[i].1):=by simp only[canB,yB hi2]
   rw[q2d]
   intro Dn hn hc hb hrt
   walk_at "r"
   refine ifd (fun z=>?_) (fun z=>?_)
   ·rw [show(if canB C st i .pull=true then [(Wd.pull,i)] else [])=[(Wd.pull,i)] from zi (by rw[ec];exact zu z.symm)] at hn
    walk_at "r"
    intro t5 ht5
    generalize hG5:upd _ t5 _=H4
    have s4:=q00 hG5 ht5
    have h4:=q01 hG5
    have hp4:=s4 _ _ hp3
    have h04:=s4 _ _ h03
    have hlv4:=s4 _ _ hlv3
    walk_at "r"
    intro t6 ht6
    generalize hG6:upd _ t6 _=H5
    have s5:=q00 hG6 ht6
    have h5:=q01 hG6
    walk_at "r"
    intro t7 ht7
    generalize hG7:upd _ t7 _=H6
    have s6:=q00 hG7 ht7
    have h6:=q01 hG7
    have s36:=s4.trans (s5.trans s6)
    have hps6:=s36 _ _ hps
    walk_at "r"
    refine q34 hps6 (by rw[yC];omega) ?_
    have ts:=q0p.lst (o:= .lst (ps.map V.ref++[.ref t7])) hps6
    refine hn _ _ ⟨_,rfl,(s3.trans s36).put n1,?_,⟨qs,by rw[qj ne.symm];exact s36 _ _ hqs,rqs.mono fun _ _ h=>PrAt.mono (s36.ts.trans ts) h⟩⟩
    rw[<-zq]
    refine qM (fun _ _ h=>PrAt.mono ts h) (rps.mono fun _ _ h=>PrAt.mono s36.ts h) ⟨t5,t6,h6,?_,?_⟩
    ·show H6 t5=some (.tup [.str Wd.pull.str,.int ((i:Nat):Int)])
     rw[<-zaO (i:Int)]
     exact(s5.trans s6) _ _ h4
    ·show H6 t6=some (HO.tup (q1i C st (i:Int).toNat .pull).vs)
     rw[zk]
     simp only[q1i,yB hi2]
     exact s6 _ _ h5
   ·rw [show(if canB C st i .pull=true then [(Wd.pull,i)] else [])=[] from zd (by rw[ec,zn fun y=>z y.symm];exact zl),zM] at hn
    walk_at "r"
    exact hn _ _ ⟨_,rfl,s3,⟨ps,hps,rps⟩,⟨qs,hqs,rqs⟩⟩
  ·rintro σ H2 ⟨v9,rfl,s2,g1,g2⟩
   rw[zk,llv] at g1
   have l1:=q0M C st .pull C.levers.length
   have h02:=s2 _ _ h0
   have hth2:=s2 _ _ hth0
   walk_at "r"
   refine q2j (fun i σ H'=>∃v9,σ=[some (.ref c),some (.ref q),some (.int st.rm),some (.int st.tk),some (.int st.op),some (.int st.b),some (.int st.wt),some (.ref D1),some (.ref D2),v9]/\Same H H'/\qG (PrAt C st) H' D1 (canR C st .go C.ways.length++canR C st .pull C.levers.length++canR C st .take i)/\qG (PrAt C st) H' D2 (canR C st .unlock C.ways.length)) ⟨v9,rfl,s2,by rw[show canR C st .take 0=[] from rfl,zM];exact g1,g2⟩ ?_ ?_
   ·rintro i σ H3 hi ⟨v9,rfl,s3,⟨ps,hps,rps⟩,⟨qs,hqs,rqs⟩⟩
    have hi2:i<C.things.length:=by rw[<-lth];simpa using hi
    obtain⟨p2,hx,hp2⟩:=gth i hi2
    have hp3:=s3 _ _ hp2
    have h03:=s3 _ _ h0
    have hth3:=s3 _ _ hth0
    have l2:=q0M C st .take i
    have hpl:ps.length<=40:=by rw[rps.1,zm,zm];omega
    have ec:canB C st i .take=(decide (st.rm=C.things[i].1)&& !bit st.tk i):=by simp only[canB,yB hi2]
    rw[q2d]
    intro Dn hn hc hb hrt
    walk_at "r"
    refine ifd (fun z=>?_) (fun z=>?_)
    ·walk_at "r"
     rw[zaO (i:Int),zk,q4z]
     cases hbt:bit st.tk i with
     |true=>
      rw[show(if canB C st i .take=true then [(Wd.take,i)] else [])=[] from zd (by rw[ec,hbt,Bool.not_true,zcX];exact zl),zM] at hn
      walk_at "r"
      exact hn _ _ ⟨_,rfl,s3,⟨ps,hps,rps⟩,⟨qs,hqs,rqs⟩⟩
     |false=>
      rw[show(if canB C st i .take=true then [(Wd.take,i)] else [])=[(Wd.take,i)] from zi (by rw[ec,hbt,zu z.symm];rfl)] at hn
      walk_at "r"
      intro t5 ht5
      generalize hG5:upd _ t5 _=H4
      have s4:=q00 hG5 ht5
      have h4:=q01 hG5
      walk_at "r"
      intro t6 ht6
      generalize hG6:upd _ t6 _=H5
      have s5:=q00 hG6 ht6
      have h5:=q01 hG6
      walk_at "r"
      intro t7 ht7
      generalize hG7:upd _ t7 _=H6
      have s6:=q00 hG7 ht7
      have h6:=q01 hG7
      have s36:=s4.trans (s5.trans s6)
      have hps6:=s36 _ _ hps
      walk_at "r"
      refine q34 hps6 (by rw[yC];omega) ?_
      have ts:=q0p.lst (o:= .lst (ps.map V.ref++[.ref t7])) hps6
      refine hn _ _ ⟨_,rfl,(s3.trans s36).put n1,?_,⟨qs,by rw[qj ne.symm];exact s36 _ _ hqs,rqs.mono fun _ _ h=>PrAt.mono (s36.ts.trans ts) h⟩⟩
      rw[<-zq]
      refine qM (fun _ _ h=>PrAt.mono ts h) (rps.mono fun _ _ h=>PrAt.mono s36.ts h) ⟨t5,t6,h6,?_,?_⟩
      ·show H6 t5=some (.tup [.str Wd.take.str,.int ((i:Nat):Int)])
       exact(s5.trans s6) _ _ h4
      ·show H6 t6=some (HO.tup (q1i C st (i:Int).toNat .take).vs)
       rw[zk]
       have:H6 t6=_:=s6 _ _ h5
       rw[zb0,zk] at this
       exact this
    ·rw [show(if canB C st i .take=true then [(Wd.take,i)] else [])=[] from zd (by rw[ec,zn fun y=>z y.symm];exact zl),zM] at hn
     walk_at "r"
     exact hn _ _ ⟨_,rfl,s3,⟨ps,hps,rps⟩,⟨qs,hqs,rqs⟩⟩
   ·rintro σ H2 ⟨v9,rfl,s2,g1,g2⟩
    rw[zk,lth] at g1
    have l2:=q0M C st .take C.things.length
    have h02:=s2 _ _ h0
    have hwh2:=s2 _ _ hwh0
    walk_at "r"
    refine q2j (fun i σ H'=>∃v9,σ=[some (.ref c),some (.ref q),some (.int st.rm),some (.int st.tk),some (.int st.op),some (.int st.b),some (.int st.wt),some (.ref D1),some (.ref D2),v9]/\Same H H'/\qG (PrAt C st) H' D1 (canR C st .go C.ways.length++canR C st .pull C.levers.length++canR C st .take C.things.length++canR C st .turn i)/\qG (PrAt C st) H' D2 (canR C st .unlock C.ways.length)) ⟨v9,rfl,s2,by rw[show canR C st .turn 0=[] from rfl,zM];exact g1,g2⟩ ?_ ?_
    ·rintro i σ H3 hi ⟨v9,rfl,s3,⟨ps,hps,rps⟩,⟨qs,hqs,rqs⟩⟩
     have hi2:i<C.wheels.length:=by rw[<-lwh];simpa using hi
     obtain⟨p2,hx,hp2⟩:=gwh i hi2
     have hp3:=s3 _ _ hp2
     have h03:=s3 _ _ h0
     have hwh3:=s3 _ _ hwh0
     have l3:=q0M C st .turn i
     have hpl:ps.length<=40:=by rw[rps.1,zm,zm,zm];omega
     have ec:canB C st i .turn=(decide (st.rm=C.wheels[i].1)&& !decide (st.wt=C.wheels[i].2)):=by simp only[canB,yB hi2]
     rw[q2d]
     intro Dn hn hc hb hrt
     walk_at "r"
     refine ifd (fun z=>?_) (fun z=>?_)
     ·walk_at "r"
      by_cases hbt:C.wheels[i].2=st.wt
      ·rw [show(if canB C st i .turn=true then [(Wd.turn,i)] else [])=[] from zd (by rw[ec,zu hbt.symm,Bool.not_true,zcX];exact zl),zM] at hn
       rw[zu hbt]
       walk_at "r"
       exact hn _ _ ⟨_,rfl,s3,⟨ps,hps,rps⟩,⟨qs,hqs,rqs⟩⟩
      ·rw [show(if canB C st i .turn=true then [(Wd.turn,i)] else [])=[(Wd.turn,i)] from zi (by rw[ec,zn (show¬st.wt=C.wheels[i].2 from fun y=>hbt y.symm),zu z.symm];rfl)] at hn
       rw[zn hbt]
       walk_at "r"
       intro t5 ht5
       generalize hG5:upd _ t5 _=H4
       have s4:=q00 hG5 ht5
       have h4:=q01 hG5
       have hp4:=s4 _ _ hp3
       have h04:=s4 _ _ h03
       have hwh4:=s4 _ _ hwh3
       walk_at "r"
       intro t6 ht6
       generalize hG6:upd _ t6 _=H5
       have s5:=q00 hG6 ht6
       have h5:=q01 hG6
       walk_at "r"
       intro t7 ht7
       generalize hG7:upd _ t7 _=H6
       have s6:=q00 hG7 ht7
       have h6:=q01 hG7
       have s36:=s4.trans (s5.trans s6)
       have hps6:=s36 _ _ hps
       walk_at "r"
       refine q34 hps6 (by rw[yC];omega) ?_
       have ts:=q0p.lst (o:= .lst (ps.map V.ref++[.ref t7])) hps6
       refine hn _ _ ⟨_,rfl,(s3.trans s36).put n1,?_,⟨qs,by rw[qj ne.symm];exact s36 _ _ hqs,rqs.mono fun _ _ h=>PrAt.mono (s36.ts.trans ts) h⟩⟩
       rw[<-zq]
       refine qM (fun _ _ h=>PrAt.mono ts h) (rps.mono fun _ _ h=>PrAt.mono s36.ts h) ⟨t5,t6,h6,?_,?_⟩
       ·show H6 t5=some (.tup [.str Wd.turn.str,.int ((i:Nat):Int)])
        rw[<-zaO (i:Int)]
        exact(s5.trans s6) _ _ h4
       ·show H6 t6=some (HO.tup (q1i C st (i:Int).toNat .turn).vs)
        rw[zk]
        simp only[q1i,yB hi2]
        exact s6 _ _ h5
     ·rw [show(if canB C st i .turn=true then [(Wd.turn,i)] else [])=[] from zd (by rw[ec,zn fun y=>z y.symm];exact zl),zM] at hn
      walk_at "r"
      exact hn _ _ ⟨_,rfl,s3,⟨ps,hps,rps⟩,⟨qs,hqs,rqs⟩⟩
    ·rintro σ H2 ⟨v9,rfl,s2,g1,g2⟩
     rw[zk,lwh] at g1
     have l3:=q0M C st .turn C.wheels.length
     walk_at "r"
     exact qde (At:=PrAt C st) (fun ts _ _ h=>PrAt.mono ts h) g1 g2 (by simp only[List.length_append];omega) fun r H4 s4 hr4 g4=>k r H4 (s2.trans s4) (s2.free hr4) g4
def qbm (K:W.Frag):Sp:=fun vs H Q _=>∃(a:Addr) (ns:List Int) (fi:Int) (tot:Nat),vs=[.ref a,.int fi,.int tot]/\SqL K H a (ns.map V.int)/\ns.length<=63/\0<=fi/\fi<=1000/\tot<=60/\∀(r:Addr) (ms:List Int) (H':Hp),Same H H'->H r=none->H' r=some (.lst (ms.map V.int))->ms.length=tot->(∀x∈ms,0<=x)->Q (.ref r) H'
def q8f:Sp:=fun vs H Q _=>∃n b:Int,vs=[.int n,.int b]/\∀(p:Addr) (g:Gt) (H':Hp),Same H H'->g.ok->H' p=some (.tup g.vs)->Q (.ref p) H'
theorem qcx (T:Txt mg cs)(L:Laid K mg "_law_numbers" q0I ["_law_script","_law_first","_law_total"])(wA:Cal P w K mg base 1 "_law_cell_at" ["_law_script","_law_k"] (q6m K)):Cal P w K mg base 2 "_law_numbers" ["_law_script","_law_first","_law_total"] (qbm K):=by
 refine L.cal (k:=1) q0d (fun vs H Q E h=>?_) (fun f cdv A outer s H vs Q E hr h=>?_)
 ·obtain ⟨a,ns,fi,tot,rfl,_⟩:=h
  rfl
 ·obtain ⟨a,ns,fi,tot,rfl,hS,hl,f0,f1,ht,k⟩:=h
  have big:=qF
  refine⟨_,(qb (qx (i:=3) q0d.nd rfl (Or.inl rfl) (q0P qc))
   (qb (qx (i:=4) q0d.nd rfl (Or.inl rfl) (qm q03 qe (pv 1)))
   (qb (q0u PassesOwn.never rfl (q08 rfl T.wu (qa (pv 2) qc)) (qp (i:=5) q0d.nd rfl (Or.inl rfl)) (qb (qx (i:=6) q0d.nd rfl (Or.inl rfl) (qH wA hr (by decide) rfl (qa (pv 0) (qa (qm q03 qe (qm qK (qm q03 (pv 1) (pv 5)) (qy (max2 rfl) rfl T.wa8 qbM (qa qe (qa (qm q2a (qy (lenK K) rfl T.wm q0g (qa (pv 0) qc)) qe) qc))))) qc))))
   (qb (qx (i:=4) q0d.nd rfl (Or.inl rfl) (qm qK (qm q03 (qm q03 (qm q5U (pv 4) qe) (pv 6)) (qm q5U (pv 5) (pv 5))) qe))
   (qg (qN (q2A zF zN zO qS (pv 3) (qa (pv 4) qc)))))))
   (qg (qq (pv 3)))))),?_⟩
  walk_at "r"
  intro r hr0
  walk_at "r"
  refine q42 (fun i σ H'=>∃n v5 v6,σ=[some (.ref a),some (.int fi),some (.int tot),some (.ref r),some (.int n),v5,v6]/\Same H H'/\∃ms:List Int,ms.length=i/\(∀x∈ms,0<=x)/\H' r=some (.lst (ms.map V.int))) ⟨_,none,none,rfl,Same.upd hr0,[],rfl,(fun x hx=>nomatch hx),qd⟩ ?_ ?_
  ·rintro i σ H' hi ⟨n,v5,v6,rfl,s1,ms,hm,hx,hr1⟩
   have hS1:=s1.seq hS
   have mp:(0:Int)<(if ((ns.map V.int).length:Int) - 2>1 then((ns.map V.int).length:Int) - 2 else 1):=by split<;>omega
   have m0:=q04 (fi+(0+(i:Nat))) mp
   walk_at "r"
   refine⟨a,ns,_,rfl,hS1,hl,?_,?_⟩
   ·omega
   walk_at "r"
   refine q34 hr1 (by rw[yC];omega) ?_
   refine⟨_,_,_,rfl,s1.put hr0,?_⟩
   refine⟨ms++[_],by simp[hm],fun x hx'=>?_,by rw[qd,zR];rfl⟩
   rcases zr.mp hx' with z|z
   ·exact hx x z
   ·rw [zp.mp z]
    exact q04 _ (by decide)
  ·rintro σ H' ⟨n,v5,v6,rfl,s1,ms,hm,hx,hr1⟩
   walk_at "r"
   exact k r ms H' s1 hr0 hr1 (by simpa using hm) hx
theorem qaB (T:Txt mg cs)(L:Laid K mg "_law_gate" q1w ["_law_number","_law_base"]):Cal P w K mg base 1 "_law_gate" ["_law_number","_law_base"] q8f:=by
 refine L.cal (k:=0) q21 (fun vs H Q E h=>?_) (fun f cdv A outer s H vs Q E hr h=>?_)
 ·obtain ⟨n,b,rfl,_⟩:=h
  rfl
 ·obtain ⟨n,b,rfl,k⟩:=h
  have a0:=q04 (b+n / 12 % 3) (n:=12) (by decide)
  have a1:=q0a (b+n / 12 % 3) (n:=12) (by decide)
  have b0:=q04 (b+n / 36 % 3) (n:=8) (by decide)
  have b1:=q0a (b+n / 36 % 3) (n:=8) (by decide)
  have c0:=q04 (n / 36) (n:=10) (by decide)
  have c1:=q0a (n / 36) (n:=10) (by decide)
  have need:∀p,H p=none->Q (.ref p) (upd H p (.tup [.str "need",.int ((b+n / 12 % 3) % 12)])):=fun p hp=>k p (.need ((b+n / 12 % 3) % 12)) _ (Same.upd hp) ⟨a0,a1⟩ qd
  refine⟨_,(qb (qx (i:=2) q21.nd rfl (Or.inl rfl) (qm qK (qm q03 (pv 1) (qm qK (qm qV (pv 0) qe) qe)) qe))
   (qb (qx (i:=3) q21.nd rfl (Or.inl rfl) (qm qK (pv 0) qe))
   (qb (q02 (qv q6v (pv 3) qe (qr _)) (qg (qq (qC (qa qJ qc)))) qz)
   (qb (q02 (PW.pt (q2O (qv q0f (pv 3) qe (qr _)) (q25 (qv q0f (pv 3) qe (qr _))))) (qg (qq (qC (qa qJ (qa (pv 2) qc))))) qz)
   (qb (q02 (PW.pt (q2O (qv q0f (pv 3) qe (qr _)) (q25 (qv q0f (pv 3) qe (qr _))))) (qg (qq (qC (qa qJ (qa (pv 2) qc))))) qz)
   (qb (q02 (qv q0f (pv 3) qe (qr _)) (qg (qq (qC (qa qJ (qa (qm qK (qm q03 (pv 1) (qm qK (qm qV (pv 0) qe) qe)) qe) qc))))) qz)
   (qb (q02 (qv q0f (pv 3) qe (qr _)) (qg (qq (qC (qa qJ (qa (qm qK (qm qV (pv 0) qe) qe) (qa (pv 2) qc)))))) qz)
   (qg (qq (qC (qa qJ (qa (qm qK (qm qV (pv 0) qe) qe) qc)))))))))))),?_⟩
  walk_at "r"
  refine ifd (fun h1=>?_) (fun h1=>?_)
  ·walk_at "r"
   exact fun p hp=>k p .plain _ (Same.upd hp) trivial qd
  walk_at "r"
  refine ifd (fun h2=>?_) (fun h2=>?_)
  ·walk_at "r"
   exact fun p hp=>k p (.door ((b+n / 12 % 3) % 12)) _ (Same.upd hp) ⟨a0,a1⟩ qd
  walk_at "r"
  refine ifd (fun h2b=>?_) (fun h2b=>?_)
  ·walk_at "r"
   exact fun p hp=>k p (.door ((b+n / 12 % 3) % 12)) _ (Same.upd hp) ⟨a0,a1⟩ qd
  walk_at "r"
  refine ifd (fun h3=>?_) (fun h3=>?_)
  ·walk_at "r"
   exact need
  walk_at "r"
  refine ifd (fun h4=>?_) (fun h4=>?_)
  ·walk_at "r"
   exact need
  walk_at "r"
  refine ifd (fun h5=>?_) (fun h5=>?_)
  ·walk_at "r"
   exact fun p hp=>k p (.bar ((b+n / 36 % 3) % 8)) _ (Same.upd hp) ⟨b0,b1⟩ qd
  walk_at "r"
  refine ifd (fun h6=>?_) (fun h6=>?_)
  ·walk_at "r"
   exact fun p hp=>k p (.wade (n / 36 % 10) ((b+n / 12 % 3) % 12)) _ (Same.upd hp) ⟨⟨c0,c1⟩,a0,a1⟩ qd
  walk_at "r"
  exact fun p hp=>k p (.float (n / 36 % 10)) _ (Same.upd hp) ⟨c0,c1⟩ qd
end
theorem sml_b {n:Int}(h0:0<=n)(h1:n<2 ^ 400):Sml n:=Sml.of (by
 have:n.natAbs<2 ^ 400:=by omega
 exact zT this (Nat.pow_le_pow_right (by decide) (by decide)))
theorem pow_b {n m:Nat}(h:n<=m):(2:Int) ^ n<=2 ^ m:=by
 have:=Nat.pow_le_pow_right (n:=2) (by decide) h
 exact_mod_cast this
theorem qc9 {C:Cl}{s:Sd}(ok:ClOk C)(h:s.ok C):∀x∈s.vs,q6K x:=by
 have h1:=h.hrm
 have h2:=h.htk
 have h3:=h.hop
 have h4:=h.hb
 have h5:=h.hwt
 have r:=ok.r2
 have w:=ok.wl
 have t:=ok.tl
 have p1:=pow_b (n:=C.things.length) (m:=8) t
 have p2:=pow_b (n:=C.ways.length) (m:=20) w
 have b:∀n:Int,0<=n->n<2 ^ 30->q6K (.int n):=fun n a c=>sml_b a (Int.lt_trans c (by walk_at "k"))
 intro x hx
 simp only[Sd.vs,List.mem_cons,List.not_mem_nil,or_false] at hx
 rcases hx with rfl|rfl|rfl|rfl|rfl
 ·exact b _ h1.1 (by omega)
 ·exact b _ h2.1 (by omega)
 ·exact b _ h3.1 (by omega)
 ·exact b _ h4.1 (by omega)
 ·exact b _ h5.1 (by omega)
def knD (row:List Sd):Dk:=row.map fun x=>(x,V.bl true)
theorem q7a (row:List Sd):(knD row).map (·.1)=row:=by
 unfold knD
 rw[zP]
 exact(zab fun a _=>rfl).trans (zay row)
theorem q7I {row:List Sd}{y:Sd}(h:row.Nodup)(hy:y∉row):(row++[y]).Nodup:=zaJ.mpr ⟨h,by simp,fun a ha b hb e=>hy (by rw[List.mem_singleton.mp hb] at e;rw[<-e];exact ha)⟩
theorem q53 (ms:List Int)(i j:Nat)(h:j<=ms.length)(hij:i<=j):cutV (ms.map V.int) (some (i:Int)) (some (j:Int))=((ms.drop i).take (j - i)).map V.int:=by
 unfold cutV
 rw[HT.q8o,HT.q8o,yC,zbA (show i<=ms.length by omega),zbA h,List.map_take,List.map_drop]
def st0 (C:Cl):Sd:=⟨C.fst,0,0,C.bars,C.water⟩
def minO:List (Option Int)->Option Int
 |[]=>none
 |none::l=>minO l
 |some a::l=>match minO l with
  |none=>some a
  |some b=>some (min a b)
def dueN (C:Cl)(N:Sd->Option Int)(x:Sd):Option Int:=if x.rm=C.lst then some 0 else(minO ((nx C x).map N)).map (1+ ·)
structure NearF (C:Cl)(row:List Sd)(N:Sd->Option Int):Prop where
 ge:∀x∈row,∀m,N x=some m->0<=m
 eq:∀x∈row,N x=dueN C N x
theorem q2S:∀{l:List (Option Int)},minO l=none↔∀x∈l,x=none
 |[]=>by simp[minO]
 |none::l=>by simp[minO,q2S (l:=l)]
 |some a::l=>by
  constructor
  ·intro h
   unfold minO at h
   split at h<;>cases h
  ·intro h
   have:=h (some a) zae
   cases this
theorem q16:∀{l:List (Option Int)} {m:Int},minO l=some m↔some m∈l/\∀b,some b∈l->m<=b
 |[],m=>by simp[minO]
 |none::l,m=>by simp[minO,q16 (l:=l)]
 |some a::l,m=>by
  unfold minO
  cases h:minO l with
  |none=>
   have hn:=q2S.mp h
   constructor
   ·intro e
    cases e
    refine⟨zae,fun b hb=>?_⟩
    rcases zx.mp hb with e|e
    ·cases e;exact zbK _
    ·cases hn _ e
   ·rintro ⟨h1,h2⟩
    rcases zx.mp h1 with e|e
    ·cases e;rfl
    ·cases hn _ e
  |some c=>
   obtain⟨c1,c2⟩:=q16.mp h
   constructor
   ·intro e
    have e:min a c=m:=zH e
    refine⟨?_,fun b hb=>?_⟩
    ·rw [<-e]
     rcases Int.le_total a c with z|z
     ·rw [Int.min_eq_left z];exact zae
     ·rw [Int.min_eq_right z];exact zw _ c1
    ·rcases zx.mp hb with e2|e2
     ·cases e2;omega
     ·have:=c2 b e2;omega
   ·rintro ⟨h1,h2⟩
    have h3:=h2 a zae
    have h4:=h2 c (zw _ c1)
    rcases zx.mp h1 with e|e
    ·cases e;show some (min _ _)=_;congr 1;omega
    ·have:=c2 m e;show some (min _ _)=_;congr 1;omega
theorem NearF.uniq {C:Cl}{row:List Sd}{N M:Sd->Option Int}(hn:NearF C row N)(hm:NearF C row M)(cl:∀x∈row,∀y∈nx C x,y∈row):∀x∈row,N x=M x:=by
 have key:∀n:Nat,∀x∈row,(N x=some (n:Int)↔M x=some (n:Int)):=by
  intro n
  induction n using Nat.strongRecOn with
  |ind n ih=>
   have one:∀{N M:Sd->Option Int},NearF C row N->NearF C row M->(∀k,k<n->∀x∈row,(N x=some (k:Int)↔M x=some (k:Int)))->∀x∈row,N x=some (n:Int)->M x=some (n:Int):=by
    intro N M hn hm ih x hx e
    have e1:=hn.eq x hx
    have e2:=hm.eq x hx
    unfold dueN at e1 e2
    by_cases hl:x.rm=C.lst
    ·rw [zi hl] at e1 e2
     rw[e2,<-e1];exact e
    ·rw [zd hl] at e1 e2
     rw[e] at e1
     obtain⟨m,h1,h2⟩:=zaP.mp e1.symm
     obtain⟨h3,h4⟩:=q16.mp h1
     obtain⟨y,hy,ey⟩:=zK.mp h3
     have hyr:=cl x hx y hy
     have m0:=hn.ge y hyr m ey
     obtain⟨k,rfl⟩:=zbr m0
     have hk:k<n:=by omega
     have ey2:=(ih k hk y hyr).mp ey
     have hsome:some ((k:Nat):Int)∈(nx C x).map M:=zK.mpr ⟨y,hy,ey2⟩
     cases hmo:minO ((nx C x).map M) with
     |none=>have:=q2S.mp hmo _ hsome;cases this
     |some b=>
      obtain⟨b1,b2⟩:=q16.mp hmo
      have hb:=b2 _ hsome
      obtain⟨y',hy',eb⟩:=zK.mp b1
      have b0:=hm.ge y' (cl x hx y' hy') b eb
      obtain⟨j,rfl⟩:=zbr b0
      have hj:j<n:=by omega
      have eb2:=(ih j hj y' (cl x hx y' hy')).mpr eb
      have:=h4 _ (zK.mpr ⟨y',hy',eb2⟩)
      rw[e2,hmo]
      show some (1+(j:Int))=some (n:Int)
      congr 1
      omega
   exact fun x hx=>⟨one hn hm ih x hx,one hm hn (fun k hk y hy=>(ih k hk y hy).symm) x hx⟩
 intro x hx
 cases h:N x with
 |some m=>
  obtain⟨k,rfl⟩:=zbr (hn.ge x hx m h)
  exact((key k x hx).mp h).symm
 |none=>
  cases g:M x with
  |none=>rfl
  |some m=>
   obtain⟨k,rfl⟩:=zbr (hm.ge x hx m g)
   rw[(key k x hx).mpr g] at h
   cases h
def cntO (L:List (Sd×Int))(x:Sd):Option Int:=(L.find? fun p=>decide (p.1=x)).map (·.2)
theorem q17 {L:List (Sd×Int)}(nd:(L.map (·.1)).Nodup){x:Sd}{m:Int}:cntO L x=some m↔(x,m)∈L:=by
 unfold cntO
 constructor
 ·intro h
  obtain⟨p,hp,e⟩:=zaP.mp h
  have h1:=List.mem_of_find?_eq_some hp
  have h2:=List.find?_some hp
  have e1:p.1=x:=by simpa using h2
  have:p=(x,m):=Prod.ext e1 e
  rw[<-this];exact h1
 ·intro h
  induction L with
  |nil=>cases h
  |cons p L ih=>
   rw[zam,zaZ] at nd
   rcases zx.mp h with e|e
   ·rw [<-e];simp
   ·have:¬p.1=x:=fun z=>nd.1 (zK.mpr ⟨_,e,z.symm⟩)
    rw[List.find?_cons,zn this]
    exact ih nd.2 e
theorem qb9 {L:List (Sd×Int)}(x:Sd):dat (cnL L) x=(cntO L x).map V.int:=by
 unfold dat cnL cntO
 rw[List.find?_map,Option.map_map,Option.map_map]
 rfl
theorem qaI {C:Cl}{row:List Sd}{L:List (Sd×Int)}(cl:∀x∈row,∀y∈nx C x,y∈row)(h:CntE (gE (eds (nxF C (fitD C)) row)) (row.filter (gl C none)) L):NearF C row (cntO L):=by
 have mg:∀x y,x∈gE (eds (nxF C (fitD C)) row) y↔x∈row/\y∈nx C x:=fun x y=>by
  rw[qbB,q8T]
  rfl
 have hfin:∀x,x∈row.filter (gl C none)↔x∈row/\x.rm=C.lst:=fun x=>by
  rw[zbt]
  simp[gl]
 refine⟨fun x hx m e=>h.ge _ ((q17 h.nd).mp e),fun x hx=>?_⟩
 unfold dueN
 by_cases hl:x.rm=C.lst
 ·rw [zi hl]
  exact(q17 h.nd).mpr (h.bz x ((hfin x).mpr ⟨hx,hl⟩))
 ·rw [zd hl]
  cases e:cntO L x with
  |some m=>
   have hm:=(q17 h.nd).mp e
   rcases h.up _ hm with⟨z,_⟩|⟨p,hp,hg,em⟩
   ·exact absurd ((hfin x).mp z).2 hl
   ·obtain ⟨_,hy⟩:=(mg _ _).mp hg
    have e1:minO ((nx C x).map (cntO L))=some p.2:=q16.mpr ⟨zK.mpr ⟨p.1,hy,(q17 h.nd).mpr hp⟩,fun b hb=>by
     obtain⟨y,hy2,eb⟩:=zK.mp hb
     have hyL:=(q17 h.nd).mp eb
     have:=h.le _ hyL x ((mg _ _).mpr ⟨hx,hy2⟩) m hm
     have:m<=b+1:=this
     have:m=p.2+1:=em
     omega⟩
    rw[e1]
    show some m=some (1+p.2)
    have:m=p.2+1:=em
    congr 1;omega
  |none=>
   cases e2:minO ((nx C x).map (cntO L)) with
   |none=>rfl
   |some b=>
    obtain⟨b1,_⟩:=q16.mp e2
    obtain⟨y,hy,eb⟩:=zK.mp b1
    have hyL:=(q17 h.nd).mp eb
    have:=h.cl _ hyL x ((mg _ _).mpr ⟨hx,hy⟩)
    obtain⟨q,hq,eq⟩:=zK.mp this
    have:cntO L x=some q.2:=(q17 h.nd).mpr (by rw[<-eq];exact hq)
    rw[e] at this;cases this
def spNC:Sp:=fun vs H Q _=>∃(c d:Addr) (C:Cl) (row:List Sd),vs=[.ref c,.ref d]/\ClAt H c C/\WAt H d C (fitD C) row/\(∀x∈row,∀y∈nx C x,y∈row)/\
 ∀(t:Addr) (L:List (Sd×Int)) (H':Hp),Same H H'->H t=none->DAtS H' t (cnL L)->NearF C row (cntO L)->Q (.ref t) H'
structure NrF (C:Cl)(R:List Sd)(N:Sd->Option Int):Prop where
 nd:R.Nodup
 ord:Ord R
 mem:∀x,x∈R↔Rch (NxR C) (st0 C) x
 len:R.length<=300
 near:NearF C R N
def NrAt (C:Cl)(H:Hp)(r:Addr)(R:List Sd)(N:Sd->Option Int):Prop:=qG SvAt H r (R.map fun x=>(x,N x))/\NrF C R N
def q7Z (C:Cl):Prop:=∃row:List Sd,row.Nodup/\(∀x∈row,Rch (NxR C) (st0 C) x)/\300<row.length
def q6j (X:Addr):Sp:=fun vs H Q E=>∃(c:Addr) (C:Cl),vs=[.ref c]/\ClAt H c C/\ClOk C/\(∀(r:Addr) (R:List Sd) (N:Sd->Option Int) (H':Hp),Same H H'->H r=none->NrAt C H' r R N->Q (.ref r) H')/\(q7Z C->∀H',Same H H'->E (.ref X) none H')
theorem qa3 {α:Type}{At:Hp->Addr->α->Prop}{H:Hp}{ps:List Addr}{xs:List α}(h:Rows At H ps xs):∃M:List (Addr×α),M.map (·.1)=ps/\M.map (·.2)=xs/\∀x∈M,At H x.1 x.2:=by
 refine⟨ps.zip xs,List.map_fst_zip (by rw[h.1];exact ze _),zcP (by rw[h.1];exact ze _),fun x hx=>?_⟩
 obtain⟨j,hj,e⟩:=zal hx
 rw[List.length_zip] at hj
 rw[<-e]
 simp only[List.getElem_zip]
 exact h.2 j _ _ (yB (by omega)) (yB (by omega))
theorem q7b {C:Cl}{s:Sd}{row:List Sd}(h:∀x,x∈row↔Rch (NxR C) s x):∀x∈row,∀y∈nx C x,y∈row:=fun x hx y hy=>(h y).mpr (((h x).mp hx).step hy)
section
variable {P:Program}{w:World}{K:W.Frag}{mg:Str->Option Value}{base:Heap}{xs:Xs}{cs:Cs}
theorem ok_nc (T:Txt mg cs)(L:Laid K mg "near_counts" q0T ["cellar","walk"])(vK:Cal P w K mg base 1 "ends_of" ["cellar","walk"] qbo)(vE:Cal P w K mg base 2 "counts_to" ["ends","walk"] spCTo):Cal P w K mg base 3 "near_counts" ["cellar","walk"] spNC:=by
 refine L.cal (k:=2) q4i (fun vs H Q E h=>?_) (fun f cdv A outer s H vs Q E hr h=>?_)
 ·obtain ⟨c,d,C,row,rfl,_⟩:=h
  rfl
 ·obtain ⟨c,d,C,row,rfl,hC,hW,cl,k⟩:=h
  refine⟨_,(qg (qq (qH vE hr (by decide) rfl (qa (qH vK hr (by decide) rfl (qa (pv 0) (qa (pv 1) qc))) (qa (pv 1) qc))))),?_⟩
  walk_at "r"
  refine⟨c,d,C,fitD C,row,rfl,hC,hW,fun r H1 s1 hr0 hr1=>?_⟩
  walk_at "r"
  exact⟨r,d,C,fitD C,row,_,rfl,hr1,hW.nd.sublist List.filter_sublist,fun x hx=>(zbt.mp hx).1,hW.same s1,cl,fun t L H2 s2 ht0 dt ce _=>k t L H2 (s1.trans s2) (s1.free ht0) dt (qaI cl ce)⟩
theorem qaw (T:Txt mg cs)(TX:Tx K mg xs)(L:Laid K mg "nears" q3L ["cellar"])(vZ:Cal P w K mg base 1 "start" ["cellar"] q6i)(vx:CalX P w K mg base 9 "walk_from" ["cellar","begin"] (spWFX xs.Wide))(vb:Cal P w K mg base 3 "near_counts" ["cellar","walk"] spNC):CalX P w K mg base 10 "nears" ["cellar"] (q6j xs.Wide):=by
 refine L.calX (k:=9) q4L (fun vs H Q E h=>?_) (fun f cdv A outer s H vs Q E hr h=>?_)
 ·obtain ⟨c,C,rfl,_⟩:=h
  rfl
 ·obtain ⟨c,C,rfl,hC,ok,k,ke⟩:=h
  have big:=qF
  have sok:(st0 C).ok C:=q4F ok
  refine⟨_,(qb (qx (i:=1) q4L.nd rfl (Or.inl rfl) (q8E (q8H vx q8J hr (by decide) rfl (qa (pv 0) (qa (qH vZ hr (by decide) rfl (qa (pv 0) qc)) qc)))))
   (qb (qx (i:=2) q4L.nd rfl (Or.inr rfl) (qH vb hr (by decide) rfl (qa (pv 0) (qa (pv 1) qc))))
   (qg (qq (qy (sortPK K (hu5_of hr)) rfl T.vT q69 (qa (pe_nox (q1P (q0G (N:=["stand","counts"]) (own:=1) (caps:=[2]) ["cellar","walk","counts"] (qf q3L) (by walk_at "k")) rfl (q8D K (pv 1)) (fun _ _ _ _=>(qp (i:=0) (show List.Nodup (["stand","counts"]:List Str) by walk_at "k") rfl (Or.inl rfl))) (fun _ _ _ _=>q1W) (fun _ _ _ _=>(qC (qa (pv 0) (qa (qam (q0E hr) (pv 1) (pv 0) ⟨rfl,rfl,rfl,rfl⟩) qc)))))) qc)))))),?_⟩
  walk_at "r"
  refine⟨c,C,rfl,hC,fun q H1 s1 hq1=>?_⟩
  walk_at "r"
  refine⟨c,q,C,st0 C,rfl,hC.mono s1.ts,ok,qc9 ok sok,hq1,sok,fun d row ls H2 s2 hd0 dd rls nd rl hmem=>?_,fun row H2 s2 nd hr2 hl2=>ke ⟨row,nd,hr2,hl2⟩ _ (s1.trans s2)⟩
  refine⟨d,_,rfl,dd,fun ob=>?_⟩
  have ts3:=q52 (o:= .frz ob (.dT (dkv (lkD row ls)))) dd
  have s3:Same H1 (upd H2 d (.frz ob (.dT (dkv (lkD row ls))))):=s2.put hd0
  have hW:WAt (upd H2 d (.frz ob (.dT (dkv (lkD row ls))))) d C (fitD C) row:=⟨⟨ob,ls,qd,rls.mono fun _ _ h=>PrL.dput dd h⟩,nd,rl,fun x=>q2U ok x⟩
  generalize upd H2 d (.frz ob (.dT (dkv (lkD row ls))))=H3 at ts3 s3 hW ⊢
  have s03:=s1.trans s3
  walk_at "r"
  refine⟨c,d,C,row,rfl,hC.mono s03.ts,hW,q7b hmem,fun t L H4 s4 ht0 dt nf=>?_⟩
  have s04:=s03.trans s4
  obtain⟨ob',ls',hfz,hrw⟩:=(hW.same s4).ex
  have hll:ls'.length=row.length:=hrw.1
  have hkl:(dkv (lkD row ls')).length=row.length:=by rw[show(dkv (lkD row ls')).length=(lkD row ls').length by simp[dkv],q1R hll]
  walk_at "r"
  refine⟨d,ob',_,rfl,hfz,fun D hD=>?_⟩
  refine q9B (fun i σ H'=>∃v0,σ=[v0,some (.ref t)]/\Same H4 H'/\qG SvAt H' D ((row.take i).map fun x=>(x,cntO L x))) ⟨none,rfl,Same.upd hD,[],qd,Rows.nil⟩ ?_ ?_ ?_
  ·rintro i σ H' ⟨v0,rfl,s5,_⟩
   exact s5 _ _ hfz
  ·rintro i b p σ H5 hp hb ⟨v0,rfl,s5,qs,hqs,rqs⟩
   obtain⟨x,l,hx,hl,rfl⟩:=q45 hll hp
   have hi:i<row.length:=(yA hx).1
   have ex:row[i]=x:=(yA hx).2
   have hb':SAt H5 b x:=hb
   have dt5:DAtS H5 t (cnL L):=s5 _ _ dt
   have hql:qs.length<=300:=by rw[rqs.1,yC,zo];omega
   rw[zh hi,ex,zR]
   walk_at "r"
   refine⟨t,rfl,.inr ⟨_,.inl dt5⟩,?_⟩
   walk_at "r"
   refine⟨_,q2V (.inl dt5) hb',?_⟩
   rw[qb9,show((cntO L x).map V.int).getD .non=ovV (cntO L x) by cases cntO L x<;>rfl]
   walk_at "r"
   intro tp htp
   have s6:=Same.upd (o:= .tup [.ref b,ovV (cntO L x)]) htp
   have t6:=qd (H:=H5) (a:=tp) (o:= .tup [.ref b,ovV (cntO L x)])
   generalize upd H5 tp (.tup [.ref b,ovV (cntO L x)])=H6 at s6 t6 ⊢
   have q6:=s6 _ _ hqs
   refine⟨_,q6,by rw[yC];omega,_,rfl,(s5.trans s6).put hD,?_⟩
   exact qM (fun _ _ h=>SvAt.mono (q0p.lst q6) h) (rqs.mono fun _ _ h=>SvAt.mono s6.ts h) ⟨b,t6,s6 _ _ hb'⟩
  ·rintro σ H5 ⟨v0,rfl,s5,qs,hqs,rqs⟩
   rw[hkl,zL] at rqs
   obtain⟨M,e1,e2,hM⟩:=qa3 rqs
   have hv:∀x∈M,x.2=(x.2.1,cntO L x.2.1):=fun x hx=>by
    have:x.2∈M.map (·.2):=List.mem_map_of_mem hx
    rw[e2] at this
    obtain⟨y,_,e⟩:=zK.mp this
    rw[<-e]
   walk_at "r"
   refine⟨D,M,rfl,SqL.of (by rw[show(M.map fun x=>V.ref x.1)=qs.map V.ref by rw[<-e1,zP];rfl];exact hqs),hM,fun x hx y hy e=>by rw[hv x hx,hv y hy,e],fun r M' hr0 hp ho=>?_⟩
   have s6:=Same.upd (o:= .lst (M'.map fun x=>V.ref x.1)) hr0
   have eR:M'.map (·.2)=(M'.map fun x=>x.2.1).map fun x=>(x,cntO L x):=by
    rw[zP]
    exact zab fun x hx=>hv x (hp.mem_iff.mp hx)
   have pr:(M'.map fun x=>x.2.1).Perm row:=by
    have:=(hp.map (·.2)).map (fun x:Sd×Option Int=>x.1)
    rw[e2,zP,zP] at this
    refine this.trans (zbz ?_)
    exact(zab fun x _=>rfl).trans (zay row)
   refine k r (M'.map fun x=>x.2.1) (cntO L) _ (s04.trans (s5.trans s6)) (s04.free (s5.free hr0)) ⟨⟨M'.map (·.1),by rw[qd,zP];rfl,?_⟩,pr.nodup_iff.mpr nd,zbi.mpr ho,fun x=>by rw[pr.mem_iff];exact hmem x,by rw[pr.length_eq];exact rl,⟨fun x hx=>nf.ge x (pr.mem_iff.mp hx),fun x hx=>nf.eq x (pr.mem_iff.mp hx)⟩⟩
   rw[<-eR]
   refine⟨by simp,fun i p x h1 h2=>?_⟩
   rw[zJ] at h1 h2
   cases e:M'[i]? with
   |none=>rw[e] at h1;cases h1
   |some z=>
    rw[e] at h1 h2
    cases h1
    cases h2
    exact SvAt.mono s6.ts (hM z (hp.mem_iff.mp (zQ e)))
end
theorem NrF.cl {C:Cl}{R:List Sd}{N:Sd->Option Int}(h:NrF C R N):∀x∈R,∀y∈nx C x,y∈R:=q7b h.mem
theorem NrF.uniq {C:Cl}{R R':List Sd}{N N':Sd->Option Int}(h:NrF C R N)(g:NrF C R' N'):R=R'/\∀x∈R,N x=N' x:=by
 have e:R=R':=q6Z ((zcA h.nd g.nd).mpr fun x=>by rw[h.mem,g.mem]) h.ord g.ord
 subst e
 exact⟨rfl,h.near.uniq g.near h.cl⟩
theorem NrF.not_wide {C:Cl}{R:List Sd}{N:Sd->Option Int}(h:NrF C R N):¬q7Z C:=fun⟨row,nd,hr,hl⟩=>by
 have:=q30 nd (fun x hx=>(h.mem x).mpr (hr x hx))
 have:=h.len
 omega
def q2n (R:List Sd)(N:Sd->Option Int):List Sd:=R.filter fun x=>(N x).isNone
def q8c (X:Addr):Sp:=fun vs H Q E=>∃(c:Addr) (C:Cl),vs=[.ref c]/\ClAt H c C/\ClOk C/\(∀(r:Addr) (R:List Sd) (N:Sd->Option Int) (H':Hp),Same H H'->H r=none->NrF C R N->qG SAt H' r (q2n R N)->Q (.ref r) H')/\(q7Z C->∀H',Same H H'->E (.ref X) none H')
theorem q6h {o:Option Int}:decide (ovV o=V.non)=o.isNone:=by cases o<;>rfl
section
variable {P:Program}{w:World}{K:W.Frag}{mg:Str->Option Value}{base:Heap}{xs:Xs}{cs:Cs}
theorem qau (T:Txt mg cs)(TX:Tx K mg xs)(L:Laid K mg "shut_stands" q0D ["cellar"])(vj:CalX P w K mg base 10 "nears" ["cellar"] (q6j xs.Wide)):CalX P w K mg base 11 "shut_stands" ["cellar"] (q8c xs.Wide):=by
 refine L.calX (k:=10) q4h (fun vs H Q E h=>?_) (fun f cdv A outer s H vs Q E hr h=>?_)
 ·obtain ⟨c,C,rfl,_⟩:=h
  rfl
 ·obtain ⟨c,C,rfl,hC,ok,k,ke⟩:=h
  have big:=qF
  refine⟨_,(qg (qq (qan (q0G (N:=["stand","near"]) (own:=2) (caps:=[]) ["cellar"] (qf q0D) (by walk_at "k")) rfl (q09 K (q8H vj q8J hr (by decide) rfl (qa (pv 0) qc))) (fun _ _ _ _ hB=>(q0y (n:=2) K rfl (qw (qp (i:=0) (show List.Nodup (["stand","near"]:List Str) by walk_at "k") rfl (Or.inl rfl)) (qw (qp (i:=1) (show List.Nodup (["stand","near"]:List Str) by walk_at "k") rfl (Or.inl rfl)) q0x)))) (fun _ _ _ _ hB=>(q4s (q26 (q2Q (pv 1))))) (fun _ _ _ _ hB=>(pv 0))))),?_⟩
  walk_at "r"
  refine⟨c,C,rfl,hC,ok,fun r R N H1 s1 hr0 ⟨⟨us,hus,rus⟩,nf⟩=>?_,ke⟩
  have hlen:=nf.len
  walk_at "r"
  intro D hD
  refine q0L (us.map V.ref) (fun i σ H'=>∃v0 v1,σ=[v0,v1]/\Same H1 H'/\qG SAt H' D (q2n (R.take i) N)) ⟨none,none,rfl,Same.upd hD,[],qd,Rows.nil⟩ ?_ ?_ ?_
  ·rintro i σ H' ⟨_,_,rfl,s2,_⟩
   exact SqL.of (s2 _ _ hus)
  ·rintro i z σ H2 hz ⟨v0,v1,rfl,s2,qs,hqs,rqs⟩
   have hi:i<R.length:=by have:=(yA hz).1;rw[yC,rus.1,yC] at this;exact this
   obtain⟨p,ep,hp⟩:=rus.get (i:=i) (by rw[yC];exact hi)
   rw[hz] at ep
   cases ep
   rw[zcQ] at hp
   have et:R.take (i+1)=R.take i++[R[i]]:=zh hi
   generalize R[i]=x at hp et
   obtain⟨b,h1,h2⟩:=SvAt.mono s2.ts hp
   have hql:qs.length<=300:=by rw[rqs.1];unfold q2n;refine zaf (zaw _ _) ?_;rw[zo];omega
   rw[et]
   unfold q2n
   rw[zat]
   walk_at "r"
   rw[q6h]
   cases hn:(N x).isNone with
   |true=>
    walk_at "r"
    refine⟨_,hqs,by rw[yC];omega,_,_,rfl,s2.put hD,?_⟩
    rw[show [x].filter (fun x=>(N x).isNone)=[x] by simp[hn]]
    exact qM (fun _ _=>SAt.put hqs) rqs h2
   |false=>
    refine⟨_,_,rfl,s2,qs,hqs,?_⟩
    rw[show [x].filter (fun x=>(N x).isNone)=[] by simp[hn],zM]
    exact rqs
  ·rintro σ H2 ⟨v0,v1,rfl,s2,m2⟩
   rw[yC,rus.1,yC,zL] at m2
   walk_at "r"
   exact k D R N H2 (s1.trans s2) (s1.free hD) nf m2
end
def q8b:Sp:=fun vs H Q _=>∃(fi bg:Int) (l:Addr) (ms:List Int),vs=[.int fi,.ref l,.int bg]/\H l=some (.lst (ms.map V.int))/\ms.length=34/\0<=bg/\bg<=1/\∀(p:Addr) (C:Cl) (H':Hp),Same H H'->ClAt H' p C->ClOk C->Q (.ref p) H'
section
variable {P:Program}{w:World}{K:W.Frag}{mg:Str->Option Value}{base:Heap}{cs:Cs}
theorem qat (T:Txt mg cs)(L:Laid K mg "_law_small" q0B ["_law_first","_law_numbers_here","_law_big"])(vB:Cal P w K mg base 1 "_law_gate" ["_law_number","_law_base"] q8f):Cal P w K mg base 2 "_law_small" ["_law_first","_law_numbers_here","_law_big"] q8b:=by
 refine L.cal (k:=1) qA (fun vs H Q E h=>?_) (fun f cdv A outer s H vs Q E hr h=>?_)
 ·obtain ⟨fi,bg,l,ms,rfl,_⟩:=h
  rfl
 ·obtain ⟨fi,bg,l,ms,rfl,h1,hm,bg0,bg1,k⟩:=h
  have big:=qF
  have s1:=Same.refl H
  refine⟨_,(qb (qx (i:=3) qA.nd rfl (Or.inr rfl) (qm q03 qe (qm qK (pv 0) (qm q03 qe (pv 2)))))
   (qb (qx (i:=4) qA.nd rfl (Or.inr rfl) (qm qK (qm qV (pv 0) qe) qe))
   (qb (qx (i:=5) qA.nd rfl (Or.inl rfl) (q0P qc))
   (qb (q0u PassesOwn.never rfl (q8A rfl T.wu (qa qe (qa (qm q03 (pv 3) (qm qK (qm qV (pv 0) qe) qe)) qc))) (qp (i:=6) qA.nd rfl (Or.inl rfl)) (qb (qx (i:=7) qA.nd rfl (Or.inl rfl) (qk (qL K) (pv 1) (pv 6) (fun _ _=>rfl)))
   (qb (qx (i:=8) qA.nd rfl (Or.inl rfl) (qm qK (pv 7) (qy (min2 rfl) rfl T.wa6 qbL (qa (pv 6) (qa (pv 3) qc)))))
   (qb (qx (i:=9) qA.nd rfl (Or.inl rfl) (pv 6))
   (qb (q02 (qv qcu (pv 6) (pv 3) (qr _)) (qg (qx (i:=9) qA.nd rfl (Or.inl rfl) (qm qK (qm q03 (qm q03 (pv 8) qe) (qm qK (qm qV (pv 7) qe) (qm q2a (pv 3) qe))) (pv 3)))) qz)
   (qg (qN (q2A zF zN zO qS (pv 5) (qa (qC (qa (pv 8) (qa (pv 9) (qa (qH vB hr (by decide) rfl (qa (qm qV (pv 7) qe) (qa (pv 4) qc))) (qa (qR q3m (qm qK (qm qV (pv 7) qe) qe) qe (qr _)) qc))))) qc)))))))))
   (qb (q28 (i:=10) qA.nd rfl rfl (q0G (N:=["_law_number","_law_rooms","_law_base"]) (own:=1) (caps:=[3,4]) ["_law_first","_law_numbers_here","_law_big","_law_rooms","_law_base","_law_ways","_law_k","_law_number","_law_a","_law_b","_law_things","_law_levers","_law_wheels","_law_last","_law_lists","_law_begin"] (qf q0B) (by walk_at "k")) rfl (q09 K (q2P (q4K K) (pv 1) (q29 qe) (q29 (qm q03 qe (qm qK (qm qV (pv 0) qe) (qm q03 qe (pv 2))))))) (fun _ _ _ _=>(qp (i:=0) (show List.Nodup (["_law_number","_law_rooms","_law_base"]:List Str) by walk_at "k") rfl (Or.inl rfl))) (fun _ _ _ _=>q1W) (fun _ _ _ _=>(qC (qa (qm qK (pv 0) (pv 1)) (qa (qm qK (qm q03 (pv 2) (qm qK (qm qV (pv 0) qe) qe)) qe) qc)))))
   (qb (qx (i:=11) qA.nd rfl (Or.inl rfl) (q0P qc))
   (qb (q0u PassesOwn.never rfl (q09 K (q2P (q4K K) (pv 1) (q29 qe) (q29 (qm q03 qe (qm qK (qm qV (pv 0) qe) (qm q03 qe (pv 2))))))) (qp (i:=7) qA.nd rfl (Or.inl rfl)) (qg (qN (q2A zF zN zO qS (pv 11) (qa (qC (qa (qm qK (pv 7) (pv 3)) (qa (qm q03 qe (qm qK (qm qV (pv 7) qe) qe)) qc))) qc)))))
   (qb (q28 (i:=12) qA.nd rfl rfl (q0G (N:=["_law_number","_law_rooms"]) (own:=1) (caps:=[3]) ["_law_first","_law_numbers_here","_law_big","_law_rooms","_law_base","_law_ways","_law_k","_law_number","_law_a","_law_b","_law_things","_law_levers","_law_wheels","_law_last","_law_lists","_law_begin"] (qf q0B) (by walk_at "k")) rfl (q09 K (q2P (q4K K) (pv 1) (q29 qe) (q29 (qm q03 qe (qm qK (qm qV (pv 0) qe) (qm q03 qe (pv 2))))))) (fun _ _ _ _=>(qp (i:=0) (show List.Nodup (["_law_number","_law_rooms"]:List Str) by walk_at "k") rfl (Or.inl rfl))) (fun _ _ _ _=>q1W) (fun _ _ _ _=>(qC (qa (qm qK (pv 0) (pv 1)) (qa (qm qK (qm qV (pv 0) qe) qe) qc)))))
   (qb (qx (i:=13) qA.nd rfl (Or.inl rfl) (qk (qL K) (q0P (qa (qm q2a (pv 3) qe) (qa (qm qK (qk (qL K) (pv 1) qe (fun _ _=>rfl)) (pv 3)) qc))) (qm qK (qm qV (pv 0) qe) qe) (fun _ _=>rfl)))
   (qb (qx (i:=14) qA.nd rfl (Or.inl rfl) (qC (qa (q0j (q4o K) rfl T.wV q1S (qa (pv 5) qc)) (qa (q0j (q4o K) rfl T.wV q1S (qa (pv 10) qc)) (qa (q0j (q4o K) rfl T.wV q1S (qa (pv 11) qc)) (qa (q0j (q4o K) rfl T.wV q1S (qa (pv 12) qc)) qc))))))
   (qb (qx (i:=15) qA.nd rfl (Or.inl rfl) (qm q5U (qm qV (qm qK (qk (qL K) (pv 1) qe (fun _ _=>rfl)) qe) qe) (qm q2a (pv 3) qe)))
   (qg (qq (qm (q73 K) (qm (q73 K) (qC (qa (pv 3) (qa (pv 15) (qa (pv 13) qc)))) (pv 14)) (qC (qa (qm qK (qk (qL K) (pv 1) qe (fun _ _=>rfl)) qe) (qa (qm qK (qk (qL K) (pv 1) qe (fun _ _=>rfl)) qe) qc))))))))))))))))),?_⟩
  have r0:=q04 fi (n:=4+bg) (by omega)
  have r1:=q0a fi (n:=4+bg) (by omega)
  have x0:=q04 (fi / 60) (n:=4) (by decide)
  have x1:=q0a (fi / 60) (n:=4) (by decide)
  walk_at "r"
  generalize hR:2+fi % (4+bg)=R
  have hR2:2<=R/\R<=6:=by omega
  intro W hW
  generalize hG2:upd _ W _=H2
  have s2:=q00 hG2 hW
  have h2:=q01 hG2
  have hl2:=s2 _ _ h1
  have zW:H W=none:=s1.free hW
  have nWl:l≠W:=fun z=>by rw[<-z,h1] at hW;cases hW
  have ix:∀j:Nat,j<34->atI (ms.map V.int) (j:Int)=some (.int (ms.getD j 0)):=fun j hj=>q59 (by omega)
  obtain⟨B,hB⟩:∃B,fi / 5 % 12=B:=⟨_,rfl⟩
  rw[hB]
  walk_at "r"
  refine q42 (fun i σ H'=>∃(v6 v7 v8 v9:Option V) (ws:List Way),σ=[some (.int fi),some (.ref l),some (.int bg),some (.int R),some (.int B),some (.ref W),v6,v7,v8,v9,none,none,none,none,none,none]/\Same H H'/\H' l=some (.lst (ms.map V.int))/\qG q12 H' W ws/\ws.length=i/\∀x∈ws,WOk R x) ⟨none,none,none,none,[],rfl,s1.trans s2,hl2,⟨[],h2,Rows.nil⟩,rfl,fun x hx=>nomatch hx⟩ ?_ ?_
  ·rintro i σ H3 hi ⟨v6,v7,v8,v9,ws,rfl,s3,hl3,⟨ps,hps,rps⟩,wl,wo⟩
   have hi':i<8:=by omega
   have ek:(1:Int)+(i:Nat)=((1+i:Nat):Int):=by omega
   have iz:=ix (1+i) (by omega)
   rw[<-ek] at iz
   generalize ms.getD (1+i) 0=z at iz
   obtain⟨M,eM,M1,M2⟩:∃M:Int,(if R<1+(i:Nat) then R else 1+(i:Nat))=M/\1<=M/\M<=R:=⟨_,rfl,by split<;>omega,by split<;>omega⟩
   have c0:=q04 z (n:=M) (by omega)
   have c1:=q0a z (n:=M) (by omega)
   have d0:=q04 (z / 14) (n:=R - 1) (by omega)
   have d1:=q0a (z / 14) (n:=R - 1) (by omega)
   walk_at "r"
   rw[eM]
   rename_i zz hzz
   have lp:ps.length=i:=by rw[rps.1,wl]
   have fin:∀(b:Int) (D:Ends),(∀σ H',(∃(v6 v7 v8 v9:Option V) (ws:List Way),σ=[some (.int fi),some (.ref l),some (.int bg),some (.int R),some (.int B),some (.ref W),v6,v7,v8,v9,none,none,none,none,none,none]/\Same H H'/\H' l=some (.lst (ms.map V.int))/\qG q12 H' W ws/\ws.length=i+1/\∀x∈ws,WOk R x)->D.nx σ H')->0<=b->b<R->z % M≠b->zz D [some (.int fi),some (.ref l),some (.int bg),some (.int R),some (.int B),some (.ref W),some (.int (1+(i:Nat))),some (.int z),some (.int (z % M)),some (.int b),none,none,none,none,none,none] H3:=fun b D hD b0 b1 ne=>by
    walk_at "r"
    refine⟨_,_,rfl,fun g gt H4 s4 gok hg=>?_⟩
    walk_at "r"
    intro t5 g5
    generalize hG5:upd _ t5 _=H5
    have s5:=q00 hG5 g5
    have h5:=q01 hG5
    have s35:=s4.trans s5
    have hps5:=s35 _ _ hps
    walk_at "r"
    refine q34 hps5 (by rw[yC];omega) ?_
    have nWl':l≠W:=nWl
    refine hD _ _ ⟨_,_,_,_,ws++[⟨z % M,b,gt,_⟩],rfl,(s3.trans s35).put zW,by rw[qj nWl'];exact s35 _ _ hl3,qM (fun _ _ y=>q12.mono (q0p.lst hps5) y) (rps.mono fun _ _=>q12.mono s35.ts) ⟨g,h5,s5 _ _ hg⟩,by simp[wl],fun x hx=>?_⟩
    rcases zr.mp hx with y|y
    ·exact wo x y
    ·rw [zp.mp y]
     exact⟨⟨c0,by show z % M<R;omega⟩,⟨b0,b1⟩,ne,gok⟩
   clear hzz
   have q0:=q04 (z % M+1+z / 14 % (R - 1)) (n:=R) (by omega)
   have q1:=q0a (z % M+1+z / 14 % (R - 1)) (n:=R) (by omega)
   refine ifd (fun y=>?_) (fun y=>?_)
   ·walk_at "r"
    refine fin _ _ (fun _ _ h=>let ⟨v6,v7,v8,v9,ws,h1,h2,h3,h4,h5,h6⟩:=h;⟨v6,v7,v8,v9,ws,h1,h2,h3,h4,h5,h6⟩) q0 q1 ?_
    intro e
    by_cases y2:z % M+1+z / 14 % (R - 1)<R
    ·rw [Int.emod_eq_of_lt (by omega) y2] at e;omega
    ·have:(z % M+1+z / 14 % (R - 1)) % R=z % M+1+z / 14 % (R - 1) - R:=by rw[<-Int.sub_emod_right,Int.emod_eq_of_lt (by omega) (by omega)]
     omega
   ·walk_at "r"
    exact fin _ _ (fun _ _ h=>let ⟨v6,v7,v8,v9,ws,h1,h2,h3,h4,h5,h6⟩:=h;⟨v6,v7,v8,v9,ws,h1,h2,h3,h4,h5,h6⟩) (by omega) (by omega) (by
     have:M<=1+(i:Nat):=by rw[<-eM];split<;>omega
     omega)
  ·rintro σ H3 ⟨v6,v7,v8,v9,ws,rfl,s3,hl3,hws,wl,wo⟩
   have y0:=q04 (fi / 240) (n:=3+bg) (by omega)
   have y1:=q0a (fi / 240) (n:=3+bg) (by omega)
   have y2:=q04 (fi / 960) (n:=2+bg) (by omega)
   have y3:=q0a (fi / 960) (n:=2+bg) (by omega)
   have y4:=q04 (fi / 2880) (n:=2+bg) (by omega)
   have y5:=q0a (fi / 2880) (n:=2+bg) (by omega)
   obtain⟨j1,e1,f1⟩:∃j:Nat,20+fi / 240 % (3+bg)=(j:Int)/\20<=j/\j<=23:=⟨(20+fi / 240 % (3+bg)).toNat,by omega,by omega,by omega⟩
   obtain⟨j2,e2,f2⟩:∃j:Nat,24+fi / 960 % (2+bg)=(j:Int)/\24<=j/\j<=26:=⟨(24+fi / 960 % (2+bg)).toNat,by omega,by omega,by omega⟩
   obtain⟨j3,e3,f3⟩:∃j:Nat,27+fi / 2880 % (2+bg)=(j:Int)/\27<=j/\j<=29:=⟨(27+fi / 2880 % (2+bg)).toNat,by omega,by omega,by omega⟩
   have i31:=ix 31 (by omega)
   have i33:=ix 33 (by omega)
   have i30:=ix 30 (by omega)
   have i32:=ix 32 (by omega)
   walk_at "r"
   rw[e1]
   refine⟨l,_,rfl,SqL.of hl3,fun l4 gl4=>?_⟩
   rw[show(20:Int)=((20:Nat):Int) from rfl,q53 ms 20 j1 (by omega) (by omega)]
   generalize hG4:upd _ l4 _=H4
   have s4:=q00 hG4 gl4
   have h4:=q01 hG4
   generalize hks:(ms.drop 20).take (j1 - 20)=ks at h4
   have kl:ks.length<=3:=by rw[<-hks,zo];omega
   walk_at "r"
   intro D hD
   refine q0L (ks.map V.int) (fun i σ H'=>∃v0,σ=[v0,some (.int R),some (.int B)]/\Same H4 H'/\qG qP H' D ((ks.take i).map fun x=>(x % R,(B+x / 14 % 3) % 12))) ⟨none,rfl,Same.upd hD,⟨[],qd,Rows.nil⟩⟩ ?_ ?_ ?_
   ·rintro i σ H' ⟨_,rfl,s5,_⟩
    exact SqL.of (s5 _ _ h4)
   ·rintro i z σ H' hz ⟨v0,rfl,s5,ps,hps,rps⟩
    have hi:i<ks.length:=by have:=(yA hz).1;simpa using this
    obtain rfl:z= .int ks[i]:=by simpa[hi] using hz.symm
    have lp:ps.length<=8:=by rw[rps.1,yC,zo];omega
    walk_at "r"
    intro t5 g5
    generalize hG5:upd _ t5 _=H5
    have s6:=q00 hG5 g5
    have h6:=q01 hG5
    have hps6:=s6 _ _ hps
    refine⟨_,hps6,by rw[yC];omega,_,rfl,(s5.trans s6).put hD,?_⟩
    rw[zh hi,zR]
    exact qM (fun _ _ z=>qP.mono (q0p.lst hps6) z) (rps.mono fun _ _=>qP.mono s6.ts) h6
   ·rintro σ H5 ⟨v0,rfl,s5,hth⟩
    rw[yC,zL] at hth
    have hws5:=q3f (fun _ _ h=>q12.mono (s4.trans s5).ts h) (s4.trans s5) hws
    have hl5:=(s4.trans s5) _ _ hl3
    have s05:=s3.trans (s4.trans s5)
    walk_at "r"
    intro V0 gV
    generalize hG6:upd _ V0 _=H6
    have s6:=q00 hG6 gV
    have h6:=q01 hG6
    have zV:H V0=none:=s05.free gV
    have s06:=s05.trans s6
    walk_at "r"
    rw[e2]
    refine⟨l,_,rfl,SqL.of (s6 _ _ hl5),fun l7 gl7=>?_⟩
    rw[show(24:Int)=((24:Nat):Int) from rfl,q53 ms 24 j2 (by omega) (by omega)]
    generalize hG7:upd _ l7 _=H7
    have s7:=q00 hG7 gl7
    have h7:=q01 hG7
    generalize hqs:(ms.drop 24).take (j2 - 24)=qs at h7
    have ql:qs.length<=2:=by rw[<-hqs,zo];omega
    have h67:=s7 _ _ h6
    have nV:l7≠V0:=fun z=>by rw[z,h6] at gl7;cases gl7
    have hws7:=q3f (fun _ _ h=>q12.mono (s6.trans s7).ts h) (s6.trans s7) hws5
    have hth7:=q3f (fun _ _ h=>qP.mono (s6.trans s7).ts h) (s6.trans s7) hth
    have hl7:=(s6.trans s7) _ _ hl5
    have nVW:W≠V0:=fun z=>by obtain⟨_,y,_⟩:=hws5;rw[z] at y;rw[y] at gV;cases gV
    have nVD:D≠V0:=fun z=>by obtain⟨_,y,_⟩:=hth;rw[z] at y;rw[y] at gV;cases gV
    have nVl:l≠V0:=fun z=>by rw[<-z,hl5] at gV;cases gV
    walk_at "r"
    refine q4Y (qs.map V.int) (fun i σ H'=>∃v7:Option V,σ=[some (.int fi),some (.ref l),some (.int bg),some (.int R),some (.int B),some (.ref W),v6,v7,v8,v9,some (.ref D),some (.ref V0),none,none,none,none]/\Same H H'/\H' l7=some (.lst (qs.map V.int))/\H' l=some (.lst (ms.map V.int))/\qG q12 H' W ws/\qG qP H' D (ks.map fun x=>(x % R,(B+x / 14 % 3) % 12))/\qG qP H' V0 ((qs.take i).map fun x=>(x % R,1+x / 14 % 255))) ⟨v7,rfl,s06.trans s7,h7,hl7,hws7,hth7,⟨[],h67,Rows.nil⟩⟩ ?_ ?_ ?_
    ·rintro i σ H' ⟨_,rfl,_,y,_⟩
     exact SqL.of y
    ·rintro i z σ H' hz ⟨v7,rfl,s8,y1,y2,y3,y4,ps,hps,rps⟩
     have hi:i<qs.length:=by have:=(yA hz).1;simpa using this
     obtain rfl:z= .int qs[i]:=by simpa[hi] using hz.symm
     have lp:ps.length<=8:=by rw[rps.1,yC,zo];omega
     walk_at "r"
     intro t5 g5
     generalize hG9:upd _ t5 _=H9
     have s9:=q00 hG9 g5
     have h9:=q01 hG9
     have hps9:=s9 _ _ hps
     have ts:=q0p.lst (o:= .lst (ps.map V.ref++[.ref t5])) hps9
     walk_at "r"
     refine q34 hps9 (by rw[yC];omega) ?_
     obtain⟨u1,u2,u3⟩:=y3
     obtain⟨w1,w2,w3⟩:=y4
     refine⟨_,rfl,(s8.trans s9).put zV,by rw[qj nV];exact s9 _ _ y1,by rw[qj nVl];exact s9 _ _ y2,⟨u1,by rw[qj nVW];exact s9 _ _ u2,u3.mono fun _ _=>q12.mono (s9.ts.trans ts)⟩,⟨w1,by rw[qj nVD];exact s9 _ _ w2,w3.mono fun _ _=>qP.mono (s9.ts.trans ts)⟩,?_⟩
     rw[zh hi,zR]
     exact qM (fun _ _ z=>qP.mono ts z) (rps.mono fun _ _=>qP.mono s9.ts) h9
    ·rintro σ H8 ⟨v7,rfl,s8,_,hl8,hws8,hth8,hlv8⟩
     rw[yC,zL] at hlv8
     walk_at "r"
     rw[e3]
     refine⟨l,_,rfl,SqL.of hl8,fun l9 gl9=>?_⟩
     rw[show(27:Int)=((27:Nat):Int) from rfl,q53 ms 27 j3 (by omega) (by omega)]
     generalize hG9:upd _ l9 _=H9
     have s9:=q00 hG9 gl9
     have h9:=q01 hG9
     generalize hvs:(ms.drop 27).take (j3 - 27)=us at h9
     have ul:us.length<=2:=by rw[<-hvs,zo];omega
     walk_at "r"
     intro G hG
     refine q0L (us.map V.int) (fun i σ H'=>∃v0,σ=[v0,some (.int R)]/\Same H9 H'/\qG qP H' G ((us.take i).map fun x=>(x % R,x / 14 % 10))) ⟨none,rfl,Same.upd hG,⟨[],qd,Rows.nil⟩⟩ ?_ ?_ ?_
     ·rintro i σ H' ⟨_,rfl,s5,_⟩
      exact SqL.of (s5 _ _ h9)
     ·rintro i z σ H' hz ⟨v0,rfl,s10,ps,hps,rps⟩
      have hi:i<us.length:=by have:=(yA hz).1;simpa using this
      obtain rfl:z= .int us[i]:=by simpa[hi] using hz.symm
      have lp:ps.length<=8:=by rw[rps.1,yC,zo];omega
      walk_at "r"
      intro t5 g5
      generalize hG10:upd _ t5 _=H10
      have s11:=q00 hG10 g5
      have h11:=q01 hG10
      have hps6:=s11 _ _ hps
      refine⟨_,hps6,by rw[yC];omega,_,rfl,(s10.trans s11).put hG,?_⟩
      rw[zh hi,zR]
      exact qM (fun _ _ z=>qP.mono (q0p.lst hps6) z) (rps.mono fun _ _=>qP.mono s11.ts) h11
     ·rintro σ H10 ⟨v0,rfl,s10,vps,hvp,rvp⟩
      rw[yC,zL] at rvp
      have s810:=s9.trans s10
      obtain⟨wps,hwp,rwp⟩:=hws8
      obtain⟨tps,htp,rtp⟩:=hth8
      obtain⟨lps,hlp,rlp⟩:=hlv8
      have hl10:=s810 _ _ hl8
      have o0:=q04 (ms.getD 30 0) (n:=R) (by omega)
      have o1:=q0a (ms.getD 30 0) (n:=R) (by omega)
      have o2:=q04 (ms.getD 32 0) (n:=7) (by decide)
      have o3:=q0a (ms.getD 32 0) (n:=7) (by decide)
      walk_at "r"
      intro aL gaL
      generalize hGL:upd _ aL _=HL
      have sL:=q00 hGL gaL
      have hL:=q01 hGL
      obtain⟨la,hla,la0,la1⟩:∃la:Int,atI [V.int (R - 1),.int (ms.getD 30 0 % R)] (fi / 8640 % 2)=some (.int la)/\0<=la/\la<R:=by
       have m0:=q04 (fi / 8640) (n:=2) (by decide)
       have m1:=q0a (fi / 8640) (n:=2) (by decide)
       rcases(show fi / 8640 % 2=((0:Nat):Int)\/fi / 8640 % 2=((1:Nat):Int) by omega) with e|e<;>rw[e]
       ·exact ⟨_,q0n rfl,by omega,by omega⟩
       ·exact ⟨_,q0n rfl,o0,o1⟩
      obtain⟨be,hbe,be0,be1⟩:∃be:Int,ms.getD 32 0 % 7 / 6*(R - 1)=be/\0<=be/\be<R:=by
       refine⟨_,rfl,?_⟩
       rcases(show ms.getD 32 0 % 7 / 6=0\/ms.getD 32 0 % 7 / 6=1 by omega) with e|e<;>rw[e]
       ·omega
       ·omega
      replace s810:=s810.trans sL
      replace hl10:=sL _ _ hl10
      replace hvp:=sL _ _ hvp
      replace rvp:=rvp.mono fun _ _=>qP.mono sL.ts
      walk_at "r"
      refine q7A (SqL.of (s810 _ _ hwp)) fun a1 ga1=>?_
      generalize hG11:upd _ a1 _=H11
      have s11:=q00 hG11 ga1
      have h11:=q01 hG11
      walk_at "r"
      refine q7A (SqL.of ((s810.trans s11) _ _ htp)) fun a2 ga2=>?_
      generalize hG12:upd _ a2 _=H12
      have s12:=q00 hG12 ga2
      have h12:=q01 hG12
      have s812:=s810.trans (s11.trans s12)
      walk_at "r"
      refine q7A (SqL.of (s812 _ _ hlp)) fun a3 ga3=>?_
      generalize hG13:upd _ a3 _=H13
      have s13:=q00 hG13 ga3
      have h13:=q01 hG13
      have s1013:=s11.trans (s12.trans s13)
      walk_at "r"
      refine q7A (SqL.of (s1013 _ _ hvp)) fun a4 ga4=>?_
      generalize hG14:upd _ a4 _=H14
      have s14:=q00 hG14 ga4
      have h14:=q01 hG14
      have hl14:=(s1013.trans s14) _ _ hl10
      walk_at "r"
      intro a5 ga5
      generalize hG15:upd _ a5 _=H15
      have s15:=q00 hG15 ga5
      have h15:=q01 hG15
      have hl15:=s15 _ _ hl14
      walk_at "r"
      rw[hbe]
      walk_at "r"
      intro a6 ga6
      generalize hG16:upd _ a6 _=H16
      have s16:=q00 hG16 ga6
      have h16:=q01 hG16
      walk_at "r"
      refine⟨a6,a5,_,_,rfl,rfl,SqT.of h16,SqT.of (s16 _ _ h15),by simp,by simp;omega,(fun z=>absurd z (by simp)),fun _ a7 ga7=>?_⟩
      generalize hG17:upd _ a7 _=H17
      have s17:=q00 hG17 ga7
      have h17:=q01 hG17
      have s1417:=s15.trans (s16.trans s17)
      have s1017:=s1013.trans (s14.trans s1417)
      have hl17:=s1017 _ _ hl10
      walk_at "r"
      intro a8 ga8
      generalize hG18:upd _ a8 _=H18
      have s18:=q00 hG18 ga8
      have h18:=q01 hG18
      walk_at "r"
      refine⟨a7,a8,_,_,rfl,rfl,SqT.of (s18 _ _ h17),SqT.of h18,by simp,by simp;omega,(fun z=>absurd z (by simp)),fun _ p gp=>?_⟩
      generalize hG19:upd _ p _=H19
      have s19:=q00 hG19 gp
      have h19:=q01 hG19
      have s1719:=s18.trans s19
      have s1419:=s1417.trans s1719
      have s1319:=s14.trans s1419
      have s1219:=s13.trans s1319
      have s1119:=s12.trans s1219
      have s1019:=s11.trans s1119
      have s819:=s810.trans s1019
      walk_at "r"
      have b0:=q04 (ms.getD 31 0) (n:=256) (by decide)
      have b1:=q0a (ms.getD 31 0) (n:=256) (by decide)
      have c0:=q04 (ms.getD 33 0) (n:=10) (by decide)
      have c1:=q0a (ms.getD 33 0) (n:=10) (by decide)
      refine k p ⟨R,be,la,ws,ks.map fun x=>(x % R,(B+x / 14 % 3) % 12),qs.map fun x=>(x % R,1+x / 14 % 255),us.map fun x=>(x % R,x / 14 % 10),ms.getD 31 0 % 256,ms.getD 33 0 % 10⟩ H19 (s8.trans s819) ⟨a1,a2,a3,a4,h19,⟨wps,s1119 _ _ h11,rwp.mono fun _ _=>q12.mono s819.ts⟩,⟨tps,s1219 _ _ h12,rtp.mono fun _ _=>qP.mono s819.ts⟩,⟨lps,s1319 _ _ h13,rlp.mono fun _ _=>qP.mono s819.ts⟩,⟨vps,s1419 _ _ h14,rvp.mono fun _ _=>qP.mono s1019.ts⟩⟩ ?_
      have wl':ws.length<=8:=by omega
      refine⟨by show 1<=R;omega,by show R<=14;omega,⟨be0,be1⟩,⟨la0,la1⟩,by show ws.length<=20;omega,by simp;omega,by simp;omega,by simp;omega,wo,fun x hx=>?_,fun x hx=>?_,fun x hx=>?_,⟨b0,by show ms.getD 31 0 % 256<=255;omega⟩,⟨c0,by show ms.getD 33 0 % 10<=9;omega⟩⟩
      ·obtain ⟨y,_,rfl⟩:=zK.mp hx
       exact⟨⟨q04 y (by omega),q0a y (by omega)⟩,q04 _ (by decide),q0a _ (by decide)⟩
      ·obtain ⟨y,_,rfl⟩:=zK.mp hx
       have m0:=q04 (y / 14) (n:=255) (by decide)
       have m1:=q0a (y / 14) (n:=255) (by decide)
       exact⟨⟨q04 y (by omega),q0a y (by omega)⟩,by show 1<=1+y / 14 % 255;omega,by show 1+y / 14 % 255<=255;omega⟩
      ·obtain ⟨y,_,rfl⟩:=zK.mp hx
       have m0:=q04 (y / 14) (n:=10) (by decide)
       have m1:=q0a (y / 14) (n:=10) (by decide)
       exact⟨⟨q04 y (by omega),q0a y (by omega)⟩,m0,by show y / 14 % 10<=9;omega⟩
def qbn:Sp:=fun vs H Q _=>∃(fi:Int) (l:Addr) (ms:List Int),vs=[.int fi,.ref l]/\H l=some (.lst (ms.map V.int))/\ms.length=34/\∀(p:Addr) (C:Cl) (H':Hp),Same H H'->ClAt H' p C->ClOk C->Q (.ref p) H'
def POk (R:Int)(x:Int×Int):Prop:=(0<=x.1/\x.1<R)/\0<=x.2/\x.2<12
def qc5 (K:W.Frag):Sp:=fun vs H Q _=>∃(a:Addr) (ns:List Int),vs=[.ref a]/\SqL K H a (ns.map V.int)/\ns.length<=63/\∀(p:Addr) (C:Cl) (H':Hp),Same H H'->ClAt H' p C->ClOk C->Q (.ref p) H'
theorem qcz (T:Txt mg cs)(L:Laid K mg "_law_line" q1u ["_law_first","_law_numbers_here"]):Cal P w K mg base 1 "_law_line" ["_law_first","_law_numbers_here"] qbn:=by
 refine L.cal (k:=0) qZ (fun vs H Q E h=>?_) (fun f cdv A outer s H vs Q E hr h=>?_)
 ·obtain ⟨fi,l,ms,rfl,_⟩:=h
  rfl
 ·obtain ⟨fi,l,ms,rfl,h1,hm,k⟩:=h
  have big:=qF
  have hu:=zbh (qcW hr)
  have r0:=q04 fi (n:=7) (by decide)
  have r1:=q0a fi (n:=7) (by decide)
  have q0:=q04 (fi / 84) (n:=2) (by decide)
  have q1:=q0a (fi / 84) (n:=2) (by decide)
  refine⟨_,(qb (qx (i:=2) qZ.nd rfl (Or.inl rfl) (qm q03 qe (qm qK (pv 0) qe)))
   (qb (qx (i:=3) qZ.nd rfl (Or.inl rfl) (qm qK (qm qV (pv 0) qe) qe))
   (qb (qx (i:=4) qZ.nd rfl (Or.inl rfl) (q0P qc))
   (qb (qx (i:=5) qZ.nd rfl (Or.inl rfl) (q0P qc))
   (qb (q0u PassesOwn.never rfl (q08 rfl T.wu (qa (qm q2a (pv 2) qe) qc)) (qp (i:=6) qZ.nd rfl (Or.inl rfl)) (qb (qx (i:=7) qZ.nd rfl (Or.inl rfl) (qk (qL K) (pv 1) (pv 6) (fun _ _=>rfl)))
   (qb (qx (i:=8) qZ.nd rfl (Or.inl rfl) (qm qK (qm q03 (pv 3) (pv 6)) qe))
   (qb (qx (i:=9) qZ.nd rfl (Or.inl rfl) (qk (qL K) (q0P (qa (qC (qa qJ qc)) (qa (qC (qa qJ (qa (pv 8) qc))) (qa (qC (qa qJ (qa (pv 8) qc))) qc)))) (qm qK (pv 7) qe) (fun _ _=>rfl)))
   (qb (q02 (PW.pt (q3e (qv (q8L K hu) (pv 9) (qC (qa qJ qc)) (qr _)) (q3e (qv q6v (qy (lenK K) rfl T.wm q0g (qa (pv 5) qc)) qe (qr _)) (q2z (qv q3m (qm qK (qm qV (pv 7) qe) qe) qe (qr _)))))) (qg (qN (q2A zF zN zO qS (pv 5) (qa (qC (qa (qy (max2 rfl) rfl T.wa8 qbM (qa qe (qa (qm q2a (pv 6) (qm qK (qm qV (pv 7) qe) qe)) qc))) (qa (pv 8) qc))) qc)))) qz)
   (qg (qN (q2A zF zN zO qS (pv 4) (qa (qC (qa (pv 6) (qa (qm q03 (pv 6) qe) (qa (pv 9) (qa (qR q0f (qm qK (qm qV (pv 7) qe) qe) qe (qr _)) qc))))) qc)))))))))
   (qb (qx (i:=10) qZ.nd rfl (Or.inl rfl) (qm q2a (qm q2a (pv 2) qe) (qm qK (qm qV (pv 0) qe) qe)))
   (qg (qq (qC (pa_c (pv 2) (pa_c qe (pa_c (pv 10) (pa_c (q0j (q4o K) rfl T.wV q1S (qa (pv 4) qc)) (pa_c (q0j (q4o K) rfl T.wV q1S (qa (pv 5) qc)) (pa_c (qC qc) (pa_c (qC qc) (pa_c qe (pa_c (qm qK (qk (qL K) (pv 1) qe (fun _ _=>rfl)) qe) qc)))))))))))))))))),?_⟩
  walk_at "r"
  generalize hR:8+fi % 7=R
  have hR2:8<=R/\R<=14:=by omega
  intro W hW
  generalize hG2:upd _ W _=H2
  have s2:=q00 hG2 hW
  have h2:=q01 hG2
  have hl2:=s2 _ _ h1
  walk_at "r"
  intro G hG0
  generalize hG3:upd _ G _=H3
  have s3:=q00 hG3 hG0
  have h3:=q01 hG3
  have zG:H G=none:=s2.free hG0
  have nWl:l≠W:=fun z=>by rw[<-z,h1] at hW;cases hW
  have nGl:l≠G:=fun z=>by rw[<-z,h1] at zG;cases zG
  have nGW:W≠G:=fun z=>by rw[<-z,h2] at hG0;cases hG0
  have ix:∀j:Nat,j<34->atI (ms.map V.int) (j:Int)=some (.int (ms.getD j 0)):=fun j hj=>q59 (by omega)
  obtain⟨B,hB⟩:∃B,fi / 7 % 12=B:=⟨_,rfl⟩
  rw[hB]
  walk_at "r"
  refine q2j (fun i σ H'=>∃(v6 v7 v8 v9:Option V) (ws:List Way) (ts:List (Int×Int)),σ=[some (.int fi),some (.ref l),some (.int R),some (.int B),some (.ref W),some (.ref G),v6,v7,v8,v9,none]/\Same H H'/\H' l=some (.lst (ms.map V.int))/\qG q12 H' W ws/\ws.length=i/\(∀x∈ws,WOk R x)/\qG qP H' G ts/\ts.length<=4/\∀x∈ts,POk R x) ⟨none,none,none,none,[],[],rfl,s2.trans s3,s3 _ _ hl2,⟨[],s3 _ _ h2,Rows.nil⟩,rfl,(fun x hx=>nomatch hx),⟨[],h3,Rows.nil⟩,by simp,fun x hx=>nomatch hx⟩ ?_ ?_
  ·rintro i σ H4 hi ⟨v6,v7,v8,v9,ws,ts,rfl,s4,hl4,⟨ps,hps,rps⟩,wl,wo,⟨qs,hqs,rqs⟩,tl,to⟩
   have hi':i<13:=by omega
   have ek:(0:Int)+(i:Nat)=((i:Nat):Int):=by omega
   have iz:=ix i (by omega)
   rw[<-ek] at iz
   generalize ms.getD i 0=z at iz
   have c0:=q04 (B+(0+(i:Nat))) (n:=12) (by decide)
   have c1:=q0a (B+(0+(i:Nat))) (n:=12) (by decide)
   have d0:=q04 (z / 27) (n:=2) (by decide)
   have d1:=q0a (z / 27) (n:=2) (by decide)
   have lp:ps.length=i:=by rw[rps.1,wl]
   have lq:qs.length=ts.length:=rqs.1
   obtain⟨mx,emx,mx0,mx1⟩:∃mx:Int,(if (0+(i:Nat):Int) - z / 27 % 2>0 then(0+(i:Nat):Int) - z / 27 % 2 else 0)=mx/\0<=mx/\mx<R:=⟨_,rfl,by split<;>omega,by split<;>omega⟩
   intro D2 hn2 hc2 hb2 hr2
   walk_at "r"
   generalize hkd:(B+(0+(i:Nat))) % 12=kd at c0 c1
   intro g1 hg1
   generalize hG5:upd _ g1 _=H5
   have s5:=q00 hG5 hg1
   have e1:H5 g1=some (.tup (Gt.plain).vs):=q01 hG5
   walk_at "r"
   intro g2 hg2
   generalize hG6:upd _ g2 _=H6
   have s6:=q00 hG6 hg2
   have e2:H6 g2=some (.tup (Gt.need kd).vs):=q01 hG6
   walk_at "r"
   intro g3 hg3
   generalize hG7:upd _ g3 _=H7
   have s7:=q00 hG7 hg3
   have e3:H7 g3=some (.tup (Gt.door kd).vs):=q01 hG7
   walk_at "r"
   intro gl hgl
   generalize hG8:upd _ gl _=H8
   have s8:=q00 hG8 hgl
   have e8:=q01 hG8
   obtain⟨g,gt,hat,hg8,gok⟩:∃(g:Addr) (gt:Gt),atI [V.ref g1,.ref g2,.ref g3] (z % 3)=some (.ref g)/\H8 g=some (.tup gt.vs)/\gt.ok:=by
    have m0:=q04 z (n:=3) (by decide)
    have m1:=q0a z (n:=3) (by decide)
    rcases(show z % 3=((0:Nat):Int)\/z % 3=((1:Nat):Int)\/z % 3=((2:Nat):Int) by omega) with e|e|e<;>rw[e]
    ·exact ⟨g1,.plain,q0n rfl,(s6.trans (s7.trans s8)) _ _ e1,trivial⟩
    ·exact ⟨g2,.need kd,q0n rfl,(s7.trans s8) _ _ e2,⟨c0,c1⟩⟩
    ·exact ⟨g3,.door kd,q0n rfl,s8 _ _ e3,⟨c0,c1⟩⟩
   clear hG5 hG6 hG7 hG8
   walk_at "r"
   intro pl hpl
   generalize hG9:upd _ pl _=H9
   have s9:=q00 hG9 hpl
   have e9:=q01 hG9
   have s59:=s5.trans (s6.trans (s7.trans (s8.trans s9)))
   have hl9:=s59 _ _ hl4
   have hps9:=s59 _ _ hps
   have hqs9:=s59 _ _ hqs
   have rps9:=rps.mono fun _ _=>q12.mono s59.ts
   have rqs9:=rqs.mono fun _ _=>qP.mono s59.ts
   have hg9:=s9 _ _ hg8
   clear hG9
   refine⟨g,pl,_,_,rfl,rfl,SqT.of hg9,SqT.of e9,Gt.flat _,rfl,?_⟩
   generalize eqVs gt.vs [V.str "plain"]=bb
   rename_i zz hzz
   have fin:∀(H10:Hp) (qs':List Addr) (ts':List (Int×Int)),Same H H10->H10 l=some (.lst (ms.map V.int))->H10 W=some (.lst (ps.map V.ref))->Rows q12 H10 ps ws->H10 g=some (.tup gt.vs)->H10 G=some (.lst (qs'.map V.ref))->Rows qP H10 qs' ts'->ts'.length<=4->(∀x∈ts',POk R x)->zz ⟨D2.nx,D2.rt,D2.bk,D2.ct⟩ [some (.int fi),some (.ref l),some (.int R),some (.int B),some (.ref W),some (.ref G),some (.int (0+(i:Nat))),some (.int z),some (.int kd),some (.ref g),none] H10:=by
    intro H10 qs' ts' s10 hl10 hps10 rps10 hg10 hqs10 rqs10 tl' to'
    walk_at "r"
    intro t5 ht5
    generalize hG11:upd _ t5 _=H11
    have s11:=q00 hG11 ht5
    have h11:=q01 hG11
    have hps11:=s11 _ _ hps10
    walk_at "r"
    refine q34 hps11 (by rw[yC];omega) ?_
    have ts:=q0p.lst (o:= .lst (ps.map V.ref++[.ref t5])) hps11
    refine hn2 _ _ ⟨_,_,_,_,ws++[⟨(i:Nat),(i:Nat)+1,gt,decide (z / 54 % 4=0)⟩],ts',rfl,(s10.trans s11).put hW,by rw[qj nWl];exact s11 _ _ hl10,qM (fun _ _ y=>q12.mono ts y) (rps10.mono fun _ _=>q12.mono s11.ts) ⟨g,by rw[<-ek];exact h11,s11 _ _ hg10⟩,by simp[wl],fun x hx=>?_,⟨qs',by rw[qj nGW.symm];exact s11 _ _ hqs10,rqs10.mono fun _ _=>qP.mono (s11.ts.trans ts)⟩,tl',to'⟩
    rcases zr.mp hx with y|y
    ·exact wo x y
    ·rw [zp.mp y]
     exact⟨⟨by show(0:Int)<=(i:Nat);omega,by show((i:Nat):Int)<R;omega⟩,⟨by show(0:Int)<=(i:Nat)+1;omega,by show((i:Nat):Int)+1<R;omega⟩,by show((i:Nat):Int)≠(i:Nat)+1;omega,gok⟩
   clear hzz
   have no:=fin H9 qs ts (s4.trans s59) hl9 hps9 rps9 hg9 hqs9 rqs9 tl to
   cases bb with
   |true=>
    walk_at "r"
    exact no
   |false=>
    walk_at "r"
    rw[yC,lq]
    refine ifd (fun y1=>?_) (fun y1=>?_)
    ·walk_at "r"
     refine ifd (fun y2=>?_) (fun y2=>?_)
     ·walk_at "r"
      rw[emx]
      intro t5 ht5
      generalize hG11:upd _ t5 _=H11
      have s11:=q00 hG11 ht5
      have h11:=q01 hG11
      have hqs11:=s11 _ _ hqs9
      walk_at "r"
      refine q34 hqs11 (by rw[yC];omega) ?_
      have ts9:=q0p.lst (o:= .lst (qs.map V.ref++[.ref t5])) hqs11
      have hp11:qP (upd H11 G (.lst (qs.map V.ref++[.ref t5]))) t5 (mx,kd):=qP.mono ts9 h11
      refine fin _ (qs++[t5]) (ts++[_]) (((s4.trans s59).trans s11).put zG) (by rw[qj nGl];exact s11 _ _ hl9) (by rw[qj nGW];exact s11 _ _ hps9) (rps9.mono fun _ _=>q12.mono (s11.ts.trans ts9)) (ts9 _ _ (s11 _ _ hg9)) (by rw[qd];simp) ((rqs9.mono fun _ _=>qP.mono (s11.ts.trans ts9)).snoc hp11) (by simp;omega) fun x hx=>?_
      rcases zr.mp hx with y|y
      ·exact to x y
      ·rw [zp.mp y]
       exact⟨⟨mx0,mx1⟩,c0,c1⟩
     ·walk_at "r"
      exact no
    ·walk_at "r"
     exact no
  ·rintro σ H4 ⟨v6,v7,v8,v9,ws,ts,rfl,s4,hl4,⟨ps,hps,rps⟩,wl,wo,⟨qs,hqs,rqs⟩,tl,to⟩
   have i20:=ix 20 (by omega)
   have c0:=q04 (ms.getD 20 0) (n:=10) (by decide)
   have c1:=q0a (ms.getD 20 0) (n:=10) (by decide)
   walk_at "r"
   refine q7A (SqL.of hps) fun a1 ga1=>?_
   generalize hG5:upd _ a1 _=H5
   have s5:=q00 hG5 ga1
   have h5:=q01 hG5
   walk_at "r"
   refine q7A (SqL.of (s5 _ _ hqs)) fun a2 ga2=>?_
   generalize hG6:upd _ a2 _=H6
   have s6:=q00 hG6 ga2
   have h6:=q01 hG6
   walk_at "r"
   intro a3 ga3
   generalize hG7:upd _ a3 _=H7
   have s7:=q00 hG7 ga3
   have h7:=q01 hG7
   walk_at "r"
   intro a4 ga4
   generalize hG8:upd _ a4 _=H8
   have s8:=q00 hG8 ga4
   have h8:=q01 hG8
   have s48:=s5.trans (s6.trans (s7.trans s8))
   have hl8:=s48 _ _ hl4
   walk_at "r"
   intro p gp
   generalize hG9:upd _ p _=H9
   have s9:=q00 hG9 gp
   have h9:=q01 hG9
   have s49:=s48.trans s9
   refine k p ⟨R,0,R - 1 - fi / 84 % 2,ws,ts,[],[],0,ms.getD 20 0 % 10⟩ H9 (s4.trans s49) ⟨a1,a2,a3,a4,h9,⟨ps,(s6.trans (s7.trans (s8.trans s9))) _ _ h5,rps.mono fun _ _=>q12.mono s49.ts⟩,⟨qs,(s7.trans (s8.trans s9)) _ _ h6,rqs.mono fun _ _=>qP.mono s49.ts⟩,⟨[],(s8.trans s9) _ _ h7,Rows.nil⟩,⟨[],s9 _ _ h8,Rows.nil⟩⟩ ?_
   refine⟨by show 1<=R;omega,by show R<=14;omega,⟨zbK _,by show 0<R;omega⟩,⟨by show 0<=R - 1 - fi / 84 % 2;omega,by show R - 1 - fi / 84 % 2<R;omega⟩,by show ws.length<=20;omega,by show ts.length<=8;omega,by simp,by simp,wo,to,fun x hx=>absurd hx (by simp),fun x hx=>absurd hx (by simp),⟨zbK _,by show(0:Int)<=255;decide⟩,⟨c0,by show ms.getD 20 0 % 10<=9;omega⟩⟩
theorem qaG (T:Txt mg cs)(L:Laid K mg "_law_cave" q1x ["_law_script"])(wA:Cal P w K mg base 1 "_law_cell_at" ["_law_script","_law_k"] (q6m K))(w6:Cal P w K mg base 2 "_law_numbers" ["_law_script","_law_first","_law_total"] (qbm K))(vC:Cal P w K mg base 1 "_law_line" ["_law_first","_law_numbers_here"] qbn)(vk:Cal P w K mg base 2 "_law_small" ["_law_first","_law_numbers_here","_law_big"] q8b):Cal P w K mg base 3 "_law_cave" ["_law_script"] (qc5 K):=by
 refine L.cal (k:=2) q22 (fun vs H Q E h=>?_) (fun f cdv A outer s H vs Q E hr h=>?_)
 ·obtain ⟨a,ns,rfl,_⟩:=h
  rfl
 ·obtain ⟨a,ns,rfl,hS,hl,k⟩:=h
  have big:=qF
  refine⟨_,(qb (qx (i:=1) q22.nd rfl (Or.inl rfl) (qH wA hr (by decide) rfl (qa (pv 0) (qa qe qc))))
   (qb (qx (i:=2) q22.nd rfl (Or.inl rfl) (qH w6 hr (by decide) rfl (qa (pv 0) (qa qe (qa qe qc)))))
   (qb (q02 (qv q0f (qm qK (pv 1) qe) qe (qr _)) (qg (qq (qH vC hr (by decide) rfl (qa (qm qV (pv 1) qe) (qa (pv 2) qc))))) qz)
   (qg (qq (qH vk hr (by decide) rfl (qa (qm qV (pv 1) qe) (qa (pv 2) (qa (q0j int1 rfl T.vO q6a (qa (qR q0f (qm qK (qm qV (pv 1) qe) qe) qe (qr _)) qc)) qc))))))))),?_⟩
  walk_at "r"
  refine⟨a,ns,0,rfl,hS,hl,by decide,?_⟩
  generalize ns.getD _ 0=fi
  walk_at "r"
  refine⟨a,ns,0,34,rfl,hS,hl,by decide,by decide,by decide,fun l ms H1 s1 hl0 h1 hm hp=>?_⟩
  walk_at "r"
  refine ifd (fun g=>?_) (fun g=>?_)
  ·walk_at "r"
   refine⟨_,l,ms,rfl,h1,hm,fun p C H2 s2 hC ok=>?_⟩
   walk_at "r"
   exact k p C H2 (s1.trans s2) hC ok
  ·walk_at "r"
   refine⟨_,_,l,ms,rfl,h1,hm,by split<;>decide,by split<;>decide,fun p C H2 s2 hC ok=>?_⟩
   walk_at "r"
   exact k p C H2 (s1.trans s2) hC ok
def q8a:Sp:=fun vs H Q _=>∃n:Int,vs=[.int n]/\Q (.bl true) H
def qa0:Sp:=fun vs H Q _=>∃(c q:Addr) (C:Cl),vs=[.ref c,.ref q]/\ClAt H c C/\ClOk C/\SAt H q (st0 C)/\(q7Z C->∀H',Same H H'->Q .non H')/\∀(r:Addr) (R:List Sd) (H':Hp),Same H H'->H r=none->qG SAt H' r R->R.Nodup->Ord R->(∀x,x∈R↔Rch (NxR C) (st0 C) x)->R.length<=300->Q (.ref r) H'
theorem q7V {R:Sd->Sd->Prop}{s:Sd}{row:List Sd}(hs:s∈row)(cl:∀x∈row,∀y,R x y->y∈row){x:Sd}(h:Rch R s x):x∈row:=by
 induction h with
 |refl=>exact hs
 |step _ hy ih=>exact cl _ ih _ hy
theorem qaq (T:Txt mg cs)(L:Laid K mg "_law_whole" q19 ["_law_found"]):Cal P w K mg base 1 "_law_whole" ["_law_found"] q8a:=by
 refine L.cal (k:=0) q4N (fun vs H Q E h=>?_) (fun f cdv A outer s H vs Q E hr h=>?_)
 ·obtain ⟨n,rfl,_⟩:=h
  rfl
 ·obtain ⟨n,rfl,k⟩:=h
  refine⟨_,(qg (qq (q3R (qy q18 rfl T.wx q0i (qa (pv 0) (qa (q2B (v:= .ty "int") rfl T.vO q6a rfl) qc))) (q2r (qbw (qy q18 rfl T.wx q0i (qa (pv 0) (qa (q2B (v:= .ty "bool") rfl T.waG q9R rfl) qc)))))))),?_⟩
  walk_at "r"
  exact k
theorem q8P (T:Txt mg cs)(L:Laid K mg "_law_coming" q0V ["_law_cave_here","_law_stand"])(wL:Cal P w K mg base 4 "_law_next" ["_law_cave_here","_law_stand"] q3E):Cal P w K mg base 5 "_law_coming" ["_law_cave_here","_law_stand"] qa0:=by
 refine L.cal (k:=4) q0A (fun vs H Q E h=>?_) (fun f cdv A outer s H vs Q E hr h=>?_)
 ·obtain ⟨c,q,C,rfl,_⟩:=h
  rfl
 ·obtain ⟨c,q,C,rfl,hC,ok,hq,kw,k⟩:=h
  have big:=qF
  have sok:(st0 C).ok C:=q4F ok
  refine⟨_,(qb (qx (i:=2) q0A.nd rfl (Or.inl rfl) (q71 (q0E hr) (pv 1) q2C))
   (qb (qx (i:=3) q0A.nd rfl (Or.inl rfl) (q0P (qa (pv 1) qc)))
   (qb (q4T PassesOwn.never (PW.pt (q3e (qv q3m (qy (lenK K) rfl T.wm q0g (qa (pv 3) qc)) qe (qr _)) (q2z (qv q6v (qy lenT rfl T.wm q0g (qa (pv 2) qc)) qe (qr _))))) (qg (q0u PassesOwn.never rfl (q09 K (qH wL hr (by decide) rfl (qa (pv 0) (qa (qbx zF PySem.F.slot_list_pop PySem.F.type_list_pop mt_pop (pv 3)) qc)))) (q0y (n:=2) K rfl (qw (qp (i:=4) q0A.nd rfl (Or.inl rfl)) (qw (qp (i:=5) q0A.nd rfl (Or.inl rfl)) q0x))) (qg (q02 (q26 (q3S (q0E hr) (pv 5) (pv 2))) (qb (q27 (q0E hr) (pv 2) (pv 5) q2C rfl)
   (qg (qN (q2A zF zN zO qS (pv 3) (qa (pv 5) qc))))) qz)))))
   (qb (q02 (qv q3m (qy lenT rfl T.wm q0g (qa (pv 2) qc)) qe (qr _)) (qg (qq q3O)) qz)
   (qg (qq (qy (sortTW K) rfl T.vT q69 (qa (q0j lstD rfl T.vF q49 (qa (pv 2) qc)) qc)))))))),?_⟩
  walk_at "r"
  intro D hD
  have s1:=Same.upd (o:= .dT []) hD
  have h1:=qd (H:=H) (a:=D) (o:= .dT [])
  generalize upd H D (.dT [])=H1 at s1 h1 ⊢
  walk_at "r"
  refine⟨q,(st0 C).key,rfl,h1,s1 _ _ hq,?_⟩
  have s2:Same H (upd H1 D (.dT [((st0 C).key,V.bl true)])):=s1.put hD
  have d2:DAtS (upd H1 D (.dT [((st0 C).key,V.bl true)])) D (knD [st0 C]):=qd
  generalize upd H1 D (.dT [((st0 C).key,V.bl true)])=H2 at s2 d2 ⊢
  walk_at "r"
  intro W hW2
  have hW:H W=none:=s2.free hW2
  have s3:=s2.trans (Same.upd (o:= .lst [.ref q]) hW2)
  have d3:DAtS (upd H2 W (.lst [.ref q])) D (knD [st0 C]):=(Same.upd (o:= .lst [.ref q]) hW2) _ _ d2
  have w3:=qd (H:=H2) (a:=W) (o:= .lst [.ref q])
  generalize upd H2 W (.lst [.ref q])=H3 at s3 d3 w3 ⊢
  walk_at "r"
  refine q6s (fun n σ H'=>∃(row wt:List Sd) (v4 v5:Option V),σ=[some (.ref c),some (.ref q),some (.ref D),some (.ref W),v4,v5]/\Same H H'/\DAtS H' D (knD row)/\qG SAt H' W wt/\row.Nodup/\(∀x∈row,Rch (NxR C) (st0 C) x)/\(∀x∈wt,x∈row)/\(∀x∈row,x∈wt\/∀y∈nx C x,y∈row)/\st0 C∈row/\row.length<=356/\wt.length<=row.length/\n=1000 - (row.length - wt.length)) (1000 - (1 - 1))
   ⟨[st0 C],[st0 C],none,none,rfl,s3,d3,⟨[q],w3,Rows.nil.snoc (s3 _ _ hq)⟩,by simp,fun x hx=>by rw[List.mem_singleton.mp hx];exact .refl,fun x hx=>hx,fun x hx=> .inl hx,by simp,by simp,by simp,rfl⟩ ?_
  rintro n σ H4 ⟨row,wt,v4,v5,rfl,s4,hd4,⟨ps,hps,rps⟩,nd,ro,wr,ci,si,r2',lw,hn⟩
  have lp:ps.length=wt.length:=rps.1
  have kl:(dkv (knD row)).length=row.length:=by simp[dkv,knD]
  walk_at "r"
  rename_i zz hzz
  have done:(wt=[]\/300<row.length)->zz ⟨fun x H'=>Q V.non H',Q,fun _ _=>False,fun _ _=>False⟩ [some (.ref c),some (.ref q),some (.ref D),some (.ref W),v4,v5] H4:=by
   intro hor
   walk_at "r"
   refine⟨D,_,rfl,hd4,?_⟩
   rw[kl]
   walk_at "r"
   refine ifd (fun g1=>?_) (fun g1=>?_)
   ·walk_at "r"
    exact kw ⟨row,nd,ro,by omega⟩ H4 s4
   have hwt:wt=[]:=by
    rcases hor with z|z
    ·exact z
    ·omega
   have hmem:∀x,x∈row↔Rch (NxR C) (st0 C) x:=fun x=>⟨ro x,q7V si fun x hx y hy=>by
    rcases ci x hx with z|z
    ·rw [hwt] at z;cases z
    ·exact z y hy⟩
   walk_at "r"
   refine⟨D,_,rfl,hd4,fun r bs hr0 bl hb=>?_⟩
   have bl':bs.length=row.length:=by rw[bl,kl]
   have s5:=Same.upd (o:= .lst (bs.map V.ref)) hr0
   have rows:Rows SAt (upd H4 r (.lst (bs.map V.ref))) bs row:=⟨bl',fun i p x h1 h2=>by
    have hi:i<row.length:=(yA h2).1
    have:=hb i p (x.key,V.bl true) h1 (by rw[dkv,knD,zP,zJ,h2];rfl)
    exact s5 _ _ this⟩
   obtain⟨l,e1,e2,e3⟩:=qG.pairs rows
   have el:(l.map fun x=>V.ref x.1)=bs.map V.ref:=by rw[<-e1,zP];rfl
   refine⟨r,l,5,rfl,SqL.of (by rw[el];exact qd),by decide,e3,fun r2 l' hr2 hp hs=>?_⟩
   obtain⟨R,pm,od,rr⟩:=q7u (ps:=bs) e2 e3 hp hs
   have s6:=Same.upd (o:= .lst (l'.map fun x=>V.ref x.1)) hr2
   exact k r2 R _ (s4.trans (s5.trans s6)) (s4.free (s5.free hr2)) ⟨l'.map (·.1),by rw[zP];exact qd,rr.mono fun _ _=>SAt.mono s6.ts⟩ (pm.nodup_iff.mpr nd) od (fun x=>by rw[pm.mem_iff];exact hmem x) (by rw[pm.length_eq];omega)
  clear hzz
  rw[yC,lp]
  refine ifd (fun g1=>?_) (fun g1=>?_)
  ·walk_at "r"
   refine⟨D,_,rfl,hd4,?_⟩
   rw[kl]
   walk_at "r"
   refine ifd (fun g2=>?_) (fun g2=>?_)
   ·obtain ⟨wt0,x,rfl⟩:∃wt0 x,wt=wt0++[x]:=⟨wt.dropLast,wt.getLast (by intro z;rw[z] at g1;simp at g1),(zcp _).symm⟩
    obtain⟨ps0,p,rfl⟩:∃ps0 p,ps=ps0++[p]:=⟨ps.dropLast,ps.getLast (by intro z;rw[z] at lp;simp at lp),(zcp _).symm⟩
    rw[zm,zm] at lp
    have lp0:ps0.length=wt0.length:=by simpa using lp
    have hpx:SAt H4 p x:=rps.2 wt0.length p x (by simp[<-lp0]) (by simp)
    have rps0:Rows SAt H4 ps0 wt0:=⟨lp0,fun i a b h1 h2=>rps.2 i a b (by rw[zA (yA h1).1];exact h1) (by rw[zA (yA h2).1];exact h2)⟩
    have hxr:x∈row:=wr x (by simp)
    have xr:=ro x hxr
    have xok:x.ok C:=q6E ok sok xr
    have lw0:wt0.length+1<=row.length:=by simpa using lw
    have fx:=q2U ok x
    have neWD:W≠D:=q2R hps hd4 (by intro z;cases z)
    refine⟨fun σ' H'=>∃(row' wt':List Sd) (v4 v5:Option V),σ'=[some (.ref c),some (.ref q),some (.ref D),some (.ref W),v4,v5]/\Same H H'/\DAtS H' D (knD row')/\qG SAt H' W wt'/\row'.Nodup/\(∀x∈row',Rch (NxR C) (st0 C) x)/\(∀x∈wt',x∈row')/\(∀x∈row',x∈wt'\/∀y∈nx C x,y∈row')/\st0 C∈row'/\row.length<=row'.length/\row'.length<=row.length+56/\wt'.length+row.length=wt0.length+row'.length,?_,?_⟩
    ·rintro σ' H' ⟨row',wt',v4,v5,rfl,y1,y2,y3,y4,y5,y6,y7,y8,y9,y10,y11⟩
     have hl:(wt0++[x]).length=wt0.length+1:=by simp
     exact⟨1000 - (row'.length - wt'.length),by omega,row',wt',v4,v5,rfl,y1,y2,y3,y4,y5,y6,y7,y8,by omega,by omega,rfl⟩
    walk_at "r"
    refine⟨W,_,.ref p,rfl,rfl,hps,by simp,?_⟩
    rw[show((ps0++[p]).map V.ref).dropLast=ps0.map V.ref by rw[zR];simp]
    have ts5:=q0p.lst (o:= .lst (ps0.map V.ref)) hps
    have s5:Same H (upd H4 W (.lst (ps0.map V.ref))):=s4.put hW
    have w5:=qd (H:=H4) (a:=W) (o:= .lst (ps0.map V.ref))
    have d5:DAtS (upd H4 W (.lst (ps0.map V.ref))) D (knD row):=DAtS.lput hps hd4
    generalize upd H4 W (.lst (ps0.map V.ref))=H5 at ts5 s5 w5 d5 ⊢
    walk_at "r"
    refine⟨c,p,C,x,rfl,hC.mono s5.ts,ok,SAt.mono ts5 hpx,xok,fun lq H6 s6 hl0 m6=>?_⟩
    obtain⟨qs,hqs,rqs⟩:=m6
    have neqW:lq≠W:=fun z=>by subst z;rw[hl0] at w5;cases w5
    have neqD:lq≠D:=fun z=>by rw[z,show H5 D=some _ from d5] at hl0;cases hl0
    walk_at "r"
    refine q3z (qs.map V.ref) (fun i σ' H'=>∃(row' wt':List Sd) (v4 v5:Option V),σ'=[some (.ref c),some (.ref q),some (.ref D),some (.ref W),v4,v5]/\Same H H'/\H' lq=some (.lst (qs.map V.ref))/\Rows (PrAt C x) H' qs (fitD C x)/\DAtS H' D (knD row')/\qG SAt H' W wt'/\row'.Nodup/\(∀x∈row',Rch (NxR C) (st0 C) x)/\(∀x∈wt',x∈row')/\(∀z∈row',z∈wt'\/z=x\/∀y∈nx C z,y∈row')/\(∀y∈(nx C x).take i,y∈row')/\st0 C∈row'/\row.length<=row'.length/\row'.length<=row.length+i/\wt'.length+row.length=wt0.length+row'.length)
     ⟨row,wt0,v4,v5,rfl,s5.trans s6,hqs,rqs,s6 _ _ d5,⟨ps0,s6 _ _ w5,rps0.mono fun _ _=>SAt.mono (ts5.trans s6.ts)⟩,nd,ro,fun y hy=>wr y (zY _ hy),fun z hz=>by
      rcases ci z hz with y|y
      ·rcases zr.mp y with y|y
       ·exact .inl y
       ·exact .inr (.inl (zp.mp y))
      ·exact .inr (.inr y),by simp,si,ze _,ze _,rfl⟩ ?_ ?_ ?_
    ·rintro i σ' H' ⟨_,_,_,_,rfl,_,e,_⟩
     exact SqL.of e
    ·rintro i z σ' H7 hz ⟨row',wt',v4,v5,rfl,s7,l7,rq7,hd7,⟨us,hus,rus⟩,nd',ro',wr',ci',ti,si',z1,z2,z3⟩
     have hi:i<(fitD C x).length:=by have:=(yA hz).1;rw[yC,rqs.1] at this;exact this
     obtain⟨p',ep',hp7⟩:=rq7.get hi
     rw[hz] at ep'
     cases ep'
     obtain⟨t,r,e7,_,hr7⟩:=hp7
     have hi':i<(nx C x).length:=by unfold nx;rw[yC];exact hi
     have ey:q1X C x (fitD C x)[i].1 ((fitD C x)[i].2:Int)=(nx C x)[i]:=by simp[nx]
     rw[ey] at hr7
     have hy:NxR C x (nx C x)[i]:=zU hi'
     have et:(nx C x).take (i+1)=(nx C x).take i++[(nx C x)[i]]:=zh hi'
     generalize (nx C x)[i]=y at hr7 hy et
     have hr7:SAt H7 r y:=hr7
     have ul:us.length<=500:=by rw[rus.1];omega
     intro D2 hn2 hc2 hb2 hr2
     walk_at "r"
     refine⟨D,_,rfl,q2V (.inl hd7) hr7,?_⟩
     rw[q2l,q7a]
     walk_at "r"
     by_cases hin:y∈row'
     ·rw [zu hin]
      walk_at "r"
      exact hn2 _ _ ⟨row',wt',_,_,rfl,s7,l7,rq7,hd7,⟨us,hus,rus⟩,nd',ro',wr',ci',fun z hz=>by
       rw[et] at hz
       rcases zr.mp hz with h|h
       ·exact ti z h
       ·rw [zp.mp h];exact hin,si',z1,by omega,z3⟩
     ·rw [zn hin]
      walk_at "r"
      refine⟨D,_,rfl,q44 hd7 hr7 (by simp[knD];omega) (by rw[q7a];exact hin),?_⟩
      have ek:knD row'++[(y,V.bl true)]=knD (row'++[y]):=by simp[knD]
      rw[ek]
      have ts8:=q52 (o:= .dT (dkv (knD (row'++[y])))) hd7
      have s8:Same H (upd H7 D (.dT (dkv (knD (row'++[y]))))):=s7.put hD
      have d8:DAtS (upd H7 D (.dT (dkv (knD (row'++[y]))))) D (knD (row'++[y])):=qd
      have l8:upd H7 D (.dT (dkv (knD (row'++[y])))) lq=some (.lst (qs.map V.ref)):=by rw[qj neqD];exact l7
      have u8:upd H7 D (.dT (dkv (knD (row'++[y])))) W=some (.lst (us.map V.ref)):=by rw[qj neWD];exact hus
      generalize upd H7 D (.dT (dkv (knD (row'++[y]))))=H8 at ts8 s8 d8 l8 u8 ⊢
      walk_at "r"
      refine q34 u8 (by rw[yC];omega) ?_
      have ts9:=q0p.lst (o:= .lst (us.map V.ref++[.ref r])) u8
      exact hn2 _ _ ⟨row'++[y],wt'++[y],_,_,rfl,s8.put hW,by rw[qj neqW];exact l8,rq7.mono fun _ _ h=>PrAt.mono (ts8.trans ts9) h,DAtS.lput u8 d8,qM (fun _ _=>SAt.put u8) (rus.mono fun _ _=>SAt.mono ts8) (SAt.mono ts8 hr7),q7I nd' hin,fun z hz=>by
       rcases zr.mp hz with h|h
       ·exact ro' z h
       ·rw [zp.mp h];exact xr.step hy,fun z hz=>by
       rcases zr.mp hz with h|h
       ·exact zY _ (wr' z h)
       ·exact zI _ h,fun z hz=>by
       rcases zr.mp hz with h|h
       ·rcases ci' z h with a|a|a
        ·exact .inl (zY _ a)
        ·exact .inr (.inl a)
        ·exact .inr (.inr fun u hu=>zY _ (a u hu))
       ·exact .inl (zI _ h),fun z hz=>by
       rw[et] at hz
       rcases zr.mp hz with h|h
       ·exact zY _ (ti z h)
       ·exact zI _ h,zY _ si',by rw[zm];simp;omega,by rw[List.length_append];simp;omega,by rw[List.length_append,List.length_append];simp;omega⟩
    ·rintro σ' H7 ⟨row',wt',v4,v5,rfl,s7,l7,rq7,hd7,hw7,nd',ro',wr',ci',ti,si',z1,z2,z3⟩
     rw[yC,rqs.1] at z2
     rw[yC,rqs.1,show(fitD C x).length=(nx C x).length by simp[nx],zL] at ti
     exact⟨row',wt',_,_,rfl,s7,hd7,hw7,nd',ro',wr',fun z hz=>by
      rcases ci' z hz with a|a|a
      ·exact .inl a
      ·rw [a];exact .inr ti
      ·exact .inr a,si',z1,by omega,z3⟩
   ·walk_at "r"
    exact done (.inr (by omega))
  ·walk_at "r"
   exact done (.inl (zbV.mp (by omega)))
end
theorem q8s {i:Nat}{sp:Sp}{dvs:List V}{t:TA}{th:TH}{nx bk ct:St->Hp->Prop}{rt:VK}{σ:St}{H:Hp}(q:t σ H fun vs H1=>sp (vs++dvs) H1 (fun v H2=>nx (σ.set i (some v)) H2) (fun cls od H'=>th cls od ⟨nx,rt,bk,ct⟩ σ H')):tTryH (xSet i (qbR sp dvs t)) th ⟨nx,rt,bk,ct⟩ σ H:=q
def spTold:Sp:=fun vs H Q _=>∃(c:Addr) (C:Cl),vs=[.ref c]/\ClAt H c C/\ClOk C/\(q7Z C->∀(r:Addr) (H':Hp),Same H H'->H' r=some (.tup [.non,.non])->Q (.ref r) H')/\
 ∀(r a b:Addr) (R:List Sd) (N:Sd->Option Int) (H':Hp),Same H H'->H' r=some (.tup [.ref a,.ref b])->H a=none->H b=none->a≠b->NrAt C H' a R N->qG SAt H' b (q2n R N)->Q (.ref r) H'
theorem q3I {R:List Sd}{N M:Sd->Option Int}(h:∀x∈R,N x=M x):q2n R N=q2n R M:=by
 unfold q2n
 exact List.filter_congr fun x hx=>by rw[h x hx]
section
variable {P:Program}{w:World}{K:W.Frag}{mg:Str->Option Value}{base:Heap}{xs:Xs}{cs:Cs}
theorem qcw (T:Txt mg cs)(TX:Tx K mg xs)(L:Laid K mg "_law_told" q1s ["_law_cave_here"])(vj:CalX P w K mg base 10 "nears" ["cellar"] (q6j xs.Wide))(vg:CalX P w K mg base 11 "shut_stands" ["cellar"] (q8c xs.Wide)):Cal P w K mg base 12 "_law_told" ["_law_cave_here"] spTold:=by
 refine L.cal (k:=11) q0q (fun vs H Q E h=>?_) (fun f cdv A outer s H vs Q E hr h=>?_)
 ·obtain ⟨c,C,rfl,_⟩:=h
  rfl
 ·obtain ⟨c,C,rfl,hC,ok,kw,k⟩:=h
  refine⟨_,(qb (qx (i:=1) q0q.nd rfl (Or.inl rfl) q3O)
   (qb (qx (i:=2) q0q.nd rfl (Or.inl rfl) q3O)
   (qb (q8w rfl rfl rfl (q6X (q8v (i:=1) q0q.nd rfl (Or.inl rfl) (q6Y vj rfl hr (by decide) rfl (qa (pv 0) qc))))
   (qbu K rfl rfl TX.wae (fun _=>(qg (qx (i:=1) q0q.nd rfl (Or.inl rfl) q3O)))))
   (qb (q8w rfl rfl rfl (q6X (q8v (i:=2) q0q.nd rfl (Or.inl rfl) (q6Y vg rfl hr (by decide) rfl (qa (pv 0) qc))))
   (qbu K rfl rfl TX.wae (fun _=>(qg (qx (i:=2) q0q.nd rfl (Or.inl rfl) q3O)))))
   (qg (qq (qC (qa (pv 1) (qa (pv 2) qc))))))))),?_⟩
  walk_at "r"
  refine q8s ?_
  walk_at "r"
  refine⟨c,C,rfl,hC,ok,fun r R N H1 s1 hr0 na=>?_,fun hw H1 s1=>⟨TX.wah,?_⟩⟩
  ·walk_at "r"
   refine q8s ?_
   walk_at "r"
   refine⟨c,C,rfl,hC.mono s1.ts,ok,fun r2 R2 N2 H2 s2 hr20 nf m2=>?_,fun hw=>absurd hw na.2.not_wide⟩
   walk_at "r"
   intro p hp
   have s3:=Same.upd (o:= .tup [.ref r,.ref r2]) hp
   obtain⟨rfl,en⟩:=na.2.uniq nf
   obtain⟨⟨us,hus,rus⟩,nf1⟩:=na
   have s23:=s2.trans s3
   refine k p r r2 R N _ (s1.trans s23) qd hr0 (s1.free hr20) (fun z=>by rw[<-z,hus] at hr20;cases hr20) ⟨⟨us,s23 _ _ hus,rus.mono fun _ _ h=>SvAt.mono s23.ts h⟩,nf1⟩ ?_
   rw[q3I en]
   obtain⟨ps,h1,h2⟩:=m2
   exact⟨ps,s3 _ _ h1,h2.mono fun _ _=>SAt.mono s3.ts⟩
  ·walk_at "r"
   refine q8s ?_
   walk_at "r"
   refine⟨c,C,rfl,hC.mono s1.ts,ok,fun r2 R2 N2 H2 s2 hr20 nf m2=>absurd hw nf.not_wide,fun _ H2 s2=>⟨TX.wah,?_⟩⟩
   walk_at "r"
   intro p hp
   exact kw hw p _ (s1.trans (s2.trans (Same.upd hp))) qd
end
def nmD (N:Sd->Option Int)(R:List Sd):Dk:=R.map fun x=>(x,ovV (N x))
theorem q78 (N:Sd->Option Int)(R:List Sd):(nmD N R).map (·.1)=R:=by
 unfold nmD
 rw[zP]
 exact(zab fun a _=>rfl).trans (zay R)
theorem qbA {N:Sd->Option Int}{R:List Sd}(nd:R.Nodup){x:Sd}(hx:x∈R):dat (nmD N R) x=some (ovV (N x)):=q50 (by rw[q78];exact nd) (zK.mpr ⟨x,hx,rfl⟩)
theorem q9n (s:Sd):eqVs s.vs s.vs=true:=by simp[eqVs,Sd.vs,eqV]
theorem ne_ovV (a b:Option Int):(!decide (ovV a=ovV b))= !decide (a=b):=by
 by_cases e:a=b
 ·subst e;simp
 ·rw [zn e,zn fun z=>e (q8K z)]
theorem qca (a b:Option Int):scal (ovV a) (ovV b)=true:=by cases a<;>cases b<;>rfl
theorem qb4 (ns:List Int):eqVs (ns.map V.int) []=decide (ns=[]):=by cases ns<;>simp[eqVs]
theorem q9j (ns:List Int):(ns.map V.int).all q2D=true:=by
 rw[List.all_map,zcN]
 intro x _
 rfl
theorem qcM (l:List (Option Int)){M:Int}(h1:M∈l.filterMap id)(h2:∀a∈l.filterMap id,M<=a):minO l=some M:=by
 refine q16.mpr ⟨?_,fun b hb=>h2 b (zaE.mpr ⟨_,hb,rfl⟩)⟩
 obtain⟨o,ho,e⟩:=zaE.mp h1
 rw[<-show o=some M from e]
 exact ho
theorem qaM (l:List (Option Int))(h:l.filterMap id=[]):minO l=none:=by
 refine q2S.mpr fun x hx=>?_
 cases x with
 |none=>rfl
 |some a=>
  have:a∈l.filterMap id:=zaE.mpr ⟨_,hx,rfl⟩
  rw[h] at this;cases this
def qc3:Sp:=fun vs H Q _=>∃(c a S:Addr) (C:Cl) (R:List Sd) (N:Sd->Option Int),vs=[.ref c,.ref a,.ref S]/\ClAt H c C/\ClOk C/\NrAt C H a R N/\qG SAt H S R/\∀H',Same H H'->Q (.bl true) H'
section
variable {P:Program}{w:World}{K:W.Frag}{mg:Str->Option Value}{base:Heap}{cs:Cs}
theorem qav (T:Txt mg cs)(L:Laid K mg "_law_right" q0C ["_law_cave_here","_law_rows","_law_stands"])(vp:Cal P w K mg base 1 "_law_whole" ["_law_found"] q8a)(wL:Cal P w K mg base 4 "_law_next" ["_law_cave_here","_law_stand"] q3E):Cal P w K mg base 5 "_law_right" ["_law_cave_here","_law_rows","_law_stands"] qc3:=by
 refine L.cal (k:=4) qW (fun vs H Q E h=>?_) (fun f cdv A outer s H vs Q E hr h=>?_)
 ·obtain ⟨c,a,S,C,R,N,rfl,_⟩:=h
  rfl
 ·obtain ⟨c,a,S,C,R,N,rfl,hC,ok,⟨⟨as,has,ras⟩,nf⟩,⟨us,hus,rus⟩,k⟩:=h
  have big:=qF
  have hu:=zbh (qcW hr)
  have hlen:=nf.len
  have la:as.length=R.length:=by rw[ras.1,yC]
  have lu:us.length=R.length:=rus.1
  obtain⟨pw,pt,pl,pv',h0,_⟩:=hC.ex
  refine⟨_,(qb (qx (i:=3) qW.nd rfl (Or.inr rfl) q3v)
   (qb (q02 (PW.pt (q2O (q2q (q0S (qy q18 rfl T.wx q0i (qa (pv 1) (qa (q2B (v:= .ty "list") rfl T.vF q49 rfl) qc))))) (q25 (qv q5T (qy (lenK K) rfl T.wm q0g (qa (pv 1) qc)) (qy (lenK K) rfl T.wm q0g (qa (pv 2) qc)) (qr _))))) (qg (qq q2C)) qz)
   (qb (q0u PassesOwn.never rfl (q08 rfl T.wu (qa (qy (lenK K) rfl T.wm q0g (qa (pv 1) qc)) qc)) (qp (i:=4) qW.nd rfl (Or.inl rfl)) (qb (q02 (PW.pt (q2O (q2q (q0S (qy q18 rfl T.wx q0i (qa (qk (qL K) (pv 1) (pv 4) (fun _ _=>rfl)) (qa (q2B (v:= .ty "tuple") rfl T.wV q1S rfl) qc))))) (q2O (qv q5T (qy (lenK K) rfl T.wm q0g (qa (qk (qL K) (pv 1) (pv 4) (fun _ _=>rfl)) qc)) qe (qr _)) (q25 (qv (q8L K hu) (qk (qh K) (qk (qL K) (pv 1) (pv 4) (fun _ _=>rfl)) qe (fun _ _=>rfl)) (qk (qL K) (pv 2) (pv 4) (fun _ _=>rfl)) (qr _)))))) (qg (qq q2C)) qz)
   (qb (q02 (PW.pt (q3e (q26 (q8I (qk (qh K) (qk (qL K) (pv 1) (pv 4) (fun _ _=>rfl)) qe (fun _ _=>rfl)))) (q2z (PW.pt (q2O (q2q (q0S (qH vp hr (by decide) rfl (qa (qk (qh K) (qk (qL K) (pv 1) (pv 4) (fun _ _=>rfl)) qe (fun _ _=>rfl)) qc)))) (q25 (qv q6v (qk (qh K) (qk (qL K) (pv 1) (pv 4) (fun _ _=>rfl)) qe (fun _ _=>rfl)) qe (qr _)))))))) (qg (qq q2C)) qz)
   (qg (q27 (q0E hr) (pv 3) (qk (qL K) (pv 2) (pv 4) (fun _ _=>rfl)) (qk (qh K) (qk (qL K) (pv 1) (pv 4) (fun _ _=>rfl)) qe (fun _ _=>rfl)) rfl)))))
   (qb (q0u PassesOwn.never rfl (q09 K (pv 2)) (qp (i:=5) qW.nd rfl (Or.inl rfl)) (qb (q28 (i:=6) qW.nd rfl rfl (q0G (N:=["_law_step","_law_number"]) (own:=1) (caps:=[3]) ["_law_cave_here","_law_rows","_law_stands","_law_number","_law_k","_law_stand","_law_ahead","_law_near","_law_due"] (qf q0C) (by walk_at "k")) rfl (q09 K (qH wL hr (by decide) rfl (qa (pv 0) (qa (pv 5) qc)))) (fun _ _ _ _=>(qp (i:=0) (show List.Nodup (["_law_step","_law_number"]:List Str) by walk_at "k") rfl (Or.inl rfl))) (fun _ _ _ _=>q1W) (fun _ _ _ _=>(q3P (q0E hr) (pv 1) (qk (qh K) (pv 0) qe (fun _ _=>rfl)) (fun _ _=>rfl))))
   (qb (q28 (i:=7) qW.nd rfl rfl (q0G (N:=["_law_one"]) (own:=1) (caps:=[]) ["_law_cave_here","_law_rows","_law_stands","_law_number","_law_k","_law_stand","_law_ahead","_law_near","_law_due"] (qf q0C) (by walk_at "k")) rfl (q09 K (pv 6)) (fun _ _ _ _=>(qp (i:=0) (show List.Nodup (["_law_one"]:List Str) by walk_at "k") rfl (Or.inl rfl))) (fun _ _ _ _=>(q4s (q26 (q8I (pv 0))))) (fun _ _ _ _=>(pv 0)))
   (qb (qx (i:=8) qW.nd rfl (Or.inl rfl) q3O)
   (qb (q02 (qv (qct K hu) (pv 7) (q0P qc) (qr _)) (qg (qx (i:=8) qW.nd rfl (Or.inl rfl) (qm q03 qe (qy (minLK K rfl) rfl T.wa6 qbL (qa (pv 7) qc))))) qz)
   (qb (q02 (qv q0f (qk (qh K) (pv 5) qe (fun _ _=>rfl)) (qk (qh K) (pv 0) qe (fun _ _=>rfl)) (qr _)) (qg (qx (i:=8) qW.nd rfl (Or.inl rfl) qe)) qz)
   (qg (q02 (qv q5T (q3P (q0E hr) (pv 3) (pv 5) (fun _ _=>rfl)) (pv 8) (qr _)) (qg (qq q2C)) qz))))))))
   (qg (qq q2C)))))),?_⟩
  walk_at "r"
  intro D hD
  have s1:=Same.upd (o:= .dT []) hD
  have d1:DAtS (upd H D (.dT [])) D (nmD N []):=qd
  generalize upd H D (.dT [])=H1 at s1 d1 ⊢
  have a1:=s1 _ _ has
  have u1:=s1 _ _ hus
  walk_at "r"
  rw[yC,yC,la,lu]
  rw[zu rfl]
  walk_at "r"
  rw[yC,la]
  walk_at "r"
  refine q2j (fun i σ H'=>∃(v4:Option V),σ=[some (.ref c),some (.ref a),some (.ref S),some (.ref D),v4,none,none,none,none]/\Same H H'/\DAtS H' D (nmD N (R.take i))) ⟨none,rfl,s1,by rw[List.take_zero];exact d1⟩ ?_ ?_
  ·rintro i σ H2 hi ⟨v4,rfl,s2,d2⟩
   have hi:i<R.length:=by simpa using hi
   have ek:(0:Int)+(i:Nat)=((i:Nat):Int):=by omega
   have ha2:=s2 _ _ has
   have hu2:=s2 _ _ hus
   have et:R.take (i+1)=R.take i++[R[i]]:=zh hi
   have hni:R[i]∉R.take i:=fun z=>by
    have:=nf.nd.sublist (z8 (i+1) R)
    rw[et] at this
    exact(zaJ.mp this).2.2 _ z _ (by simp) rfl
   have hx1:=ras.2 i as[i] (R[i],N R[i]) (yB (by omega)) (by rw[zJ,yB hi];rfl)
   have hx2:=rus.2 i us[i] R[i] (yB (by omega)) (yB hi)
   have i1:atI (as.map V.ref) (0+(i:Nat))=some (.ref as[i]):=by rw[ek];exact q0n (by rw[zJ,yB (by omega)];rfl)
   have i2:atI (us.map V.ref) (0+(i:Nat))=some (.ref us[i]):=by rw[ek];exact q0n (by rw[zJ,yB (by omega)];rfl)
   have gex:=nf.near.ge R[i] (zU hi)
   generalize R[i]=x at et hni hx1 hx2 gex
   generalize as[i]=p at hx1 i1
   generalize us[i]=r at hx2 i2
   obtain⟨b,hp1,hb1⟩:=SvAt.mono s2.ts hx1
   have hr2:SAt H2 r x:=SAt.mono s2.ts hx2
   intro D2 hn2 hc2 hb2 hrt2
   walk_at "r"
   rw[zd (by simp)]
   walk_at "r"
   refine⟨b,r,_,_,rfl,rfl,SqT.of hb1,SqT.of hr2,rfl,rfl,?_⟩
   rw[q9n]
   walk_at "r"
   rename_i zz hzz
   have fin:zz ⟨D2.nx,D2.rt,D2.bk,D2.ct⟩ [some (.ref c),some (.ref a),some (.ref S),some (.ref D),some (.int (0+(i:Nat))),none,none,none,none] H2:=by
    walk_at "r"
    refine⟨D,_,rfl,q44 d2 hr2 (by simp[nmD];omega) (by rw[q78];exact hni),?_⟩
    refine hn2 _ _ ⟨_,rfl,s2.put hD,?_⟩
    rw[et]
    unfold nmD
    rw[zR]
    exact qd
   clear hzz
   cases hN:N x with
   |none=>
    rw[hN] at hp1
    have hp1:H2 p=some (.tup [.ref b,.non]):=hp1
    walk_at "r"
    exact fin
   |some m=>
    have m0:=gex m hN
    rw[hN] at hp1
    have hp1:H2 p=some (.tup [.ref b,.int m]):=hp1
    walk_at "r"
    rw[zi (by exact rfl)]
    walk_at "r"
    refine⟨m,rfl,?_⟩
    walk_at "r"
    refine ifd (fun g=>absurd g (by omega)) (fun g=>?_)
    walk_at "r"
    exact fin
  ·rintro σ H2 ⟨v4,rfl,s2,d2⟩
   rw[show((R.length:Nat):Int).toNat=R.length from zk _,zL] at d2
   have u2:=s2 _ _ hus
   walk_at "r"
   refine q3z (us.map V.ref) (fun i σ H'=>∃(v5 v6 v7 v8:Option V),σ=[some (.ref c),some (.ref a),some (.ref S),some (.ref D),v4,v5,v6,v7,v8]/\Same H2 H') ⟨none,none,none,none,rfl,Same.refl _⟩ ?_ ?_ ?_
   ·rintro i σ' H' ⟨_,_,_,_,rfl,s3⟩
    exact SqL.of (s3 _ _ u2)
   ·rintro i z σ' H3 hz ⟨v5,v6,v7,v8,rfl,s3⟩
    have hi:i<R.length:=by have:=(yA hz).1;rw[yC,lu] at this;exact this
    obtain⟨p,ep,hp⟩:=rus.get hi
    rw[hz] at ep
    cases ep
    have hxm:R[i]∈R:=zU hi
    generalize R[i]=x at hp hxm
    have s03:=s2.trans s3
    have hp3:SAt H3 p x:=SAt.mono s03.ts hp
    have xok:x.ok C:=q6E ok (show(st0 C).ok C from q4F ok) ((nf.mem x).mp hxm)
    have fx:=q2U ok x
    intro D2 hn2 hc2 hb2 hrt2
    walk_at "r"
    refine⟨c,p,C,x,rfl,hC.mono s03.ts,ok,hp3,xok,fun l H4 s4 hl0 m4=>?_⟩
    obtain⟨ps,hps,rps⟩:=m4
    have s24:=s3.trans s4
    have d4:DAtS H4 D (nmD N R):=s24 _ _ d2
    walk_at "r"
    intro B hB
    refine q0L (ps.map V.ref) (fun j σ H'=>∃v0,σ=[v0,some (.ref D)]/\Same H4 H'/\H' B=some (.lst (((nx C x).take j).map fun y=>ovV (N y)))) ⟨none,rfl,Same.upd hB,qd⟩ ?_ ?_ ?_
    ·rintro j σ H' ⟨_,rfl,s5,_⟩
     exact SqL.of (s5 _ _ hps)
    ·rintro j z σ H5 hz ⟨v0,rfl,s5,hb5⟩
     have hj:j<(fitD C x).length:=by have:=(yA hz).1;rw[yC,rps.1] at this;exact this
     obtain⟨p5,ep,hp5⟩:=rps.get hj
     rw[hz] at ep
     cases ep
     obtain⟨t',r,e5,ht5,hr5⟩:=PrAt.mono s5.ts hp5
     have hj':j<(nx C x).length:=by unfold nx;rw[yC];exact hj
     have ey:q1X C x (fitD C x)[j].1 ((fitD C x)[j].2:Int)=(nx C x)[j]:=by simp[nx]
     rw[ey] at hr5
     have hyR:=nf.cl x hxm (nx C x)[j] (zU hj')
     rw[zh hj',zR]
     generalize (nx C x)[j]=y at hr5 hyR
     have hr5:SAt H5 r y:=hr5
     have dg:=q2V (.inl (s5 _ _ d4)) hr5
     rw[qbA nf.nd hyR] at dg
     walk_at "r"
     refine⟨D,_,rfl,dg,?_⟩
     exact⟨_,hb5,by rw[yC,zo];omega,_,rfl,s5.put hB,qd⟩
    ·rintro σ H5 ⟨v0,rfl,s5,hb5⟩
     rw[yC,rps.1,show(fitD C x).length=(nx C x).length by simp[nx],zL] at hb5
     have lnx:(nx C x).length<=56:=by simp only[nx,yC];exact fx
     have hb5':H5 B=some (.lst (((nx C x).map N).map ovV)):=by rw[zP];exact hb5
     have edue:=nf.near.eq x hxm
     unfold dueN at edue
     generalize hvs:(nx C x).map N=vs at hb5' edue
     have lvs:vs.length<=56:=by rw[<-hvs,yC];exact lnx
     have s25:=s24.trans s5
     walk_at "r"
     intro B2 hB2
     refine q0L (vs.map ovV) (fun j σ H'=>∃v0,σ=[v0]/\Same H5 H'/\H' B2=some (.lst (((vs.take j).filterMap id).map V.int))) ⟨none,rfl,Same.upd hB2,qd⟩ ?_ ?_ ?_
     ·rintro j σ H' ⟨_,rfl,s6,_⟩
      exact SqL.of (s6 _ _ hb5')
     ·rintro j z σ H6 hz ⟨v0,rfl,s6,hb6⟩
      have hj:j<vs.length:=by have:=(yA hz).1;rw[yC] at this;exact this
      have ez:z=ovV vs[j]:=by rw[zJ,yB hj] at hz;exact(zH hz).symm
      subst ez
      rw[zh hj,List.filterMap_append]
      cases hv:vs[j] with
      |none=>
       walk_at "r"
       refine⟨_,rfl,s6,?_⟩
       simpa using hb6
      |some m=>
       walk_at "r"
       rw[zi (show(!decide (ovV (some m)=V.non))=true from rfl)]
       walk_at "r"
       refine⟨_,hb6,by rw[yC];have:=List.length_filterMap_le id (vs.take j);rw[zo] at this;omega,_,rfl,s6.put hB2,?_⟩
       rw[qd]
       simp
       rfl
     ·rintro σ H6 ⟨v0,rfl,s6,hb6⟩
      rw[yC,zL] at hb6
      walk_at "r"
      intro e1 he1
      have s7:=Same.upd (o:= .lst []) he1
      have e7:=qd (H:=H6) (a:=e1) (o:= .lst [])
      generalize upd H6 e1 (.lst [])=H7 at s7 e7 ⊢
      have b7:=s7 _ _ hb6
      have s27:=s25.trans (s6.trans s7)
      have c7:=(s2.trans s27) _ _ h0
      have p7:H7 p=some (.tup [.int x.rm,.int x.tk,.int x.op,.int x.b,.int x.wt]):=(s4.trans (s5.trans (s6.trans s7))) _ _ hp3
      refine⟨B2,e1,_,[],rfl,rfl,SqL.of b7,SqL.of e7,q9j _,rfl,?_⟩
      rw[qb4]
      rename_i zz hzz
      have fin:∀o:Option Int,o=(minO vs).map (1+ ·)->zz ⟨D2.nx,D2.rt,D2.bk,D2.ct⟩ [some (.ref c),some (.ref a),some (.ref S),some (.ref D),v4,some (.ref p),some (.ref B),some (.ref B2),some (ovV o)] H7:=by
       intro o eo
       walk_at "r"
       rename_i z2 hz2
       have fin2:∀o:Option Int,o=N x->z2 ⟨D2.nx,D2.rt,D2.bk,D2.ct⟩ [some (.ref c),some (.ref a),some (.ref S),some (.ref D),v4,some (.ref p),some (.ref B),some (.ref B2),some (ovV o)] H7:=by
        intro o eo
        subst eo
        have dg:=q2V (.inl (s27 _ _ d2)) (show SAt H7 p x from p7)
        rw[qbA nf.nd hxm] at dg
        walk_at "r"
        refine⟨D,_,rfl,dg,?_⟩
        walk_at "r"
        refine⟨qca _ _,?_⟩
        rw[ne_ovV,zu rfl]
        walk_at "r"
        exact hn2 _ _ ⟨_,_,_,_,rfl,s27⟩
       clear hz2
       refine ifd (fun g=>?_) (fun g=>?_)
       ·rw [zi g] at edue
        walk_at "r"
        exact fin2 (some 0) edue.symm
       ·rw [zd g] at edue
        walk_at "r"
        exact fin2 o (by rw[eo,edue])
      clear hzz
      by_cases g:vs.filterMap id=[]
      ·rw [zu g]
       walk_at "r"
       exact fin none (by rw[qaM _ g];rfl)
      ·rw [zn g]
       walk_at "r"
       refine⟨B2,_,rfl,SqL.of b7,zbN.mpr g,fun M h1 h2=>?_⟩
       walk_at "r"
       exact fin (some (1+M)) (by rw[qcM _ h1 h2];rfl)
   ·rintro σ' H3 ⟨v5,v6,v7,v8,rfl,s3⟩
    walk_at "r"
    exact k H3 (s2.trans s3)
end
theorem q5u {H:Hp}{D:Addr}{R:List Sd}{N:Sd->Option Int}{i:Nat}{qs:List Addr}(hi:i<R.length)(hlen:R.length<=300)(hqs:H D=some (.lst (qs.map V.ref)))(rqs:Rows SAt H qs (q2n (R.take i) N)):
  qs.length<=300/\((N R[i]).isNone=false->qG SAt H D (q2n (R.take (i+1)) N))/\∀b,(N R[i]).isNone=true->SAt H b R[i]->qG SAt (upd H D (.lst (qs.map V.ref++[.ref b]))) D (q2n (R.take (i+1)) N):=by
 have et:R.take (i+1)=R.take i++[R[i]]:=zh hi
 refine⟨by rw[rqs.1];unfold q2n;refine zaf (zaw _ _) ?_;rw[zo];omega,fun hn=>?_,fun b hn hb=>?_⟩
 ·rw [et]
  unfold q2n
  rw[zat,show [R[i]].filter (fun x=>(N x).isNone)=[] by simp[hn],zM]
  exact⟨qs,hqs,rqs⟩
 ·rw [et]
  unfold q2n
  rw[zat,show [R[i]].filter (fun x=>(N x).isNone)=[R[i]] by simp[hn]]
  exact qM (fun _ _=>SAt.put hqs) rqs hb
theorem deq_sv {K:W.Frag}{H:Hp}{p q:Addr}{x:Sd×Option Int}(hp:SvAt H p x)(hq:SvAt H q x):Deq K H 2 (.ref p) (.ref q) true:=by
 by_cases e:p=q
 ·subst e
  exact .same p
 ·obtain ⟨b,h1,h2⟩:=hp
  obtain⟨d,g1,g2⟩:=hq
  have h:=Deq.tup (K:=K) (n:=1) (e:=fun _=>true) e (SqT.of h1) (SqT.of g1) fun j j1 j2=>by
   have:j<2:=j1
   obtain rfl|rfl:j=0\/j=1:=by omega
   ·have:=q9u (K:=K) h2 g2
    rw[zu rfl] at this
    exact this
   ·have:Deq K H 1 (ovV x.2) (ovV x.2) true:=by
     cases x.2 with
     |none=>exact .flat rfl rfl
     |some n=>
      have e:eqV (ovV (some n)) (ovV (some n))=true:=by simp[ovV,eqV]
      rw[<-e]
      exact .flat rfl rfl
    exact this
  exact h
section
variable {P:Program}{w:World}{K:W.Frag}{mg:Str->Option Value}{base:Heap}{xs:Xs}{cs:Cs}
theorem ok_law {f:Addr}{fd:FuncData}(F:Fun K "law" "law" q8m f fd)(T:Txt mg cs)(TC:Tcl K cs)(TX:Tx K mg xs)(wbE:Laid K mg "_wall" q8n ["k"])(wbg:Laid K mg "within" q3r ["number","least","most"])(wbc:Laid K mg "has_bit" q2G ["bits","place"])(wba:Laid K mg "changed" q2I ["parts","place","part"])(wbe:Laid K mg "gate_of" q2H ["gate"])(wbn:Laid K mg "start" q4S ["cellar"])(wbv:Laid K mg "held" q6S ["cellar","stand"])(waz:Laid K mg "door_kinds" q0O ["cellar"])(wa1:Laid K mg "can_enter" q1r ["way","room"])(wbj:Laid K mg "leads" q3M ["cellar","stand"])(waP:Laid K mg "fit_deeds" q15 ["cellar","stand"])(wa7:Laid K mg "all_goes" q1l ["cellar"])(waR:Laid K mg "all_deeds" q0r ["cellar"])(waM:Laid K mg "walk_from" q1p ["cellar","begin"])(wa0:Laid K mg "counts_to" q1q ["ends","walk"])(wa2:Laid K mg "links_of" q1k ["walk"])(wan:Laid K mg "counts_from" q0U ["begins","links"])(vX:Laid K mg "turned_links" q0H ["links"])(wbo:Laid K mg "nears" q3L ["cellar"])(wam:Laid K mg "shut_stands" q0D ["cellar"])(waj:Laid K mg "near_counts" q0T ["cellar","walk"])(wa9:Laid K mg "ends_of" q23 ["cellar","walk"])(waf:Laid K mg "_law_cell_at" q0J ["_law_script","_law_k"])(waE:Laid K mg "_law_whole" q19 ["_law_found"])(waa:Laid K mg "_law_numbers" q0I ["_law_script","_law_first","_law_total"])(waO:Laid K mg "_law_gate" q1w ["_law_number","_law_base"])(war:Laid K mg "_law_small" q0B ["_law_first","_law_numbers_here","_law_big"])(waS:Laid K mg "_law_line" q1u ["_law_first","_law_numbers_here"])(waY:Laid K mg "_law_cave" q1x ["_law_script"])(waq:Laid K mg "_law_amount" q0W ["_law_cave_here","_law_stand","_law_kind"])(waN:Laid K mg "_law_lets" q1v ["_law_cave_here","_law_stand","_law_k"])(wag:Laid K mg "_law_by_ways" q0K ["_law_cave_here","_law_stand"])(waU:Laid K mg "_law_next" q1t ["_law_cave_here","_law_stand"])(wal:Laid K mg "_law_coming" q0V ["_law_cave_here","_law_stand"])(waV:Laid K mg "_law_told" q1s ["_law_cave_here"])(waC:Laid K mg "_law_right" q0C ["_law_cave_here","_law_rows","_law_stands"])(wao:LaidM K cs.Plain "lets" "Plain.lets" q1a ["self","held","opened","bars","water"])(wbs:LaidM K cs.Plain "told" "Gate.told" qT ["self"])(wbh:LaidI K mg "Plain" cs.Plain "Plain.__init__" q1b ["self"])(waB:LaidM K cs.Door "lets" "Door.lets" q1M ["self","held","opened","bars","water"])(wbx:LaidM K cs.Door "told" "Gate.told" qT ["self"])(wbi:LaidI K mg "Door" cs.Door "Door.__init__" q1N ["self","kind"])(waI:LaidM K cs.Need "lets" "Need.lets" q1J ["self","held","opened","bars","water"])(wbw:LaidM K cs.Need "told" "Gate.told" qT ["self"])(wbq:LaidI K mg "Need" cs.Need "Need.__init__" q1K ["self","kind"])(waZ:LaidM K cs.Bar "lets" "Bar.lets" q2f ["self","held","opened","bars","water"])(wbC:LaidM K cs.Bar "told" "Gate.told" qT ["self"])(wbz:LaidI K mg "Bar" cs.Bar "Bar.__init__" q2g ["self","bar"])(waD:LaidM K cs.Wade "lets" "Wade.lets" q1y ["self","held","opened","bars","water"])(wby:LaidM K cs.Wade "told" "Gate.told" qT ["self"])(wbl:LaidI K mg "Wade" cs.Wade "Wade.__init__" q1z ["self","height","kind"])(wap:LaidM K cs.Float "lets" "Float.lets" q1c ["self","held","opened","bars","water"])(wbt:LaidM K cs.Float "told" "Gate.told" qT ["self"])(wbf:LaidI K mg "Float" cs.Float "Float.__init__" q1d ["self","height"])(wbb:LaidM K cs.Go "can" "Deed.can" q06 ["self","cellar","stand"])(wa5:LaidM K cs.Go "done" "Go.done" q2L ["self","cellar","stand"])(wa4:LaidM K cs.Go "fits" "Go.fits" q2K ["self","cellar","stand"])(wad:LaidM K cs.Go "own_part" "Deed.own_part" qD ["self","cellar"])(wa3:LaidM K cs.Go "told" "Deed.told" qU ["self"])(wbD:LaidI K mg "Go" cs.Go "Go.__init__" q2J ["self","number"])(waW:LaidM K cs.Pull "can" "Deed.can" q06 ["self","cellar","stand"])(waw:LaidM K cs.Pull "done" "Pull.done" q1I ["self","cellar","stand"])(wav:LaidM K cs.Pull "fits" "Pull.fits" q1H ["self","cellar","stand"])(vQ:LaidM K cs.Pull "own_part" "Deed.own_part" qD ["self","cellar"])(wax:LaidM K cs.Pull "told" "Deed.told" qU ["self"])(wbk:LaidI K mg "Pull" cs.Pull "Pull.__init__" q1G ["self","number"])(waT:LaidM K cs.Take "can" "Deed.can" q06 ["self","cellar","stand"])(waH:LaidM K cs.Take "done" "Take.done" q1F ["self","cellar","stand"])(waJ:LaidM K cs.Take "fits" "Take.fits" q1E ["self","cellar","stand"])(vS:LaidM K cs.Take "own_part" "Deed.own_part" qD ["self","cellar"])(waF:LaidM K cs.Take "told" "Deed.told" qU ["self"])(wbr:LaidI K mg "Take" cs.Take "Take.__init__" q1D ["self","number"])(waQ:LaidM K cs.Turn "can" "Deed.can" q06 ["self","cellar","stand"])(wau:LaidM K cs.Turn "done" "Turn.done" q1C ["self","cellar","stand"])(waK:LaidM K cs.Turn "fits" "Turn.fits" q1B ["self","cellar","stand"])(vR:LaidM K cs.Turn "own_part" "Deed.own_part" qD ["self","cellar"])(was:LaidM K cs.Turn "told" "Deed.told" qU ["self"])(wbp:LaidI K mg "Turn" cs.Turn "Turn.__init__" q1A ["self","number"])(wai:LaidM K cs.Unlock "can" "Deed.can" q06 ["self","cellar","stand"])(vY:LaidM K cs.Unlock "done" "Unlock.done" q0Z ["self","cellar","stand"])(wab:LaidM K cs.Unlock "fits" "Unlock.fits" q0Y ["self","cellar","stand"])(vM:LaidM K cs.Unlock "own_part" "Deed.own_part" qD ["self","cellar"])(vW:LaidM K cs.Unlock "told" "Deed.told" qU ["self"])(wbd:LaidI K mg "Unlock" cs.Unlock "Unlock.__init__" q0X ["self","number"])(waA:LaidC K mg "Deed" "__init__" "Deed.__init__" q1O ["self","word","number","part"])(waL:LaidC K mg "Gate" "__init__" "Gate.__init__" q1L ["self","word","numbers"]):FnOk P w K mg base CX0 13 f fd ["_law_script"] (q9Z K):=by
 have wf:Cal P w K mg base 1 "has_bit" ["bits","place"] q6n:=q7F T wbc
 have wR:Cal P w K mg base 1 "within" ["number","least","most"] q4G:=q8N T wbg
 have wI:Cal P w K mg base 1 "can_enter" ["way","room"] q4I:=qaC T wa1
 have wg:Cal P w K mg base 1 "changed" ["parts","place","part"] q6l:=q7H T wba
 have vn:Cal P w K mg base 1 "door_kinds" ["cellar"] spDk:=ok_dk T waz
 have vH:Cal P w K mg base 2 "held" ["cellar","stand"] q6O:=qcA T wbv wf vn
 have wb:CCal P w K mg base 1 "Gate" "__init__" ["self","word","numbers"] (q20 K):=qaA T waL
 have wJ:Makes P w K mg base 2 "Plain" cs.Plain ["self"] (spMk cs "plain"):=qaK T TC wbh wb
 have wO:Makes P w K mg base 2 "Door" cs.Door ["self","kind"] (spMk cs "door"):=qcL T TC wbi wb
 have wP:Makes P w K mg base 2 "Need" cs.Need ["self","kind"] (spMk cs "need"):=qcK T TC wbq wb
 have w8:Makes P w K mg base 2 "Bar" cs.Bar ["self","bar"] (spMk cs "bar"):=mk_bar T TC wbz wb
 have wN:Makes P w K mg base 2 "Wade" cs.Wade ["self","height","kind"] (spMk cs "wade"):=qcG T TC wbl wb
 have wK:Makes P w K mg base 2 "Float" cs.Float ["self","height"] (spMk cs "float"):=qaL T TC wbf wb
 have vL:Cal P w K mg base 4 "gate_of" ["gate"] (qc4 cs):=q7G T wbe wJ wO wP w8 wN wK
 have vl:∀g:Gt,VMeth P w K mg base 2 (q9H cs g) "lets" ["self","held","opened","bars","water"] (q3b cs g.word):=fun g=>by
  cases g
  ·exact q4A T TC wao
  ·exact q5h T TC waB
  ·exact q5g T TC waI
  ·exact q6g T TC waZ wf
  ·exact q5f T TC waD
  ·exact q4B T TC wap
 have wc:CCal P w K mg base 1 "Deed" "__init__" ["self","word","number","part"] (q2y K):=qaD T waA
 have wY:Makes P w K mg base 2 "Go" cs.Go ["self","number"] (q1Z cs .go):=mk_go T TC wbD wc
 have wE:Makes P w K mg base 2 "Pull" cs.Pull ["self","number"] (q1Z cs .pull):=qcJ T TC wbk wc
 have wF:Makes P w K mg base 2 "Take" cs.Take ["self","number"] (q1Z cs .take):=qcI T TC wbr wc
 have wC:Makes P w K mg base 2 "Turn" cs.Turn ["self","number"] (q1Z cs .turn):=qcH T TC wbp wc
 have ww:Makes P w K mg base 2 "Unlock" cs.Unlock ["self","number"] (q1Z cs .unlock):=q8S T TC wbd wc
 have vo:∀d,VMeth P w K mg base 1 (dcls cs d) "own_part" ["self","cellar"] (q4g cs d):=fun d=>by
  have D:=q2w TC d
  cases d
  ·exact q5e wad D
  ·exact q5e vQ D
  ·exact q5e vS D
  ·exact q5e vR D
  ·exact q5e vM D
 have vf:∀d,VMeth P w K mg base 5 (dcls cs d) "fits" ["self","cellar","stand"] (q3F cs d):=fun d=>by
  have D:=q2w TC d
  have v:=vo d
  cases d
  ·exact q7n T D wa4 v wI wf vL vl vH
  ·exact q5k T D wav v
  ·exact q5j T D waJ v wf
  ·exact q5i T D waK v
  ·exact q4c T D wab v wI wf vH
 have vc:∀d,VMeth P w K mg base 6 (dcls cs d) "can" ["self","cellar","stand"] (qc6 cs d):=fun d=>by
  have D:=q2w TC d
  have v:=vf d
  cases d
  ·exact q5o T wbb D wR v
  ·exact q5o T waW D wR v
  ·exact q5o T waT D wR v
  ·exact q5o T waQ D wR v
  ·exact q5o T wai D wR v
 have vd:∀d,VMeth P w K mg base 2 (dcls cs d) "done" ["self","cellar","stand"] (q3G cs d):=fun d=>by
  have D:=q2w TC d
  have v:=vo d
  cases d
  ·exact q7o T D wa5 v wg
  ·exact q5n T D waw v wg
  ·exact q5m T D waH wg
  ·exact q5l T D wau v wg
  ·exact q4d T D vY wg
 have vt:∀d,VMeth P w K mg base 1 (dcls cs d) "told" ["self"] (q6k cs d):=fun d=>by
  have D:=q2w TC d
  cases d
  ·exact q2F wa3 D
  ·exact q2F wax D
  ·exact q2F waF D
  ·exact q2F was D
  ·exact q2F vW D
 have vZ:Cal P w K mg base 1 "start" ["cellar"] q6i:=qas T wbn
 have vI:Cal P w K mg base 4 "all_goes" ["cellar"] (q8e cs):=qcB T wa7 wY
 have vD:Cal P w K mg base 5 "all_deeds" ["cellar"] (q8h cs):=qcE T waR vI wE wF wC ww
 have vw:Cal P w K mg base 7 "fit_deeds" ["cellar","stand"] (q8g cs):=qcC T waP vD vc
 have wac:=qaz T wbj vw vt vd
 have vx:=qar T TX waM wac
 have vJ:=qax (P:=P) (w:=w) (base:=base) T wa2
 have ve:=qaE (P:=P) (w:=w) (base:=base) T wan
 have wZ:=q8O (P:=P) (w:=w) (base:=base) T vX
 have vK:=qcD (P:=P) (w:=w) (base:=base) T wa9
 have vE:=ok_cto T wa0 vJ wZ ve
 have vb:=ok_nc T waj vK vE
 have vj:=qaw T TX wbo vZ vx vb
 have vg:=qau T TX wam vj
 have wA:=qaF (P:=P) (w:=w) (base:=base) T waf
 have w6:=qcx T waa wA
 have vB:=qaB (P:=P) (w:=w) (base:=base) T waO
 have vk:=qat T war vB
 have vC:=qcz (P:=P) (w:=w) (base:=base) T waS
 have waX:=qaG T waY wA w6 vC vk
 have wy:=q8Q (P:=P) (w:=w) (base:=base) T waq
 have vz:=qay T waN wy
 have w4:=ok_byw T wag vz wy
 have wL:=qcy T waU w4
 have vp:=qaq (P:=P) (w:=w) (base:=base) T waE
 have wak:=q8P T wal wL
 have vP:=qcw T TX waV vj vg
 have wat:=qav T waC vp wL
 refine F.ok (k:=12) q3J (fun vs H Q E h=>?_) (fun cdv A outer s H vs Q E hr h=>?_)
 ·obtain ⟨a,ns,rfl,_⟩:=h
  rfl
 ·obtain ⟨a,ns,rfl,hS,hl,k⟩:=h
  have big:=qF
  refine⟨_,(qb (qx (i:=1) q3J.nd rfl (Or.inl rfl) (qH waX hr (by decide) rfl (qa (pv 0) qc)))
   (qb (qx (i:=2) q3J.nd rfl (Or.inl rfl) (qH wak hr (by decide) rfl (qa (pv 1) (qa (qC (qa (qk (qh K) (pv 1) qe (fun _ _=>rfl)) (qa qe (qa qe (qa (qk (qh K) (pv 1) qe (fun _ _=>rfl)) (qa (qk (qh K) (pv 1) qe (fun _ _=>rfl)) qc)))))) qc))))
   (qb (q5S (qH vP hr (by decide) rfl (qa (pv 1) qc)) (q0y (n:=2) K rfl (qw (qp (i:=3) q3J.nd rfl (Or.inl rfl)) (qw (qp (i:=4) q3J.nd rfl (Or.inl rfl)) q0x))))
   (qb (q02 (PW.pt (q2O (q26 (q2Q (pv 2))) (q2O (q26 (q2Q (pv 3))) (q25 (q26 (q2Q (pv 4))))))) (qg (qq (q3R (q8F (q2Q (pv 2))) (q3R (q8F (q2Q (pv 3))) (q2r (q8F (q2Q (pv 4)))))))) qz)
   (qb (q02 (q2q (q0S (qH wat hr (by decide) rfl (qa (pv 1) (qa (pv 3) (qa (pv 2) qc)))))) (qg (qq q2C)) qz)
   (qb (q02 (PW.pt (q2O (q2q (q0S (qy q18 rfl T.wx q0i (qa (pv 4) (qa (q2B (v:= .ty "list") rfl T.vF q49 rfl) qc))))) (q25 (qv (op_neD K 1 (qbG hr)) (pv 4) (q1P (q0G (N:=["_law_stand","_law_near"]) (own:=2) (caps:=[]) ["_law_script","_law_cave_here","_law_stands","_law_rows","_law_shut","_law_kept","_law_told_here"] (qf q8m) (by walk_at "k")) rfl (q09 K (pv 3)) (fun _ _ _ _=>(q0y (n:=2) K rfl (qw (qp (i:=0) (show List.Nodup (["_law_stand","_law_near"]:List Str) by walk_at "k") rfl (Or.inl rfl)) (qw (qp (i:=1) (show List.Nodup (["_law_stand","_law_near"]:List Str) by walk_at "k") rfl (Or.inl rfl)) q0x)))) (fun _ _ _ _=>(q4s (q26 (q2Q (pv 1))))) (fun _ _ _ _=>(pv 0))) (qr _))))) (qg (qq q2C)) qz)
   (qb (q02 (qv q3m (qy (lenK K) rfl T.wm q0g (qa (pv 2) qc)) qe (qr _)) (qg (qq q2C)) qz)
   (qb (qx (i:=5) q3J.nd rfl (Or.inl rfl) (q0j (qbC K) rfl T.vF q49 (qa (pv 3) qc)))
   (qb (qN (qbx zF PySem.F.slot_list_clear PySem.F.type_list_clear qaJ (pv 3)))
   (qb (qN (q2A zF zN zO qS (pv 4) (qa (qC (qa qe (qa qe (qa qe (qa qe (qa qe qc)))))) qc)))
   (qb (qx (i:=6) q3J.nd rfl (Or.inl rfl) (qH vP hr (by decide) rfl (qa (pv 1) qc)))
   (qg (qq (q3R (qR (qbz K 2 (hu7_of hr)) (qk (qh K) (pv 6) qe (fun _ _=>rfl)) (pv 5) (qr _)) (q2r (qR (qbz K 1 (qbG hr)) (qk (qh K) (pv 6) qe (fun _ _=>rfl)) (q1P (q0G (N:=["_law_stand","_law_near"]) (own:=2) (caps:=[]) ["_law_script","_law_cave_here","_law_stands","_law_rows","_law_shut","_law_kept","_law_told_here"] (qf q8m) (by walk_at "k")) rfl (q09 K (pv 5)) (fun _ _ _ _=>(q0y (n:=2) K rfl (qw (qp (i:=0) (show List.Nodup (["_law_stand","_law_near"]:List Str) by walk_at "k") rfl (Or.inl rfl)) (qw (qp (i:=1) (show List.Nodup (["_law_stand","_law_near"]:List Str) by walk_at "k") rfl (Or.inl rfl)) q0x)))) (fun _ _ _ _=>(q4s (q26 (q2Q (pv 1))))) (fun _ _ _ _=>(pv 0))) (qr _))))))))))))))))),?_⟩
  walk_at "r"
  refine⟨a,ns,rfl,hS,hl,fun c C H1 s1 hC1 ok=>?_⟩
  obtain⟨pw,pt,pl,pv',h0,_⟩:=hC1.ex
  walk_at "r"
  intro t ht
  have s2:=Same.upd (o:= .tup [.int C.fst,.int 0,.int 0,.int C.bars,.int C.water]) ht
  have t2:SAt (upd H1 t (.tup [.int C.fst,.int 0,.int 0,.int C.bars,.int C.water])) t (st0 C):=qd
  generalize upd H1 t (.tup [.int C.fst,.int 0,.int 0,.int C.bars,.int C.water])=H2 at s2 t2 ⊢
  have hC2:=hC1.mono s2.ts
  walk_at "r"
  refine⟨c,t,C,rfl,hC2,ok,t2,fun hw H3 s3=>?_,fun S R H3 s3 hS0 hR nd od hmem rl=>?_⟩
  ·walk_at "r"
   refine⟨c,C,rfl,hC2.mono s3.ts,ok,fun _ r H4 s4 hr4=>?_,fun r a' b R N H4 s4 hr4 ha0 hb0 ne na m=>absurd hw na.2.not_wide⟩
   walk_at "r"
   rw[zi (zu rfl)]
   walk_at "r"
   rw[zi (zu rfl)]
   walk_at "r"
   rw[zi (zu rfl)]
   walk_at "r"
   exact k _
  have hC3:=hC2.mono s3.ts
  walk_at "r"
  refine⟨c,C,rfl,hC3,ok,fun hw=>?_,fun r a' b R' N H4 s4 hr4 ha0 hb0 ne na m4=>?_⟩
  ·obtain ⟨row,n1,n2,n3⟩:=hw
   have:=q30 n1 (fun x hx=>(hmem x).mpr (n2 x hx))
   omega
  obtain⟨⟨us,hus,rus⟩,nf⟩:=na
  have eR:R'=R:=q6Z ((zcA nf.nd nd).mpr fun x=>by rw[nf.mem,hmem]) nf.ord od
  subst eR
  have hC4:=hC3.mono s4.ts
  obtain⟨ss,hss,rss⟩:=hR
  replace hss:=s4 _ _ hss
  replace rss:=rss.mono fun _ _=>SAt.mono s4.ts
  walk_at "r"
  rw[zd (by simp)]
  walk_at "r"
  rw[zd (by simp)]
  walk_at "r"
  rw[zd (by simp)]
  walk_at "r"
  refine⟨c,a',S,C,R',N,rfl,hC4,ok,⟨⟨us,hus,rus⟩,nf⟩,⟨ss,hss,rss⟩,fun H5 s5=>?_⟩
  have hus5:=s5 _ _ hus
  have rus5:=rus.mono fun _ _ h=>SvAt.mono s5.ts h
  obtain⟨bs,hbs,rbs⟩:=m4
  have hbs5:=s5 _ _ hbs
  have rbs5:=rbs.mono fun _ _=>SAt.mono s5.ts
  walk_at "r"
  intro D1 hD1
  refine q0L (us.map V.ref) (fun i σ H'=>∃v0 v1,σ=[v0,v1]/\Same H5 H'/\qG SAt H' D1 (q2n (R'.take i) N)) ⟨none,none,rfl,Same.upd hD1,[],qd,Rows.nil⟩ ?_ ?_ ?_
  ·rintro i σ H' ⟨_,_,rfl,s6,_⟩
   exact SqL.of (s6 _ _ hus5)
  ·rintro i z σ H6 hz ⟨v0,v1,rfl,s6,qs,hqs,rqs⟩
   have hi:i<R'.length:=by have:=(yA hz).1;rw[yC,rus.1,yC] at this;exact this
   obtain⟨p,ep,hp⟩:=rus5.get (i:=i) (by rw[yC];exact hi)
   rw[hz] at ep
   cases ep
   rw[zcQ] at hp
   obtain⟨bb,g1,g2⟩:=SvAt.mono s6.ts hp
   obtain⟨ql,no,yes⟩:=q5u hi nf.len hqs rqs
   walk_at "r"
   rw[q6h]
   cases hn:(N R'[i]).isNone with
   |true=>
    walk_at "r"
    exact⟨_,hqs,by rw[yC];omega,_,_,rfl,s6.put hD1,yes bb hn g2⟩
   |false=>exact⟨_,_,rfl,s6,no hn⟩
  rintro σ H6 ⟨v0,v1,rfl,s6,m6⟩
  rw[yC,rus.1,yC,zL] at m6
  refine r_neSs ⟨bs,s6 _ _ hbs5,rbs5.mono fun _ _=>SAt.mono s6.ts⟩ m6 ?_
  rw[zu rfl]
  have hss6:=(s5.trans s6) _ _ hss
  walk_at "r"
  rw[yC,rss.1]
  refine ifd (fun g=>?_) (fun g=>?_)
  ·walk_at "r"
   exact k _
  have s46:=s5.trans s6
  walk_at "r"
  refine⟨a',_,rfl,.inl (SqL.of (s6 _ _ hus5)),fun kp hkp=>?_⟩
  have s7:=Same.upd (o:= .lst (us.map V.ref)) hkp
  have k7:=qd (H:=H6) (a:=kp) (o:= .lst (us.map V.ref))
  generalize upd H6 kp (.lst (us.map V.ref))=H7 at s7 k7 ⊢
  have s47:=s46.trans s7
  have hus7:=s47 _ _ hus
  walk_at "r"
  refine⟨a',_,rfl,rfl,hus7,?_⟩
  have hC7:=hC4.mono s47.ts
  have ts8:=q0p.lst (o:= .lst []) hus7
  have nk:kp≠a':=fun z=>by rw[z,s6 _ _ hus5] at hkp;cases hkp
  have k8:upd H7 a' (.lst []) kp=some (.lst (us.map V.ref)):=by rw[qj nk];exact k7
  have b8:upd H7 a' (.lst []) b=some (.lst (bs.map V.ref)):=by rw[qj ne.symm];exact s47 _ _ hbs
  have S8:Same H3 (upd H7 a' (.lst [])):=(s4.trans s47).put ha0
  generalize upd H7 a' (.lst [])=H8 at ts8 k8 b8 S8 ⊢
  walk_at "r"
  intro z hz
  have s9:=Same.upd (o:= .tup [.int 0,.int 0,.int 0,.int 0,.int 0]) hz
  generalize upd H8 z (.tup [.int 0,.int 0,.int 0,.int 0,.int 0])=H9 at s9 ⊢
  have b9:=s9 _ _ b8
  have lb:bs.length<=300:=by rw[rbs.1];exact zaf (zaw _ _) nf.len
  walk_at "r"
  refine q34 b9 (by rw[yC];omega) ?_
  have ts10:=q0p.lst (o:= .lst (bs.map V.ref++[.ref z])) b9
  have nkb:kp≠b:=fun y=>by rw[y,s6 _ _ hbs5] at hkp;cases hkp
  have k10:upd H9 b (.lst (bs.map V.ref++[.ref z])) kp=some (.lst (us.map V.ref)):=by rw[qj nkb];exact s9 _ _ k8
  have ts710:=(ts8.trans s9.ts).trans ts10
  generalize upd H9 b (.lst (bs.map V.ref++[.ref z]))=H10 at ts10 k10 ts710 ⊢
  have r10:Rows SvAt H10 us (R'.map fun x=>(x,N x)):=rus.mono fun _ _ h=>SvAt.mono (s47.ts.trans ts710) h
  walk_at "r"
  refine⟨c,C,rfl,hC7.mono ts710,ok,fun hw=>absurd hw nf.not_wide,fun r2 a2 b2 R2 N2 H11 s11 hr11 ha20 hb20 ne2 ⟨⟨vs,hvs,rvs⟩,nf2⟩ m11=>?_⟩
  obtain⟨eR2,eN⟩:=nf.uniq nf2
  subst eR2
  have k11:=s11 _ _ k10
  have r11:=r10.mono fun _ _ h=>SvAt.mono s11.ts h
  rw[show(R'.map fun x=>(x,N2 x))=R'.map fun x=>(x,N x) from zab fun x hx=>by rw[eN x hx]] at rvs
  rw[<-q3I eN] at m11
  have lv:vs.length=us.length:=by rw[rvs.1,r11.1]
  walk_at "r"
  refine r_eqDT (SqL.of hvs) (SqL.of k11) (by rw[yC,yC,lv]) (fun j hj=>?_) ?_
  ·rw [yC] at hj
   have hj2:j<us.length:=by omega
   have hj3:j<(R'.map fun x=>(x,N x)).length:=by rw[<-r11.1];exact hj2
   rw[zcB,zcB,zJ,zJ,yB hj,yB hj2]
   exact deq_sv (rvs.2 j _ _ (yB hj) (yB hj3)) (r11.2 j _ _ (yB hj2) (yB hj3))
  walk_at "r"
  intro D1 hD1
  refine q0L (us.map V.ref) (fun i σ H'=>∃v0 v1,σ=[v0,v1]/\Same H11 H'/\qG SAt H' D1 (q2n (R'.take i) N)) ⟨none,none,rfl,Same.upd hD1,[],qd,Rows.nil⟩ ?_ ?_ ?_
  ·rintro i σ H' ⟨_,_,rfl,s12,_⟩
   exact SqL.of (s12 _ _ k11)
  ·rintro i z σ H12 hz ⟨v0,v1,rfl,s12,qs,hqs,rqs⟩
   have hi:i<R'.length:=by have:=(yA hz).1;rw[yC,rus.1,yC] at this;exact this
   obtain⟨p,ep,hp⟩:=r11.get (i:=i) (by rw[yC];exact hi)
   rw[hz] at ep
   cases ep
   rw[zcQ] at hp
   obtain⟨bb,g1,g2⟩:=SvAt.mono s12.ts hp
   obtain⟨ql,no,yes⟩:=q5u hi nf.len hqs rqs
   walk_at "r"
   rw[q6h]
   cases hn:(N R'[i]).isNone with
   |true=>
    walk_at "r"
    exact⟨_,hqs,by rw[yC];omega,_,_,rfl,s12.put hD1,yes bb hn g2⟩
   |false=>exact⟨_,_,rfl,s12,no hn⟩
  rintro σ H12 ⟨v0,v1,rfl,s12,m12⟩
  rw[yC,rus.1,yC,zL] at m12
  obtain⟨ws,h1,h2⟩:=m11
  refine r_eqSs ⟨ws,s12 _ _ h1,h2.mono fun _ _=>SAt.mono s12.ts⟩ m12 ?_
  rw[zu rfl]
  exact k _
end
section
variable {K:W.Frag}{h:Heap}{mg:Str->Option Value}{x m q:Str}{C:Addr}{st:Stmt}{ps:List Str}{ds:List Value}
inductive GA (K:W.Frag)(x:Str)(st:Stmt):Prop
 |mk {f:Addr} {od an:Option Addr} {sl:Array (Option Value)} {oc kV dc pm cd ct:Value}:W.nsIn K mainGlobals x=some (some (.ref f))->K.lookup f=some ⟨oc,od,.func (W.fnOf x x (q0F st) (q0e st) (qf st) .none kV dc pm an cd ct),sl⟩->W.codeIn K cd x=true->W.keepIn K (.ref f)=true->GA K x st
theorem GA.laid (X:K.In h)(G:h.Ns mainGlobals mg)(g:GA K x st)(hb:∀(kV doc pm:Value) (an:Option Addr) (cdv ct:Value) (us:List Value),us.length=ps.length->bindArgs (W.fnOf x x (q0F st) (q0e st) (qf st) .none kV doc pm an cdv ct) ⟨us,[]⟩=pure (ps.zip us)):Laid K mg x st ps:=let ⟨a,l,c,k⟩:=g;qcQ X G a l c k hb
inductive MA (K:W.Frag)(C:Addr)(m q:Str)(st:Stmt):Prop
 |mk {f:Addr} {od an:Option Addr} {sl:Array (Option Value)} {oc kV dc pm cd ct:Value}:W.findIn K (.ref C) m=some (some (.ref f))->W.isFn K (.ref f)=true->K.lookup f=some ⟨oc,od,.func (W.fnOf m q (q0F st) (q0e st) (qf st) .none kV dc pm an cd ct),sl⟩->W.codeIn K cd q=true->W.keepIn K (.ref f)=true->MA K C m q st
theorem MA.laid (g:MA K C m q st)(hb:∀(kV doc pm:Value) (an:Option Addr) (cdv ct:Value) (us:List Value),us.length=ps.length->bindArgs (W.fnOf m q (q0F st) (q0e st) (qf st) .none kV doc pm an cdv ct) ⟨us,[]⟩=pure (ps.zip us)):LaidM K C m q st ps:=let ⟨a,i,l,c,k⟩:=g;⟨_,_,q2T l c k,⟨a,i,k⟩,(q2T l c k).binds hb⟩
inductive IA (K:W.Frag)(C:Addr)(q:Str)(st:Stmt):Prop
 |mk {f:Addr} {od an:Option Addr} {sl:Array (Option Value)} {oc kV dc pm cd ct:Value}:W.makesIn K C=true->W.keepIn K (.ref C)=true->W.findIn K (.ref C) "__init__"=some (some (.ref f))->W.isFn K (.ref f)=true->K.lookup f=some ⟨oc,od,.func (W.fnOf "__init__" q (q0F st) (q0e st) (qf st) .none kV dc pm an cd ct),sl⟩->W.codeIn K cd q=true->W.keepIn K (.ref f)=true->IA K C q st
theorem IA.laid (g:IA K C q st)(hx:mg x=some (.ref C))(hb:∀(kV doc pm:Value) (an:Option Addr) (cdv ct:Value) (us:List Value),us.length=ps.length->bindArgs (W.fnOf "__init__" q (q0F st) (q0e st) (qf st) .none kV doc pm an cdv ct) ⟨us,[]⟩=pure (ps.zip us)):LaidI K mg x C q st ps:=let ⟨z,y,a,i,l,c,k⟩:=g;⟨⟨_,_,q2T l c k,⟨z,a,i,y⟩,(q2T l c k).binds hb⟩,hx⟩
inductive CA (K:W.Frag)(C:Addr)(m q:Str)(st:Stmt):Prop
 |mk {f:Addr} {od an:Option Addr} {sl:Array (Option Value)} {oc kV dc pm cd ct:Value}:W.readsIn K C (.type "type")=true->W.findCls K (.ref C) (.type "type") m=some (.val (.ref f))->W.specialIn K (.ref C) "__getattribute__"=some (some (.builtin "type.__getattribute__"))->K.lookup f=some ⟨oc,od,.func (W.fnOf m q (q0F st) (q0e st) (qf st) .none kV dc pm an cd ct),sl⟩->W.codeIn K cd q=true->W.keepIn K (.ref f)=true->CA K C m q st
theorem CA.laid (g:CA K C m q st)(hx:mg x=some (.ref C))(hb:∀(kV doc pm:Value) (an:Option Addr) (cdv ct:Value) (us:List Value),us.length=ps.length->bindArgs (W.fnOf m q (q0F st) (q0e st) (qf st) .none kV doc pm an cdv ct) ⟨us,[]⟩=pure (ps.zip us)):LaidC K mg x m q st ps:=let ⟨r,y,z,l,c,k⟩:=g;⟨C,_,_,hx,q2T l c k,⟨r,y,z,k⟩,(q2T l c k).binds hb⟩
end
local macro_rules| `(tactic| walk_at "b1")=> `(tactic| exact fun _ _ _ _ _ _=>blS fun _=>bl0 rfl)
local macro_rules| `(tactic| walk_at "b2")=> `(tactic| exact fun _ _ _ _ _ _=>blS fun _=>blS fun _=>bl0 rfl)
local macro_rules| `(tactic| walk_at "b3")=> `(tactic| exact fun _ _ _ _ _ _=>blS fun _=>blS fun _=>blS fun _=>bl0 rfl)
local macro_rules| `(tactic| walk_at "b4")=> `(tactic| exact fun _ _ _ _ _ _=>blS fun _=>blS fun _=>blS fun _=>blS fun _=>bl0 rfl)
local macro_rules| `(tactic| walk_at "b5")=> `(tactic| exact fun _ _ _ _ _ _=>blS fun _=>blS fun _=>blS fun _=>blS fun _=>blS fun _=>bl0 rfl)
theorem all_mk {l:W.OpenLaw}{w:World}{K:W.Frag}{h:Heap}{mg:Str->Option Value}{fa vV wJ wO wP w8 wN wK vU wY wE wF wC ww:Addr}(X:K.In h)(G:h.Ns mainGlobals mg)(hfa:mg "law"=some (.ref fa))
  (T0:TxtR (fun x v=>W.nsIn K mainGlobals x=some (some v)) (fun x=>W.nsIn K mainGlobals x=some none) (Cs.mk vV wJ wO wP w8 wN wK vU wY wE wF wC ww))
  (TC:Tcl K (Cs.mk vV wJ wO wP w8 wN wK vU wY wE wF wC ww))
  {vi vG:Addr}
  (z0:W.nsIn K mainGlobals "NoCellar"=some (some (.ref vi)))
  (z1:W.nsIn K mainGlobals "Wide"=some (some (.ref vG)))
  (z2:W.excIn K vi [.type "ValueError",.type "Exception",.type "BaseException",.type "object"] "ValueError.__new__"=true)
  (z3:W.exmOne K (.ref vi) (.ref vG)=some false)
  (z4:W.excIn K vG [.type "ValueError",.type "Exception",.type "BaseException",.type "object"] "ValueError.__new__"=true)
  (z5:W.exmOne K (.ref vG) (.ref vG)=some true)
  (h1:GA K "_wall" q8n)
  (h2:GA K "within" q3r)
  (h3:GA K "has_bit" q2G)
  (h4:GA K "changed" q2I)
  (h5:GA K "gate_of" q2H)
  (h6:GA K "start" q4S)
  (h7:GA K "held" q6S)
  (h8:GA K "door_kinds" q0O)
  (h9:GA K "can_enter" q1r)
  (h10:GA K "leads" q3M)
  (h11:GA K "fit_deeds" q15)
  (h12:GA K "all_goes" q1l)
  (h13:GA K "all_deeds" q0r)
  (h14:GA K "walk_from" q1p)
  (h15:GA K "counts_to" q1q)
  (h16:GA K "links_of" q1k)
  (h17:GA K "counts_from" q0U)
  (h18:GA K "turned_links" q0H)
  (h19:GA K "nears" q3L)
  (h20:GA K "shut_stands" q0D)
  (h21:GA K "near_counts" q0T)
  (h22:GA K "ends_of" q23)
  (h23:GA K "_law_cell_at" q0J)
  (h24:GA K "_law_whole" q19)
  (h25:GA K "_law_numbers" q0I)
  (h26:GA K "_law_gate" q1w)
  (h27:GA K "_law_small" q0B)
  (h28:GA K "_law_line" q1u)
  (h29:GA K "_law_cave" q1x)
  (h30:GA K "_law_amount" q0W)
  (h31:GA K "_law_lets" q1v)
  (h32:GA K "_law_by_ways" q0K)
  (h33:GA K "_law_next" q1t)
  (h34:GA K "_law_coming" q0V)
  (h35:GA K "_law_told" q1s)
  (h36:GA K "_law_right" q0C)
  (h37:GA K "law" q8m)
  (h38:MA K wJ "lets" "Plain.lets" q1a)
  (h39:MA K wJ "told" "Gate.told" qT)
  (h40:IA K wJ "Plain.__init__" q1b)
  (h41:MA K wO "lets" "Door.lets" q1M)
  (h42:MA K wO "told" "Gate.told" qT)
  (h43:IA K wO "Door.__init__" q1N)
  (h44:MA K wP "lets" "Need.lets" q1J)
  (h45:MA K wP "told" "Gate.told" qT)
  (h46:IA K wP "Need.__init__" q1K)
  (h47:MA K w8 "lets" "Bar.lets" q2f)
  (h48:MA K w8 "told" "Gate.told" qT)
  (h49:IA K w8 "Bar.__init__" q2g)
  (h50:MA K wN "lets" "Wade.lets" q1y)
  (h51:MA K wN "told" "Gate.told" qT)
  (h52:IA K wN "Wade.__init__" q1z)
  (h53:MA K wK "lets" "Float.lets" q1c)
  (h54:MA K wK "told" "Gate.told" qT)
  (h55:IA K wK "Float.__init__" q1d)
  (h56:MA K wY "can" "Deed.can" q06)
  (h57:MA K wY "done" "Go.done" q2L)
  (h58:MA K wY "fits" "Go.fits" q2K)
  (h59:MA K wY "own_part" "Deed.own_part" qD)
  (h60:MA K wY "told" "Deed.told" qU)
  (h61:IA K wY "Go.__init__" q2J)
  (h62:MA K wE "can" "Deed.can" q06)
  (h63:MA K wE "done" "Pull.done" q1I)
  (h64:MA K wE "fits" "Pull.fits" q1H)
  (h65:MA K wE "own_part" "Deed.own_part" qD)
  (h66:MA K wE "told" "Deed.told" qU)
  (h67:IA K wE "Pull.__init__" q1G)
  (h68:MA K wF "can" "Deed.can" q06)
  (h69:MA K wF "done" "Take.done" q1F)
  (h70:MA K wF "fits" "Take.fits" q1E)
  (h71:MA K wF "own_part" "Deed.own_part" qD)
  (h72:MA K wF "told" "Deed.told" qU)
  (h73:IA K wF "Take.__init__" q1D)
  (h74:MA K wC "can" "Deed.can" q06)
  (h75:MA K wC "done" "Turn.done" q1C)
  (h76:MA K wC "fits" "Turn.fits" q1B)
  (h77:MA K wC "own_part" "Deed.own_part" qD)
  (h78:MA K wC "told" "Deed.told" qU)
  (h79:IA K wC "Turn.__init__" q1A)
  (h80:MA K ww "can" "Deed.can" q06)
  (h81:MA K ww "done" "Unlock.done" q0Z)
  (h82:MA K ww "fits" "Unlock.fits" q0Y)
  (h83:MA K ww "own_part" "Deed.own_part" qD)
  (h84:MA K ww "told" "Deed.told" qU)
  (h85:IA K ww "Unlock.__init__" q0X)
  (h86:CA K vU "__init__" "Deed.__init__" q1O)
  (h87:CA K vV "__init__" "Gate.__init__" q1L):
  ∃fd:FuncData,(∀(s:Shared) (v:Value),BindsTo s fd ⟨[v],[]⟩ [("_law_script",v)])/\∀base:Heap,K.In base->base.Ns mainGlobals mg->FnOk l.prog w K mg base CX0 13 fa fd ["_law_script"] (q9Z K):=by
 obtain⟨al,ll,cl,kl⟩:=h37
 have e:=hfa.symm.trans (W.mg_of X G al)
 cases e
 have T:Txt mg (Cs.mk vV wJ wO wP w8 wN wK vU wY wE wF wC ww):=T0.up (fun _ _ z=>W.mg_of X G z) fun _ z=>W.mg_none_of X G z
 have TX:Tx K mg (Xs.mk vi vG):=⟨W.mg_of X G z0,W.mg_of X G z1,⟨_,_,_,zcC,z2,rfl⟩,z3,⟨_,_,_,zcC,z4,rfl⟩,z5⟩
 exact⟨_,fun s v=> .of_eq rfl,fun base _ _=>ok_law (q2T ll cl kl) T TC TX (h1.laid X G (by walk_at "b1")) (h2.laid X G (by walk_at "b3")) (h3.laid X G (by walk_at "b2")) (h4.laid X G (by walk_at "b3")) (h5.laid X G (by walk_at "b1")) (h6.laid X G (by walk_at "b1")) (h7.laid X G (by walk_at "b2")) (h8.laid X G (by walk_at "b1")) (h9.laid X G (by walk_at "b2")) (h10.laid X G (by walk_at "b2")) (h11.laid X G (by walk_at "b2")) (h12.laid X G (by walk_at "b1")) (h13.laid X G (by walk_at "b1")) (h14.laid X G (by walk_at "b2")) (h15.laid X G (by walk_at "b2")) (h16.laid X G (by walk_at "b1")) (h17.laid X G (by walk_at "b2")) (h18.laid X G (by walk_at "b1")) (h19.laid X G (by walk_at "b1")) (h20.laid X G (by walk_at "b1")) (h21.laid X G (by walk_at "b2")) (h22.laid X G (by walk_at "b2")) (h23.laid X G (by walk_at "b2")) (h24.laid X G (by walk_at "b1")) (h25.laid X G (by walk_at "b3")) (h26.laid X G (by walk_at "b2")) (h27.laid X G (by walk_at "b3")) (h28.laid X G (by walk_at "b2")) (h29.laid X G (by walk_at "b1")) (h30.laid X G (by walk_at "b3")) (h31.laid X G (by walk_at "b3")) (h32.laid X G (by walk_at "b2")) (h33.laid X G (by walk_at "b2")) (h34.laid X G (by walk_at "b2")) (h35.laid X G (by walk_at "b1")) (h36.laid X G (by walk_at "b3")) (h38.laid (by walk_at "b5")) (h39.laid (by walk_at "b1")) (h40.laid T.c_Plain (by walk_at "b1")) (h41.laid (by walk_at "b5")) (h42.laid (by walk_at "b1")) (h43.laid T.c_Door (by walk_at "b2")) (h44.laid (by walk_at "b5")) (h45.laid (by walk_at "b1")) (h46.laid T.c_Need (by walk_at "b2")) (h47.laid (by walk_at "b5")) (h48.laid (by walk_at "b1")) (h49.laid T.c_Bar (by walk_at "b2")) (h50.laid (by walk_at "b5")) (h51.laid (by walk_at "b1")) (h52.laid T.c_Wade (by walk_at "b3")) (h53.laid (by walk_at "b5")) (h54.laid (by walk_at "b1")) (h55.laid T.c_Float (by walk_at "b2")) (h56.laid (by walk_at "b3")) (h57.laid (by walk_at "b3")) (h58.laid (by walk_at "b3")) (h59.laid (by walk_at "b2")) (h60.laid (by walk_at "b1")) (h61.laid T.c_Go (by walk_at "b2")) (h62.laid (by walk_at "b3")) (h63.laid (by walk_at "b3")) (h64.laid (by walk_at "b3")) (h65.laid (by walk_at "b2")) (h66.laid (by walk_at "b1")) (h67.laid T.c_Pull (by walk_at "b2")) (h68.laid (by walk_at "b3")) (h69.laid (by walk_at "b3")) (h70.laid (by walk_at "b3")) (h71.laid (by walk_at "b2")) (h72.laid (by walk_at "b1")) (h73.laid T.c_Take (by walk_at "b2")) (h74.laid (by walk_at "b3")) (h75.laid (by walk_at "b3")) (h76.laid (by walk_at "b3")) (h77.laid (by walk_at "b2")) (h78.laid (by walk_at "b1")) (h79.laid T.c_Turn (by walk_at "b2")) (h80.laid (by walk_at "b3")) (h81.laid (by walk_at "b3")) (h82.laid (by walk_at "b3")) (h83.laid (by walk_at "b2")) (h84.laid (by walk_at "b1")) (h85.laid T.c_Unlock (by walk_at "b2")) (h86.laid T.c_Deed (by walk_at "b4")) (h87.laid T.c_Gate (by walk_at "b3"))⟩
theorem walk {l:W.OpenLaw}{q:Program}{loose:List Str}{XP:(Str->Option Value)->Heap->Prop}{YP:World->Heap->Prop}{d:DefRec}{K:Params->W.Frag}(hn:l.most=some 63)(hdf:d.params.defaults=[])
  (hY:∀(w:World) (h:Heap),YP w h->(K w.params).In h)
  (F:∀(w:World) (mg:Str->Option Value) (fa:Addr) (h:Heap),(K w.params).In h->h.Ns mainGlobals mg->mg d.name=some (.ref fa)->
   ∃fd:FuncData,(∀(s:Shared) (u:Value),BindsTo s fd ⟨[u],[]⟩ [("_law_script",u)])/\∀base:Heap,(K w.params).In base->base.Ns mainGlobals mg->FnOk l.prog w (K w.params) mg base CX0 13 fa fd ["_law_script"] (q9Z (K w.params))):
  W.WalkO q loose XP YP l.row.toRowW d [] (fun f vs=>PySem.call f vs):=
 L2.qbT (n:=63) (k:=13) (x:="_law_script") (CX:=fun _=>CX0) (sp:=fun w=>q9Z (K w.params)) hn (by decide) hdf ⟨rfl,by decide,by decide,rfl⟩ hY F (fun _ _ a ns hl _ hS=>⟨a,ns,rfl,hS,hl,fun _=>rfl⟩) fun _ _ _ _ _ z=>z
end Mine
open PySem PySem.W PyProof.Rows
set_option maxRecDepth 100000 in
set_option maxHeartbeats 0 in
theorem PySem.Challenge.cw_delve_k31_near_numbers_holds : PySem.Challenge.rw_delve_k31_near_numbers.Holds := by
 w_on;o_law;k_head;(case hw=>w_witness2)
 k_fill
 refine Mine.walk (l:=PySem.Challenge.rw_delve_k31_near_numbers) rfl rfl (fun w h Y=>PySem.W.kIn_of Y) ?F
 case F=>
  intro w mg fa h KX G hmg
  refine' Mine.all_mk KX G hmg ?T ?C ?z0 ?z1 ?z2 ?z3 ?z4 ?z5 ?_ ?_ ?_ ?_ ?_ ?_ ?_ ?_ ?_ ?_ ?_ ?_ ?_ ?_ ?_ ?_ ?_ ?_ ?_ ?_ ?_ ?_ ?_ ?_ ?_ ?_ ?_ ?_ ?_ ?_ ?_ ?_ ?_ ?_ ?_ ?_ ?_ ?_ ?_ ?_ ?_ ?_ ?_ ?_ ?_ ?_ ?_ ?_ ?_ ?_ ?_ ?_ ?_ ?_ ?_ ?_ ?_ ?_ ?_ ?_ ?_ ?_ ?_ ?_ ?_ ?_ ?_ ?_ ?_ ?_ ?_ ?_ ?_ ?_ ?_ ?_ ?_ ?_ ?_ ?_ ?_ ?_ ?_ ?_ ?_ ?_ ?_
  (case z0=>k_is)
  (case z1=>k_is)
  (case z2=>k_exc)
  (case z3=>kts_exm)
  (case z4=>k_exc)
  (case z5=>kts_exm)
  case T=>constructor<;>(try dsimp only)<;>first|k_is|exact⟨_,by k_is⟩
  case C=>constructor<;>(try dsimp only)<;>first|exact⟨by k_is,by k_is,by k_is,by k_is⟩|(unfold L2.qE;k_is)
  all_goals try dsimp only
  all_goals first|exact Mine.GA.mk (by k_is) (by k_is) (by k_is) (by k_is)|exact Mine.MA.mk (by k_is) (by k_is) (by k_is) (by k_is) (by k_is)|exact Mine.IA.mk (by k_is) (by k_is) (by k_is) (by k_is) (by k_is) (by k_is) (by k_is)|exact Mine.CA.mk (by k_is) (by k_is) (by k_is) (by k_is) (by k_is) (by k_is)|exact Mine.DA.mk (by k_is) (by k_is) (by k_is) (by k_is) (by k_is)|exact⟨_,Mine.DA.mk (by k_is) (by k_is) (by k_is) (by k_is) (by k_is)⟩|exact⟨_,_,Mine.DA.mk (by k_is) (by k_is) (by k_is) (by k_is) (by k_is)⟩
