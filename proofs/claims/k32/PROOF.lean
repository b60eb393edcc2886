import PyProof.Rows.All
import Wide.All
import OpenK.AllK
import Wide.FinOn
import Lean
import PyProof.EqAt
import PyProof.EqKinds
import PyProof.TupleCall
import PyProof.NeKinds
import KE.KDictSum
import KE.KDictList
import PyProof.DictTruth
import PySem.Challenge.RW_delve_k32_papers_let_by
section
open PySem PySem.Spec PyProof.Rows PySem.W
def zc:=@Nat.le_refl
def zd:=@if_neg
def ze:=@decide_eq_true
def zf:=@decide_eq_false
def zg:=@wpAny_pure
def zh:=@Int.toNat_natCast
def zi:=@wpS_bind
def zj:=@if_pos
def zk:=@List.length_append
def zl:=@List.length_take
def zm:=@wpS_pure
def zn:=@List.take_succ_eq_append_getElem
def zo:=@Heap.get?_push_of_some
def zp:=@Bool.false_ne_true
def zq:=@List.append_assoc
def zr:=@List.mem_append
def zt:=@Heap.lt_size
def zu:=@List.mem_singleton
def zv:=@List.map_append
def zw:=@List.size_toArray
def zx:=@List.getElem_mem
def zy:=@List.take_append_drop
def zA:=@List.pairwise_append
def zB:=@Nat.ne_of_lt
def zC:=@Heap.get?_push_size
def zD:=@Option.some.inj
def zE:=@Array.length_toList
def zF:=@List.getElem?_append_right
def zG:=@List.take_length
def zH:=@List.append_nil
def zI:=@List.getElem?_append_left
def zJ:=@Array.toList_append
def zK:=@Nat.lt_of_lt_of_le
def zL:=@KeyOrd.kle_trans
def zM:=@congrArg
def zN:=@List.mem_map
def zO:=@PySem.F.plainAttrs_list
def zP:=@List.take_sublist
def zQ:=@PySem.F.slot_list_append
def zR:=@PySem.F.type_list_append
def zS:=@List.length_drop
def zT:=@List.getElem?_map
def zU:=@List.mem_cons
def zX:=@List.mem_cons_of_mem
def zY:=@Bool.eq_iff_iff
def zZ:=@KeyOrd.kle_of_klt
def z8:=@List.map_cons
def z9:=@List.mem_append_right
def zaa:=@List.Perm.append_left
def zab:=@Nat.le_trans
def zac:=@Array.toList_push
def zad:=@List.mem_of_mem_take
def zae:=@List.map_map
def zaf:=@List.length_cons
def zag:=@List.mem_reverse
def zah:=@List.drop_sublist
def zai:=@PyProof.Rows.slot_tuple_getitem
def zaj:=@List.map_congr_left
def zak:=@wpAny_mono
def zal:=@wpAny_newObj_type
def zam:=@List.perm_append_comm
def zan:=@Nat.zero_le
def zao:=@PySem.W.kia_one
def zap:=@wpAny_callSpecial?_slot
def zaq:=@List.lookup_cons
def zar:=@List.mem_of_mem_drop
def zas:=@Int.zero_add
def zat:=@wpS_forRange
def zau:=@List.nodup_append
def zav:=@List.all_eq_true
def zaw:=@wpS_mono
def zax:=@List.filter_append
def zay:=@Bool.true_and
def zaz:=@Bool.false_and
def zaA:=@F.slot_dict_keyiterator_next
def zaB:=@Option.isSome_map
def zaC:=@PyProof.Rows.callWith_type1
def zaD:=@KeyOrd.kle_refl
def zaE:=@PySem.mem_of_lookup
def zaF:=@Int.one_mul
def zaG:=@List.drop_eq_nil_of_le
def zaH:=@wpAny_call_entry
def zaI:=@List.length_filter_le
def zaJ:=@List.extract_eq_take_drop
def zaK:=@Option.isSome_iff_exists
def zaL:=@Nat.min_eq_left
def zaM:=@wpAny_truthy_bool
def zaN:=@of_decide_eq_true
def zaO:=@wpAny_typeNameOfWhole_keyiter
def zaP:=@List.getElem_of_mem
def zaQ:=@List.take_of_length_le
def zaR:=@Option.map_eq_some_iff
def zaS:=@wpS_modify
def zaT:=@of_decide_eq_false
def zaU:=@wpAny_passesOwn
def zaV:=@Array.getElem?_toList
def zaW:=@Nat.lt_irrefl
def zaX:=@wpAny_holding
def zaY:=@F.slot_tuple_iterator_next
def zaZ:=@Bool.eq_false_iff
def za0:=@List.mem_append_left
def za1:=@wpAny_rule
def za3:=@Array.toList_extract
def za4:=@wpAny_typeNameOf_keyiter
def za5:=@KeyOrd.klt_of_kle_of_klt
def za6:=@Bool.not_eq_true
def za7:=@List.replicate_succ
def za8:=@Heap.SameBut.update
def za9:=@List.length_pos_iff
def zba:=@List.length_eq_zero_iff
def zbb:=@List.mem_filter
def zbc:=@List.mem_cons_self
def zbd:=@wpAny_pyIter_tuple
def zbe:=@wpAny_Call_Name_kw
def zbf:=@List.map_id
def zbg:=@List.flatten_cons
def zbh:=@Nat.lt_succ_of_lt
def zbi:=@List.ext_getElem?
def zbj:=@Nat.lt_of_succ_lt
def zbk:=@Heap.size_push
def zbl:=@Array.getD_eq_getD_getElem?
def zbm:=@Nat.lt_succ_self
def zbn:=@List.mem_of_getElem?
def zbo:=@List.mem_iff_getElem
def zbp:=@Array.toList_reverse
def zbq:=@Nat.le_succ
def zbr:=@wpAny_field
def zbs:=@wpS_get
def zbt:=@List.nodup_cons
def zbu:=@Array.getElem?_eq_getElem
def zbv:=@List.drop_eq_getElem_cons
def zbw:=@PySem.W.callWith_K
def zbx:=@PySem.F.args_tuple_add_2
def zby:=@Obj.data_mapFields
def zbz:=@Int.add_zero
def zbA:=@List.mem_range
def zbB:=@PySem.F.entry_tuple_add
def zbC:=@wpAny_pyIter_enum
def zbD:=@wpAny_dictEntries
def zbE:=@List.reverse_perm
def zbF:=@List.pairwise_map
def zbG:=@PySem.F.slot_tuple_add
def zbH:=@Calls.callWith_builtin
def zbI:=@Bool.and_eq_true
def zbJ:=@List.getElem_map
def zbK:=@List.length_replicate
def zbL:=@Heap.get?_update_self
def zbM:=@PySem.W.methodCall_KW
def zbN:=@wpAny_isOneOf_keyiter
def zbO:=@PySem.F.slot_dict_get
def zbP:=@Nat.le_of_lt
def zbQ:=@wpAny_execs_nil
def zbR:=@List.nil_append
def zbS:=@wpAny_loadPart'
def zbT:=@Int.natCast_pow
def zbU:=@F.args_dict_keyiterator_next_1
def zbV:=@List.Perm.of_eq
def zbW:=@Nat.zero_add
def zbX:=@F.entry_dict_keyiterator_next
def zbY:=@List.drop_append_of_le_length
def zbZ:=@PySem.W.plainGet_of
def zb0:=@F.args_tuple_iterator_next_1
def zb1:=@wpAny_setField
def zb2:=@wpAny_fieldsOf
def zb4:=@wpS_lift
def zb5:=@List.take_take
def zb6:=@List.dropLast_concat_getLast
def zb7:=@List.not_lt
def zb8:=@Calls.spliced_cons
def zb9:=@Nat.lt_of_le_of_lt
def zca:=@F.entry_tuple_iterator_next
def zcb:=@List.getElem?_drop
def zcc:=@SeqAt.EqAt.of_refs
def zcd:=@List.getElem?_take
def zce:=@Calls.Name_function_global
def zcf:=@Int.fdiv_eq_ediv_of_nonneg
def zcg:=@wpAny_letOwnedTupleGo_enum
def zch:=@List.any_cons
def zci:=@Bool.false_or
def zcj:=@Array.toList_setIfInBounds
def zck:=@wpAny_pyIter_list
def zcl:=@Int.emod_eq_of_lt
def zcm:=@Nat.le_of_lt_succ
def zcn:=@List.getElem_drop
def zco:=@PyProof.Rows.bitAnd_range
def zcp:=@Calls.call_function_entry
def zcq:=@List.pairwise_iff_getElem
def zcr:=@List.mem_of_find?_eq_some
def zcs:=@codeAny_mono
def zct:=@List.map_nil
def zcu:=@List.any_map
def zcv:=@Nat.add_zero
def zcw:=@List.of_mem_zip
def zcx:=@List.foldl_cons
def zcy:=@List.length_nil
def zcz:=@wpAny_dictEpoch
def zcA:=@List.take_left'
def zcB:=@Nat.not_lt_zero
def zcC:=@List.any_append
def zcD:=@List.Perm.refl
def zcE:=@Bool.and_false
end
universe u v
theorem yA{α:Type u}{l:List α}{i:Nat}{a:α}(h:l[i]?=some a):∃h:i<l.length,l[i]=a:=List.getElem?_eq_some_iff.mp h
theorem yB{α:Type u}{l:List α}{i:Nat}(h:i<l.length):l[i]?=some l[i]:=List.getElem?_eq_getElem h
theorem yC{α:Type u}{β:Type v}{l:List α}(f:α->β):(l.map f).length=l.length:=List.length_map f
def yD:=@PySem.wpAny_bind
local macro_rules| `(tactic| walk_at "k")=> `(tactic| decide +kernel)
namespace PySem.W.Fast
def tw4542941468049732325:=0
def tw5622088034138582835:=0
def tw9758761067101106678:=0
def tw5499182470074337594:=0
def tw3020348033765718620:=0
def tw3081878115652877077:=0
def tw17036975775180598334:=0
def tw13051885736565114041:=0
def tw3285163398799679372:=0
def tw10393924087609792487:=0
def tw15434859316123593142:=0
def tw3464008656020621506:=0
def tw16839735820967678411:=0
def tw11956828288076027136:=0
def tw13946250420677926493:=0
def tw8820117196480040339:=0
def tw6327785095454706749:=0
def tw4038470443064321253:=0
def tw17089715047103932579:=0
def tw11952499627471060658:=0
def tw2138994921909632655:=0
def tw952341796515381140:=0
def tw2669499997494565286:=0
def tw4301231935695029016:=0
def tw8062467901549837147:=0
def tw11263973641192944613:=0
def tw12131405267029686217:=0
def tw6248811476318985470:=0
def tw2986147365393987091:=0
def tw415397488209487803:=0
def tw3355089321396231763:=0
def tw8486979505902522641:=0
def tw6481855357745802962:=0
def tw3045872774161649920:=0
def tw18119261930768813299:=0
def tw1680198929842162724:=0
def tw7314755168902566047:=0
def tw7000300192797917807:=0
def tw12792220752387975908:=0
def tw9132963792622422889:=0
def tw17589289331331894694:=0
def tw3916360674275596432:=0
def tw9944326012129751103:=0
def tw7991827076051215640:=0
def tw31844217344779494:=0
def tw9247204836648594445:=0
def tw10110991339354329266:=0
def tw10414407796269647127:=0
def tw18395976249428492000:=0
def tw6805179103317630732:=0
def tw8286451838874628465:=0
def tw4966156816470526272:=0
def tw17933107679616442971:=0
def tw18341771692827487902:=0
def tw11409783798561200018:=0
def tw14692657554421123680:=0
def tw4865807659310056878:=0
def tw8631869793583227239:=0
def tw3881049913074653040:=0
def tw2797569262451635579:=0
def tw3432579463133221004:=0
def tw2125929289900459616:=0
def tw1929627423883909407:=0
def tw6918930957511234647:=0
def tw10546436339685129447:=0
def tw9017971112996937501:=0
def tw16344139740880665575:=0
def tw16914106999841299962:=0
def tw15039164416291597476:=0
def tw13616818984729317720:=0
def tw4601046614133071868:=0
def tw14627212819184315120:=0
def tw5469478209504198668:=0
def tw12706239645643031544:=0
def tw1644723997512077736:=0
def tw5277546903543203573:=0
def tw16846835137649499970:=0
def tw15279982162436189997:=0
def tw6045392692415189137:=0
def tw11169055072321947101:=0
def tw13294178671730663449:=0
def tw15120709215541692350:=0
def tw14092903371016436702:=0
def tw15926901906502526534:=0
def tw2998171846243380759:=0
def tw3542113118884454133:=0
def tw12309108728344078741:=0
def tw14930556997149620705:=0
def tw18138622142216420074:=0
def tw6685486636113655114:=0
def tw10433385432794941191:=0
def tw337863999913656751:=0
def tw7466615930104558792:=0
def tw10053598298540052212:=0
def tw5206913255441072452:=0
def tw9002471029296587140:=0
def tw11565861943363509065:=0
def tw1181887838117632198:=0
def tw11716866754006843857:=0
def tw9698877507329842360:=0
def tw4128821177130591428:=0
def tw8609147262609838642:=0
def tw16291274938738970092:=0
def tw8443402305326450500:=0
def tw5847127648021872748:=0
def tw6348467760082447292:=0
def tw10224026497724325991:=0
def tw9903264448389750981:=0
def tw16359734404488462546:=0
def tw11449101794459795040:=0
def tw9036819293387561816:=0
def tw8130845283283301721:=0
def tw14095151039367488161:=0
def tw11776245032750479380:=0
def tw12096594347307518752:=0
def tw11547225689868762052:=0
def tw2893994752023131643:=0
def tw3491096748524099086:=0
def tw5609545266857168395:=0
def tw16796721266230056164:=0
def tw15430537488056086779:=0
def tw11236886439989831047:=0
def tw5643962259119039959:=0
def tw4015529950513629262:=0
def tw15627484746914686491:=0
def tw15383835380067010919:=0
def tw7042461775456053142:=0
def tw4080945993399613911:=0
def tw13447052919250278226:=0
def tw18389478067636625426:=0
def tw11894331683876621589:=0
def tw17409033652208643276:=0
def tw12906325638511543386:=0
def tw17123649578782880209:=0
def tw10581195559417334887:=0
def tw286269364843588649:=0
def tw5375648910613916262:=0
def tw63972045296086960:=0
def tw11939007408217509830:=0
def tw15266938094936776635:=0
def tw2596179854491522700:=0
def tw4229390284641496946:=0
def tw1452187884607800033:=0
def tw12945870262926191965:=0
def tw5216470370571801527:=0
def tw17783279835124689951:=0
def tw16273333535909939326:=0
def tw5096146362062359776:=0
def tw13480555037806669726:=0
def tw7551245026304842858:=0
def tw16496889883326988272:=0
def tw14444989369425388664:=0
def tw3580010082878798082:=0
def tw13803336793019045047:=0
def tw4319573540649702701:=0
def tw1862346498000015652:=0
def tw17218797390575318274:=0
def tw10293694714492385391:=0
def tw3169632298701327770:=0
def tw13673293103197267953:=0
def tw2526085486834956234:=0
def tw5791173129885092689:=0
def tw1410848918302704060:=0
def tw703102803681799573:=0
def tw842776337980789110:=0
def tw2112528740457622028:=0
def tw8198122306249679876:=0
def tw9480725146083662170:=0
def tw7451051357467608807:=0
def tw8126303015001453088:=0
def tw4007379856190548578:=0
def tw9514557462322418514:=0
def tw10277982780299356656:=0
def tw16868432222030214675:=0
def tw7522029042615253326:=0
def tw15272361548106769906:=0
def tw17973932549258144134:=0
def tw16471025539188736763:=0
def tw4113661131599208723:=0
def tw18092925915843815146:=0
def tw12849898243967166983:=0
def tw2159083586903639363:=0
def tw5111169173403551598:=0
def tw11593315838790832199:=0
def tw11154150866266069161:=0
def tw15289541785914048303:=0
def tw14798747137921008525:=0
def tw2719640106438653095:=0
def tw6317547271392026394:=0
def tw1983131226971868923:=0
def tw3660178774127494523:=0
def tw16436890813535465342:=0
def tw12974452969940520497:=0
def tw13645643405950126696:=0
def tw15716112631267595844:=0
def tw8804436107333852997:=0
def tw11511420201366342454:=0
def tw1897693256368464673:=0
def tw3790978641126524080:=0
def tw9310679376924317253:=0
def tw1150195826971978454:=0
def tw2185555574949666132:=0
def tw13513108291666873191:=0
def tw1197175923327477775:=0
def tw14743816839154630122:=0
def tw12182227910692978551:=0
def tw10218646785679164399:=0
def tw17977456261356534371:=0
def tw3919522340177744370:=0
def tw15657890615435407371:=0
def tw16123940176968272316:=0
def tw2382386970007717995:=0
def tw8133046929522242650:=0
def tw17532937195383443811:=0
def tw11107826674080951985:=0
def tw2743541846179273470:=0
def tw12548387684689893154:=0
def tw1847245839061543661:=0
def tw4728186145076184017:=0
def tw15338712115600776908:=0
def tw6381868476744617174:=0
def tw15821635851098890707:=0
def tw3686421534528703269:=0
def tw1545937004315473555:=0
def tw8057093087363141033:=0
def tw11609700978095191538:=0
def tw1989763211772215337:=0
def tw16645581455865005339:=0
def tw12867529893389805505:=0
def tw8746709334642777308:=0
def tw17312072887925515843:=0
def tw15679226831524447470:=0
def tw3745209195167339435:=0
def tw4476053905245501271:=0
def tw14101425921307973805:=0
def tw14355411360085420817:=0
def tw1597054525139321253:=0
def tw3421968000975358561:=0
def tw7389417145652209569:=0
def tw5676619452622017340:=0
def tw982076496691683424:=0
def tw9008114036120146170:=0
def tw4458812022768520911:=0
def tw10963170989437319439:=0
def tw775205784418605634:=0
def tw5598594684213746657:=0
def tw2085095151504979776:=0
def tw875755683233335587:=0
def tw5727120897298121199:=0
def tw14177576744541984994:=0
def tw7961216528611802182:=0
def tw6929406911622608511:=0
def tw6169976630475693221:=0
def tw8734532445350519751:=0
def tw16914502138372418250:=0
def tw15274978852275710977:=0
def tw6246627980599912063:=0
def tw8659918452289723256:=0
def tw16163621715776241685:=0
def tw10597680823248247224:=0
def tw15052519290272686716:=0
def tw12949936092467159846:=0
def tw7003718266544162810:=0
def tw9255221285195261341:=0
def tw12839713704918566317:=0
def tw3736318757170009759:=0
def tw6697082953991409810:=0
def tw7351495299006732512:=0
def tw1048900890974978620:=0
def tw861288293965988408:=0
def tw15659777144983109918:=0
def tw6315440616767850587:=0
def tw6909121305798526166:=0
def tw14523170830667299005:=0
def tw434027456192616580:=0
def tw6738045286390997433:=0
def tw1259432912713029116:=0
def tw15346106589900213175:=0
def tw17651265836519149119:=0
def tw15684329708302484479:=0
def tw10888480944964829258:=0
def tw9529045399910037615:=0
def tw7394021548490544860:=0
def tw6805165838044542872:=0
def tw9773280251173993329:=0
def tw2966900725007190086:=0
def tw4540490569870059684:=0
def tw8117405767370820913:=0
def tw8718368343717365478:=0
def tw11041246474810325275:=0
def tw7138431364883334245:=0
def tw17573239025751645240:=0
def tw6000829860739808192:=0
def tw2669500717856804068:=0
def tw16532155624791530397:=0
def tw11702873622199406258:=0
def tw7352201785963372227:=0
def tw1528187599230783176:=0
def tw11990218456757365126:=0
def tw9234330422140247728:=0
def tw8173549555150384145:=0
def tw7665400964414368125:=0
def tw558736144900080492:=0
def tw2228961066206943649:=0
def tw3201473276756720139:=0
def tw12177395221679490105:=0
def tw6669249141246402855:=0
def tw10558068715379343175:=0
def tw17486949087116790904:=0
def tw6666584717414535988:=0
def tw9318232735606002983:=0
def tw6490407704002857350:=0
def tw6119777799529792112:=0
def tw14469005142349538438:=0
def tw542541081160924515:=0
def tw14972425481326731418:=0
def tw10149095577188994504:=0
def tw5876704814223000876:=0
def tw17533041458242782295:=0
def tw15631352937357118026:=0
def tw12991142873329189642:=0
def tw5077111709979028469:=0
def tw9784684828060676495:=0
def tw15849048118220447338:=0
def tw644192749868618910:=0
def tw17722541018661116343:=0
def tw8880752137356273998:=0
def tw10598188025644096540:=0
def tw3047937165144236575:=0
def tw5214889376079962237:=0
def tw6350907889028348305:=0
def tw5700258437289008356:=0
def tw5909566737072464005:=0
def tw2896336734235888272:=0
def tw6251303654285631605:=0
def tw618754942920402695:=0
def tw12479684434749237998:=0
def tw5013063479763416359:=0
def tw15283980661784031894:=0
def tw11092386420201858732:=0
def tw8218363362899571970:=0
def tw15113970378394859935:=0
def tw7822464732857961720:=0
def tw8684549603959320809:=0
def tw2896492006014653629:=0
def tw11955644599801678607:=0
def tw6445312982529125451:=0
def tw7939582305299383693:=0
def tw5202854244286607638:=0
def tw3757674126101358141:=0
def tw6567931033453861855:=0
def tw13467031354898148897:=0
def tw15706182181626847138:=0
def tw6200434656885030751:=0
def tw8537240505728909382:=0
def tw31039859795854307:=0
def tw12543233417503214701:=0
def tw11982898683771754500:=0
def tw11086632764753657710:=0
def tw3606962802016526872:=0
def tw174635653126129150:=0
def tw16731825591270132559:=0
def tw10275589799135065004:=0
def tw8834904386696132510:=0
def tw1688229977867824527:=0
def tw7490776351602190833:=0
def tw9958754746050281115:=0
def tw2751304777818957377:=0
def tw11560249855485773994:=0
def tw11292150804681165326:=0
def tw14519776249343010118:=0
def tw5647909073284279280:=0
def tw5518339230762926876:=0
def tw15690804237973935463:=0
def tw5735839839694121832:=0
def tw12906320975837286073:=0
def tw3201076526272978465:=0
def tw15728013483319219316:=0
def tw14931140257305774184:=0
def tw13918792609372449063:=0
def tw8650429449843450975:=0
def tw17304887534660663961:=0
def tw3367650854967861216:=0
def tw17736348783293350091:=0
def tw3598567053646988728:=0
def tw72625945471987945:=0
def tw6357324715687602369:=0
def tw11870166548356086013:=0
def tw2485856646213833840:=0
def tw8335783022062228115:=0
def tw326147174466845918:=0
def tw17863263935088310585:=0
def tw3208236537106314513:=0
def tw7663611935723398612:=0
def tw6485466595620788718:=0
def tw1484189806588224544:=0
def tw11003877565149635738:=0
def tw3859046124164293322:=0
def tw14235574843965818996:=0
def tw15944266987472567951:=0
def tw17375799972192427714:=0
def tw5849206402382329004:=0
def tw10209682874760632173:=0
def tw5522017925388608988:=0
def tw16918021243248449209:=0
def tw7898713673128953681:=0
def tw15906117932927762546:=0
def tw9634818540603420216:=0
def tw14818111935307305889:=0
def tw304144548581272896:=0
def tw12545260842045352866:=0
def tw8709037089462491259:=0
def tw4693212314372687504:=0
def tw11926421325650388510:=0
def tw14326375945227880409:=0
def tw3706136823313112634:=0
def tw8891209571330220031:=0
def tw13553678020609413296:=0
def tw12679018013649069106:=0
def tw15529700356750098680:=0
def tw16098201036754774314:=0
def tw18357930894670472066:=0
def tw12141897614526650487:=0
def tw4851945600756622057:=0
def tw2075854387064486450:=0
def tw16361325614054010923:=0
def tw7371532670398227171:=0
def tw3933734142810191930:=0
def tw16658051305905787978:=0
def tw6391533834648040186:=0
def tw8510798002551401878:=0
def tw18380846662001473049:=0
def tw8291126500494948146:=0
def tw10948323571679875105:=0
def tw17664496120650666907:=0
def tw8719879343054475016:=0
def tw5948460735411389250:=0
def tw14717118972357456755:=0
def tw15350795618090460342:=0
def tw12876098206794578775:=0
def tw17011378095404192571:=0
def tw15342856757950105719:=0
def tw12085739588612227024:=0
def tw6718220753288250758:=0
def tw8960893385496046908:=0
def tw8985864000458051468:=0
def tw4895899014347104775:=0
def tw15392820964184472157:=0
def tw2677187884068112123:=0
def tw11449133137899463167:=0
def tw15407179153591148899:=0
def tw3791056472406190457:=0
def tw4013182718428303252:=0
def tw1634129245199765510:=0
def tw1566499672050867536:=0
def tw11137355859478290623:=0
def tw5298004817131263437:=0
def tw9197255154970380971:=0
def tw14820911428679239751:=0
def tw7294797569210585583:=0
def tw15359820393916016003:=0
def tw17470990334529116263:=0
def tw3446013139451724380:=0
def tw12482001384102386037:=0
def tw4533904460108313887:=0
def tw7067142096846804662:=0
def tw432605451518268152:=0
def tw2169338611927405978:=0
def tw5771673581806454956:=0
def tw11480958013384265890:=0
def tw5751612178052220059:=0
def tw3634549442658245031:=0
def tw8317394489665653596:=0
def tw6483259868623083283:=0
def tw13650765920343706763:=0
def tw1333555211249710914:=0
def tw16855222896784284408:=0
def tw13906484467722680331:=0
def tw15918567742412800238:=0
def tw17774108865959145788:=0
def tw4943502231682043872:=0
def tw2909175440760935302:=0
def tw9166985960659747018:=0
def tw7331491363704969034:=0
def tw12150604192910460165:=0
def tw17333548527897594439:=0
def tw5206510445088931533:=0
def tw8299274420261027467:=0
def tw11674546665293128775:=0
def tw91706273225446037:=0
def tw5397070877032401667:=0
def tw11545246759480389996:=0
def tw10889315783991508593:=0
def tw9154712401134808349:=0
def tw15011156254133162448:=0
def tw14906551630848310265:=0
def tw12490590756620221773:=0
def tw15060054378187158606:=0
def tw9321239394005603037:=0
def tw915594884430491938:=0
def tw5374029412964287515:=0
def tw9979739288685020993:=0
def tw6410882150978718561:=0
def tw8749644317257301761:=0
def tw17624428349021970634:=0
def tw1148813260491147688:=0
def tw10056748179875628644:=0
def tw18406957846204995909:=0
def tw4162146807927954160:=0
def tw5588458510380137703:=0
def tw12501901842389723117:=0
def tw18414295870558619886:=0
def tw16965647704653536583:=0
def tw17465346658935901200:=0
def tw10128660107414017930:=0
def tw8480715968974735456:=0
def tw1494872191083045077:=0
def tw2271040053309388367:=0
def tw17818822461095223459:=0
def tw2119671568790147666:=0
def tw14544557829365941872:=0
def tw7929496479105526875:=0
def tw17855726100194562085:=0
def tw702934995071154083:=0
def tw1074309612303759990:=0
def tw12068542083641499734:=0
def tw4947383065099482482:=0
def tw4376845378958887112:=0
def tw12623257289888245732:=0
def tw17297700371956545915:=0
def tw10318382003474150162:=0
def tw7986993453593859703:=0
def tw139601545147677350:=0
def tw4499031381471527389:=0
def tw3144351260663068222:=0
def tw13976590445279069665:=0
def tw9483902412642803795:=0
def tw7920860724921047942:=0
def tw12874285748843000622:=0
def tw4299898252513389352:=0
def tw16172116886023420064:=0
def tw9377808036513353295:=0
def tw3904510263080214349:=0
def tw7536783774655290946:=0
def tw12009068510585854731:=0
def tw17178957071517267540:=0
def tw7134554158528803285:=0
def tw2521103709253316617:=0
def tw15320798544884750796:=0
def tw4257609455205062490:=0
def tw3793675896505544249:=0
def tw3131365379563965340:=0
def tw2448600047029369150:=0
def tw13831139044069039806:=0
def tw2150323532236234557:=0
def tw6694963103290601944:=0
def tw6923684219366266392:=0
def tw2310888763897826755:=0
def tw11896807921251119777:=0
def tw15780302779268102942:=0
def tw16884741830348874044:=0
def tw8554168195804082575:=0
def tw1209045268451903561:=0
def tw8716558941685344194:=0
def tw14390674375201843339:=0
def tw906569259215719593:=0
def tw17792550154341168784:=0
def tw11042357760537436035:=0
def tw8571331665241058679:=0
def tw12882863018470416646:=0
def tw14916143950106570276:=0
def tw6333457547540269861:=0
def tw6218546089791912339:=0
def tw2329141995867759255:=0
def tw15556938217611724264:=0
def tw7631804834344394863:=0
def tw5317849529100380828:=0
def tw440692977825459854:=0
def tw7013151029110449669:=0
def tw13029105261845425123:=0
def tw17829612706597144896:=0
def tw10675321482873182606:=0
def tw9980309040564009890:=0
def tw9230892690955083741:=0
def tw18395796142095218672:=0
def tw14488869516735821196:=0
def tw18387085813712960587:=0
def tw5798290843585830960:=0
def tw15221598508177148160:=0
def tw6314131732495265122:=0
def tw8074156156173604112:=0
def tw6707293124986077581:=0
def tw4423101304318458622:=0
def tw12489345404671721147:=0
def tw12634576322878340926:=0
def tw2205900397347437847:=0
def tw14955164394823895892:=0
def tw16270241160570022920:=0
def tw10395973351329489187:=0
def tw3249748405127231882:=0
def tw44753114579470407:=0
def tw15363473215601514324:=0
def tw6937632756376523609:=0
def tw3627610751089104050:=0
def tw16283209042915175609:=0
def tw8312524690932991906:=0
def tw4465261799607854633:=0
def tw4348637184856301370:=0
def tw3520967210589972590:=0
def tw17333472735165616327:=0
def tw14598842956038859793:=0
def tw5612820681268036689:=0
def tw3505935195652482785:=0
def tw996036399277493738:=0
def tw8252287858403757509:=0
def tw4310142551504404741:=0
def tw14325614998622393420:=0
def tw6102342726836365583:=0
def tw7601396530943766760:=0
def tw2790036125256581881:=0
def tw17899880352791043425:=0
def tw9300759481300019846:=0
def tw14564195253058345392:=0
def tw1618295955482216413:=0
def tw2042038971707968335:=0
def tw13445594833084028304:=0
def tw16139314620909734883:=0
def tw3369864507802554722:=0
def tw16654896963790154547:=0
def tw8187877999505770257:=0
def tw27052360783316048:=0
def tw7317848768255471700:=0
def tw14109208093353960255:=0
def tw9697581183656565668:=0
def tw16641680270152278226:=0
def tw9137059481261848198:=0
def tw5130459332601379221:=0
def tw2613100027640688694:=0
def tw15056882735994964233:=0
def tw707356098629714106:=0
def tw3413565092572439718:=0
def tw979543010395397128:=0
def tw9243881046261254430:=0
def tw16631068423274030340:=0
def tw10950129604719987000:=0
def tw17141407012091859198:=0
def tw2486752211584277966:=0
def tw15168717524167140618:=0
def tw12749749763634231033:=0
def tw11932076635621608233:=0
def tw211368419440150956:=0
def tw5091365688584162800:=0
def tw9469144047569762633:=0
def tw2737685868063177026:=0
def tw9675992032887350444:=0
def tw5628420033272242228:=0
def tw3161325142677798457:=0
def tw14551317814865540985:=0
def tw8016274969396911265:=0
def tw13789975944533140086:=0
def tw12159014275029766390:=0
end PySem.W.Fast
set_option compiler.extract_closed false
set_option Elab.async false
set_option linter.all false
set_option maxRecDepth 100000
namespace L2
open PySem PySem.Spec PyProof.Rows
abbrev Key:=Sum Int Str
def q7L:Key->Value->Bool
 | .inl k,v=>Value.isInt k v
 | .inr x,v=>Value.isStrOf x v
def keyH (w:World):Key->Int
 | .inl k=>hashInt k
 | .inr x=>hashStr w x
theorem q0j:∀{k:Key} {v:Value},q7L k v=true->(∃i t,k=Sum.inl i/\v=Value.int i t)\/(∃x t,k=Sum.inr x/\v=Value.str x t)
 | .inl i,v,h=>by
  obtain⟨t,e⟩:=Value.isInt_shape (k:=i) (v:=v) h
  exact .inl ⟨i,t,rfl,e⟩
 | .inr x,v,h=>by
  obtain⟨t,e⟩:=Value.isStrOf_shape (x:=x) (v:=v) h
  exact .inr ⟨x,t,rfl,e⟩
theorem q8E (i:Int)(t:Tok):q7L (.inl i) (.int i t)=true:=by simp[q7L,Value.isInt]
theorem q8D (x:Str)(t:Tok):q7L (.inr x) (.str x t)=true:=by simp[q7L,Value.isStrOf]
theorem key_ll (a b:Int):decide ((Sum.inl a:Key)=Sum.inl b)=(a==b):=by
 by_cases e:a=b
 ·subst e;simp
 ·have h:¬(Sum.inl a:Key)=Sum.inl b:=fun q=>e (Sum.inl.inj q)
  rw[zf h]
  exact(beq_eq_false_iff_ne.mpr e).symm
theorem key_rr (a b:Str):decide ((Sum.inr a:Key)=Sum.inr b)=decide (a=b):=by
 by_cases e:a=b
 ·subst e;simp
 ·have h:¬(Sum.inr a:Key)=Sum.inr b:=fun q=>e (Sum.inr.inj q)
  rw[zf h,zf e]
theorem key_lr (a:Int)(b:Str):decide ((Sum.inl a:Key)=Sum.inr b)=false:=zf (fun q=>nomatch q)
theorem key_rl (a:Str)(b:Int):decide ((Sum.inr a:Key)=Sum.inl b)=false:=zf (fun q=>nomatch q)
def q0G (prog:Program)(w:World):PySem.KeyKind prog w Key where
 is:=q7L
 hash:=keyH w
 inj:=fun v a b ha hb=>by
  rcases q0j ha with⟨i,t,rfl,rfl⟩|⟨x,t,rfl,rfl⟩
  ·rcases q0j hb with⟨j,u,rfl,e⟩|⟨y,u,rfl,e⟩
   ·injection e with e1 _;rw[e1]
   ·exact nomatch e
  ·rcases q0j hb with⟨j,u,rfl,e⟩|⟨y,u,rfl,e⟩
   ·exact nomatch e
   ·injection e with e1 _;rw[e1]
 byValue:=fun k v h=>by
  rcases q0j h with⟨i,t,rfl,rfl⟩|⟨x,t,rfl,rfl⟩<;>rfl
 pyHash:=fun hv h=>by
  rcases q0j hv with⟨i,t,rfl,rfl⟩|⟨x,t,rfl,rfl⟩
  ·exact wpAny_pyHash_int h
  ·exact wpAny_pyHash_str h
 eqBool:=fun hu hv h=>by
  rcases q0j hu with⟨i,t,rfl,rfl⟩|⟨x,t,rfl,rfl⟩
  ·rcases q0j hv with⟨j,u,rfl,rfl⟩|⟨y,u,rfl,rfl⟩
   ·rw [key_ll] at h;exact wpAny_eqBool_int h
   ·rw [key_lr] at h;exact SeqAt.EqAt.int_str i t y u _ _ _ _ h
  ·rcases q0j hv with⟨j,u,rfl,rfl⟩|⟨y,u,rfl,rfl⟩
   ·rw [key_rl] at h;exact SeqAt.EqAt.str_int x t j u _ _ _ _ h
   ·rw [key_rr] at h;exact wpAny_eqBool_str h
 «strs» :=fun k x t v h=>by
  rcases q0j h with⟨i,u,rfl,e⟩|⟨y,u,rfl,e⟩
  ·exact nomatch e
  ·injection e with e1 _
   subst e1
   cases v<;>rfl
theorem q6v (prog:Program)(w:World)(i:Int)(t:Tok):(q0G prog w).is (.inl i) (.int i t)=true:=q8E i t
theorem q6u (prog:Program)(w:World)(x:Str)(t:Tok):(q0G prog w).is (.inr x) (.str x t)=true:=q8D x t
inductive V where
 |non|bl (b:Bool)|int (i:Int)|str (x:Str)|byt (b:Array UInt8)|flt (b:UInt64)|ref (a:Addr)|ty (n:String)
 deriving DecidableEq
def RelV:V->Value->Prop
 | .non,u=>u=Value.none
 | .bl b,u=>u=Value.bool b
 | .int i,u=>∃t,u=Value.int i t
 | .str x,u=>∃t,u=Value.str x t
 | .byt b,u=>∃t,u=Value.bytes b t
 | .flt b,u=>∃t,u=Value.float b t
 | .ref a,u=>u=Value.ref a
 | .ty n,u=>u=Value.type n
abbrev Vals:List V->List Value->Prop:=Paired RelV
theorem Vals.length {xs:List V}{us:List Value}(r:Vals xs us):xs.length=us.length:=Paired.length r
theorem Vals.get:∀{xs:List V} {us:List Value} {i:Nat} {x:V},Vals xs us->xs[i]? =some x->∃u,us[i]? =some u/\RelV x u
 |_,_,_,_,.nil,e=>by simp at e
 |_,_,0,_,.cons r _,e=>by simp at e;subst e;exact⟨_,rfl,r⟩
 |_,_,i+1,x,.cons _ t,e=>by
  obtain⟨u,h1,h2⟩:=Vals.get (i:=i) (x:=x) t (by simpa using e)
  exact⟨u,by simpa using h1,h2⟩
theorem Vals.set {x:V}{u:Value}(r:RelV x u):∀{xs:List V} {us:List Value} (i:Nat),Vals xs us->Vals (xs.set i x) (us.set i u)
 |_,_,_,.nil=> .nil
 |_,_,0,.cons _ t=> .cons r t
 |_,_,i+1,.cons q t=> .cons q (Vals.set r i t)
theorem Vals.append:∀{xs ys:List V} {us ws:List Value},Vals xs us->Vals ys ws->Vals (xs++ys) (us++ws)
 |_,_,_,_,.nil,s=>s
 |_,_,_,_,.cons r t,s=> .cons r (Vals.append t s)
theorem Vals.take:∀{xs:List V} {us:List Value} (n:Nat),Vals xs us->Vals (xs.take n) (us.take n)
 |_,_,0,_=> .nil
 |_,_,_+1,.nil=> .nil
 |_,_,n+1,.cons r t=> .cons r (Vals.take n t)
theorem Vals.drop:∀{xs:List V} {us:List Value} (n:Nat),Vals xs us->Vals (xs.drop n) (us.drop n)
 |_,_,0,r=>r
 |_,_,_+1,.nil=> .nil
 |_,_,n+1,.cons _ t=>Vals.drop n t
def RelO:Option V->Option Value->Prop
 |some v,some u=>RelV v u
 |none,none=>True
 |_,_=>False
def KV {κ:Type}:List (κ×V)->List (κ×Value)->Prop:=Paired fun(p:κ×V) (q:κ×Value)=>p.1=q.1/\RelV p.2 q.2
def kV:Key->V
 | .inl i=> .int i
 | .inr x=> .str x
inductive HO where
 /-- a list -/
 |lst (xs:List V)
 /-- a tuple (never changes) -/
 |tup (xs:List V)
 /-- a dict whose keys are ints and texts;one whose keys are tuples of ints and texts (the empty one is both) -/
 |dK (kvs:List (Key×V))|dT (kvs:List (List Key×V))
 /-- a set of ints: its members,its size -/
 |set (S:Int->Bool) (n:Nat)
 /-- an instance of the class at C,its dict at dx,its attributes -/
 |ins (C dx:Addr) (fs:List (Str×V))
 /-- the dict of the instance at x -/
 |own (x:Addr)
 /-- the dict of an exception -/
 |xd (fs:List (Str×V))
 /-- a bound method,f of x -/
 |met (f x:Addr)
 /-- a range object lo,lo+1,.. below hi -/
 |rng (lo hi:Int)
 /-- a thing that is known to the object (the script;a dict while a loop walks it):read,never written while it is so -/
 |frz (o:Obj) (u:HO)
 /-- a code object's table -/
 |tbl (ps:Array Value)
 /-- any other thing,by what is true of its one object (a def of one's own: SetO a S n:=HO.ext fun h=> ..) -/
 |ext (φ:Heap->Prop)
abbrev Hp:=Addr->Option HO
def upd (H:Hp)(a:Addr)(o:HO):Hp:=fun b=>if b=a then some o else H b
theorem qc {H:Hp}{a:Addr}{o:HO}:upd H a o a=some o:=by unfold upd;rw[if_pos rfl]
theorem qw {H:Hp}{a b:Addr}{o:HO}(h:b≠a):upd H a o b=H b:=by unfold upd;rw[if_neg h]
theorem q29 {H:Hp}{a:Addr}{o u:HO}:upd (upd H a o) a u=upd H a u:=by
 funext b;unfold upd;split<;>rfl
theorem q4V {H:Hp}{a b:Addr}{o u:HO}(h:H a=some o)(h':H b=some u)(d:o≠u):a≠b:=by
 intro e;subst e;rw[h] at h';exact d (zD h')
theorem qy {H:Hp}{a b:Addr}{o:HO}(h:H a=some o)(h':H b=none):a≠b:=by
 intro e;subst e;rw[h] at h';cases h'
section
variable (P:Program)(w:World)
def q0I (H:Hp)(h:Heap)(a:Addr):HO->Prop
 | .lst xs=>xs.length<=sizeLine/\∃(its:List Value) (n:Nat),Vals xs its/\h.get? a=some {cls:= .type "list",data:= .seq its.toArray n}
 | .tup xs=>xs.length<=sizeLine/\∃its:List Value,Vals xs its/\IsTup h a its.toArray
 | .dK kvs=>kvs.length<=sizeLine/\(a==sysModules)=false/\∃vs,KV kvs vs/\h.DictOf (q0G P w) a vs
 | .dT kvs=>kvs.length<=sizeLine/\(a==sysModules)=false/\∃xs:List (List Key×Addr×Value),
   Paired (fun(p:List Key×V) (q:List Key×Addr×Value)=>p.1=q.1/\H q.2.1=some (.tup (p.1.map kV))/\RelV p.2 q.2.2) kvs xs/\
   ∃o es ep,h.get? a=some o/\o.ExactDict/\o.data= .dict es ep/\es.toList=xs.map (entryOfKey (tupleKind (q0G P w)))/\(xs.map (·.1)).Nodup
 | .set S n=>h.SetOf (intKind P w) a S n
 | .ins C dx fs=>H dx=some (.own a)/\fs.length<=1000/\dx≠a/\h.get? a=some (PySem.W.instObj C dx)/\
   ∃mA,h.Ns1 dx mA/\(∀f,RelO (fs.lookup f) (mA f))/\PySem.Within mA (fs.map (·.1))
 | .own _=>∃o,h.get? a=some o
 | .xd fs=>∃mA,h.Ns1 a mA/\∀f,RelO (fs.lookup f) (mA f)
 | .rng lo hi=>∃t u v,h.get? a=some {cls:= .type "range",data:= .fields #[.int lo t,.int hi u,.int 1 v]}
 | .frz o u=>h.get? a=some o/\q0I H h a u
 | .tbl ps=>h.get? a=some {cls:= .none,data:= .fields ps}
 | .met f x=>h.get? a=some (PySem.W.methodObj (.ref f) (.ref x))
 | .ext φ=>φ h/\(∃o,h.get? a=some o)/\∀h1 h2:Heap,φ h1->(∀o,h1.get? a=some o->h2.get? a=some o)->φ h2
def HOk (H:Hp)(h:Heap):Prop:=∀a o,H a=some o->q0I P w H h a o
end
section
variable {P:Program}{w:World}{H H':Hp}{h h':Heap}{a:Addr}{o:HO}
theorem q0I.lt (x:q0I P w H h a o):a<h.objs.size:=by
 cases o with
 |lst xs=>obtain⟨_,_,_,_,e⟩:=x;exact zt e
 |tup xs=>obtain⟨_,_,_,p⟩:=x;exact p.lt
 |dK kvs=>obtain⟨_,_,_,_,o,_,_,e,_⟩:=x;exact zt e
 |dT kvs=>obtain⟨_,_,_,_,o,_,_,e,_⟩:=x;exact zt e
 |set S n=>obtain⟨o,_,_,_,e,_⟩:=x;exact zt e
 |ins C dx fs=>obtain⟨_,_,_,e,_⟩:=x;exact zt e
 |own y=>obtain⟨_,e⟩:=x;exact zt e
 |xd fs=>obtain⟨_,⟨_,_,_,e,_⟩,_⟩:=x;exact zt e
 |rng lo hi=>obtain⟨_,_,_,e⟩:=x;exact zt e
 |frz ob u=>obtain⟨e,_⟩:=x;exact zt e
 |tbl ps=>exact zt (show h.get? a=some _ from x)
 |met f y=>exact zt (show h.get? a=some _ from x)
 |ext φ=>obtain⟨_,⟨_,e⟩,_⟩:=x;exact zt e
theorem Paired.mapP {α β:Type}{F G:α->β->Prop}:∀{l₁:List α} {l₂:List β},Paired F l₁ l₂->(∀a b,F a b->G a b)->Paired G l₁ l₂
 |_,_,.nil,_=> .nil
 |_,_,.cons r t,f=> .cons (f _ _ r) (Paired.mapP t f)
theorem q0I.stay (x:q0I P w H h a o)(k:∀b u,(b=a\/H b=some (.own a))->h.get? b=some u->h'.get? b=some u)
  (ho:∀b,H b=some (.own a)->H' b=some (.own a))(ht:∀b xs,H b=some (.tup xs)->H' b=some (.tup xs)):q0I P w H' h' a o:=by
 induction o with
 |lst xs=>obtain⟨z,its,n,r,e⟩:=x;exact⟨z,its,n,r,k _ _ (.inl rfl) e⟩
 |tup xs=>obtain⟨z,its,r,ob,e,c⟩:=x;exact⟨z,its,r,ob,k _ _ (.inl rfl) e,c⟩
 |dK kvs=>obtain⟨z,y,vs,r,ob,es,ep,e,c⟩:=x;exact⟨z,y,vs,r,ob,es,ep,k _ _ (.inl rfl) e,c⟩
 |dT kvs=>
  obtain⟨z,y,xs,r,ob,es,ep,e,c⟩:=x
  exact⟨z,y,xs,Paired.mapP r fun p q z=>⟨z.1,ht _ _ z.2.1,z.2.2⟩,ob,es,ep,k _ _ (.inl rfl) e,c⟩
 |set S n=>obtain⟨ob,es,ep,t,e,c⟩:=x;exact⟨ob,es,ep,t,k _ _ (.inl rfl) e,c⟩
 |ins C dx fs=>
  obtain⟨d,z,ne,e,mA,⟨od,es,ep,e2,c⟩,r⟩:=x
  exact⟨ho _ d,z,ne,k _ _ (.inl rfl) e,mA,⟨od,es,ep,k _ _ (.inr d) e2,c⟩,r⟩
 |own y=>obtain⟨ob,e⟩:=x;exact⟨ob,k _ _ (.inl rfl) e⟩
 |xd fs=>obtain⟨mA,⟨od,es,ep,e,c⟩,r⟩:=x;exact⟨mA,⟨od,es,ep,k _ _ (.inl rfl) e,c⟩,r⟩
 |rng lo hi=>obtain⟨t,u,v,e⟩:=x;exact⟨t,u,v,k _ _ (.inl rfl) e⟩
 |frz ob u ih=>obtain⟨e,q⟩:=x;exact⟨k _ _ (.inl rfl) e,ih q⟩
 |tbl ps=>
  have e:h.get? a=some {cls:= .none,data:= .fields ps}:=x
  show h'.get? a=some {cls:= .none,data:= .fields ps}
  exact k a _ (.inl rfl) e
 |met f y=>
  have e:h.get? a=some (PySem.W.methodObj (.ref f) (.ref y)):=x
  show h'.get? a=some (PySem.W.methodObj (.ref f) (.ref y))
  exact k a _ (.inl rfl) e
 |ext φ=>obtain⟨p,⟨o,e⟩,st⟩:=x;exact⟨st _ _ p fun o q=>k _ _ (.inl rfl) q,⟨o,k _ _ (.inl rfl) e⟩,st⟩
theorem HOk.lt (x:HOk P w H h)(e:H a=some o):a<h.objs.size:=(x a o e).lt
theorem HOk.fresh (x:HOk P w H h)(e:h.objs.size<=a):H a=none:=by
 cases q:H a with
 |none=>rfl
 |some u=>exact absurd (zK (x.lt q) e) (zaW _)
theorem HOk.kept (x:HOk P w H h)(k:∀b u,h.get? b=some u->h'.get? b=some u):HOk P w H h':=fun a o e=>
 (x a o e).stay (fun b u _ q=>k b u q) (fun _ q=>q) fun _ _ q=>q
theorem HOk.laid (x:HOk P w H h)(k:∀b u,h.get? b=some u->h'.get? b=some u)(hp:h.objs.size<=a)(new:q0I P w (upd H a o) h' a o):HOk P w (upd H a o) h':=fun b u e=>by
 have hn:=x.fresh hp
 by_cases hb:b=a
 ·subst hb;rw[qc] at e;cases e;exact new
 ·rw [qw hb] at e
  exact(x b u e).stay (fun c v _ q=>k c v q) (fun c q=>by rw[qw (qy q hn)];exact q) fun c xs q=>by rw[qw (qy q hn)];exact q
end
def Rd (H:Hp)(a:Addr)(u:HO):Prop:=H a=some u\/∃o,H a=some (.frz o u)
theorem Rd.ok {P:Program}{w:World}{H:Hp}{h:Heap}{a:Addr}{u:HO}(r:Rd H a u)(x:HOk P w H h):q0I P w H h a u:=by
 rcases r with r|⟨o,r⟩
 ·exact x a u r
 ·obtain ⟨_,q⟩:=x a _ r
  exact q
def Mut:Option HO->Prop
 |some (.lst _)=>True
 |some (.dK _)=>True
 |some (.dT _)=>True
 |some (.set _ _)=>True
 |some (.ins _ _ _)=>True
 |some (.ext _)=>True
 |_=>False
section
variable {P:Program}{w:World}{H:Hp}{h h':Heap}{x e:Addr}{o':HO}
theorem HOk.write (ok:HOk P w H h)(mu:Mut (H x))(he:e=x\/H e=some (.own x))(k:∀b u,b≠e->h.get? b=some u->h'.get? b=some u)(heo:∃u,h'.get? e=some u)
  (new:q0I P w (upd H x o') h' x o'):HOk P w (upd H x o') h':=fun b u q=>by
 have nown:∀c y,H c=some (.own y)->c≠x:=fun c y r z=>by subst z;rw[r] at mu;exact mu
 have ntup:∀c xs,H c=some (.tup xs)->c≠x:=fun c xs r z=>by subst z;rw[r] at mu;exact mu
 by_cases hb:b=x
 ·subst hb;rw[qc] at q;cases q;exact new
 ·rw [qw hb] at q
  by_cases hbe:b=e
  ·have q':H b=some (.own x):=by
    rcases he with z|z
    ·exact absurd (hbe.trans z) hb
    ·rw [hbe];exact z
   rw[q] at q';cases q'
   obtain⟨v,hv⟩:=heo
   exact⟨v,by rw[hbe];exact hv⟩
  ·refine (ok b u q).stay (fun c v hc r=>k c v ?_ r) (fun c r=>by rw[qw (nown c b r)];exact r) fun c xs r=>by rw[qw (ntup c xs r)];exact r
   rcases hc with rfl|hc
   ·exact hbe
   ·rintro rfl
    rcases he with z|z
    ·exact nown c b hc z
    ·rw [hc] at z;cases z;exact hb rfl
end
structure Un (fs ex:List Addr)(H H':Hp)(h h':Heap):Prop where
 keep:∀b o,h.get? b=some o->H b=none->b∉fs->b∉ex->h'.get? b=some o
 slot:∀b o,h.get? b=some o->H b=none->b∈fs->b∉ex->∃sl,h'.get? b=some {o with slots:=sl}
 free:∀b o,h.get? b=some o->H b=none->b∉ex->H' b=none
 there:∀b o,h.get? b=some o->b∉ex->∃o',h'.get? b=some o'
 tups:∀b xs,H b=some (.tup xs)->H' b=some (.tup xs)
 frzs:∀b o u,H b=some (.frz o u)->H' b=some (.frz o u)
 tbls:∀b ps,H b=some (.tbl ps)->∃more,H' b=some (.tbl (ps++more))
section
variable {fs fs' ex ex':List Addr}{H H1 H2:Hp}{h h1 h2 h':Heap}{a x e:Addr}{o:HO}
theorem Un.any (u:Un fs ex H H1 h h1){b:Addr}{ob:Obj}(q:h.get? b=some ob)(n:H b=none)(hx:b∉ex):∃sl,h1.get? b=some {ob with slots:=sl}:=by
 by_cases hb:b∈fs
 ·exact u.slot b ob q n hb hx
 ·exact ⟨ob.slots,u.keep b ob q n hb hx⟩
theorem Un.kept (k:∀b u,h.get? b=some u->h'.get? b=some u):Un fs ex H H h h':=
 ⟨fun b ob q _ _ _=>k b ob q,fun b ob q _ _ _=>⟨ob.slots,k b ob q⟩,fun _ _ _ n _=>n,fun b ob q _=>⟨ob,k b ob q⟩,fun _ _ q=>q,fun _ _ _ q=>q,fun _ ps q=>⟨#[],by rw[q];simp⟩⟩
theorem Un.refl:Un fs ex H H h h:=Un.kept fun _ _ q=>q
theorem Un.laid (k:∀b u,h.get? b=some u->h'.get? b=some u)(hp:h.objs.size<=a)(hn:H a=none):Un fs ex H (upd H a o) h h' where
 keep:=fun b u q _ _ _=>k b u q
 slot:=fun b u q _ _ _=>⟨u.slots,k b u q⟩
 free:=fun b u q n _=>by rw[qw (zB (zK (zt q) hp))];exact n
 there:=fun b u q _=>⟨u,k b u q⟩
 tups:=fun b xs q=>by rw[qw (qy q hn)];exact q
 frzs:=fun b u xs q=>by rw[qw (qy q hn)];exact q
 tbls:=fun b ps q=>⟨#[],by rw[qw (qy q hn),q];simp⟩
theorem Un.write (mu:Mut (H x))(he:e=x\/H e=some (.own x))(k:∀b u,b≠e->h.get? b=some u->h'.get? b=some u)(heo:∃u,h'.get? e=some u):Un fs ex H (upd H x o) h h':=by
 have hx:∀b,H b=none->b≠x:=fun b n z=>by subst z;rw[n] at mu;exact mu
 have hb:∀b,H b=none->b≠e:=fun b n z=>by
  subst z
  rcases he with r|r
  ·exact hx b n r
  ·rw [n] at r;cases r
 have hm:∀b u,H b=some u->¬Mut (some u)->b≠x:=fun b u q nm z=>by subst z;rw[q] at mu;exact nm mu
 refine⟨fun b u q n _ _=>k b u (hb b n) q,fun b u q n _ _=>⟨u.slots,k b u (hb b n) q⟩,fun b u q n _=>by rw[qw (hx b n)];exact n,fun b u q _=>?_,
  fun b xs q=>by rw[qw (hm b _ q fun z=>z)];exact q,fun b u xs q=>by rw[qw (hm b _ q fun z=>z)];exact q,fun b ps q=>⟨#[],by rw[qw (hm b _ q fun z=>z),q];simp⟩⟩
 by_cases hbe:b=e
 ·subst hbe;exact heo
 ·exact ⟨u,k b u hbe q⟩
end
def trk (h:Heap)(H:Hp):List Addr:=(List.range h.objs.size).filter fun a=>(H a).isSome
def hidT (h:Heap)(H:Hp):Heap:=PySem.W.hideAll h (trk h H)
theorem q8M (h:Heap)(H:Hp):(hidT h H).objs.size=h.objs.size:=PySem.W.hideAll_size _ _
theorem qap {h:Heap}{H:Hp}{b:Addr}{o:Obj}(e:h.get? b=some o)(n:H b=none):(hidT h H).get? b=some o:=
 PySem.W.hideAll_get _ e fun hm=>by
  have q:(H b).isSome=true:=(zbb.mp hm).2
  rw[n] at q;simp at q
theorem qbW {h:Heap}{H:Hp}{b:Addr}{o:Obj}(e:(hidT h H).get? b=some o):h.get? b=some o/\H b=none:=by
 have e':h.get? b=some o:=PySem.W.of_hideAll (trk h H) e
 refine⟨e',?_⟩
 cases q:H b with
 |none=>rfl
 |some x=>
  have hm:b∈trk h H:=zbb.mpr ⟨zbA.mpr (zt e'),by simp[q]⟩
  have z:(hidT h H).get? b=none:=PySem.W.hideAll_none (trk h H) hm
  rw[z] at e;cases e
def qcu (g h:Heap)(L:Addr):List (Addr×Obj):=(List.range h.objs.size).filterMap fun a=>if a=L\/(g.get? a).isSome=true then none else(h.get? a).map fun o=>(a,o)
def rest (g h:Heap)(L d:Addr):List (Addr×Obj):=(qcu g h L).filter fun p=>decide (p.1≠d)
structure Mod (K:W.Frag)(mg:Str->Option Value)(base:Heap):Prop where
 kin:K.In base
 glob:base.Ns mainGlobals mg
 blt:∃mb,base.Ns builtinsNs mb/\∀x:Str,x≠"__name__"->mb x=bootBuiltins x
 nolimit:base.NoLimit
structure Cx where
 prog:Program
 w:World
 K:W.Frag
 mg:Str->Option Value
 base:Heap
 A:Around
 N:List Str
 s₀:Shared
 H₀:Hp
 env:Env
 outer:List Env
 stack:List Env
 ex:List Addr
 fn:Str->Bool
 calm:Bool
 pn:List (Addr×Obj)
 xe:Value->Shared->Prop
def frs (l:List Env):List Addr:=l.filterMap (·.frame)
abbrev Cx.fs (X:Cx):List Addr:=frs X.outer
def Vis (sc:Scope)(x:Str):Prop:=sc.names.lookup x=some .local\/sc.names.lookup x=some .cell\/sc.names.lookup x=some .free
def Loc (sc:Scope)(x:Str):Prop:=sc.names.lookup x=some .local\/sc.names.lookup x=some .cell
def Look (env:Env)(h:Heap)(m:Str->Option Value)(x:Str)(u:Value):Prop:=
 (env.kindOf x=some .local/\m x=some u)\/((env.kindOf x=some .cell\/env.kindOf x=some .free)/\∃c,env.cells.lookup x=some c/\h.IsCell c (some u))
structure Cx.Ok (X:Cx):Prop where
 mod:Mod X.K X.mg X.base
 kind:X.env.scope.kind= .function
 glob:X.env.globals=mainGlobals
 blt:X.env.builtins=builtinsNs
 above:X.s₀.heap.objs.size<=X.env.locals
 inj:∀x y c,X.env.cells.lookup x=some c->X.env.cells.lookup y=some c->x=y
 has:∀x,(X.env.kindOf x=some .cell\/X.env.kindOf x=some .free)->∃c,X.env.cells.lookup x=some c
 cab:∀x c,X.fn x=true->X.env.cells.lookup x=some c->X.s₀.heap.objs.size<=c
 hd:X.calm=true->X.A.handled=none
 frames:X.A.frames=some X.stack
 stk:X.stack=X.outer\/(X.stack=X.env::X.outer/\X.env.frame=some X.env.locals)
 exf:∀b∈X.ex,b≠X.env.locals/\∀x c,X.env.cells.lookup x=some c->c≠b
 bs:∀b o,X.base.get? b=some o->X.s₀.heap.get? b=some o/\X.H₀ b=none
 bsz:X.base.objs.size<=X.s₀.heap.objs.size
 noex:∀b o,X.base.get? b=some o->b∉X.ex
 exfs:∀b∈X.ex,b∉X.fs
 funs:X.s₀.heap.FunFrames X.base X.outer
 frf:∀b∈X.fs,X.H₀ b=none
structure Inv (X:Cx)(pins:List (Addr×Obj))(σ:List (Option V))(H:Hp)(s:Shared):Prop where
 ok:X.Ok
 os:s.os=X.s₀.os
 bare:AllBare s.gens
 base:Un X.fs X.ex X.H₀ H X.s₀.heap s.heap
 loc:∃m,s.heap.Ns X.env.locals m/\∀(i:Nat) (x:Str) (v:V),X.N[i]? =some x->σ[i]? =some (some v)->Vis X.env.scope x->∃u,RelV v u/\Look X.env s.heap m x u
 cell:∀x c,X.env.cells.lookup x=some c->∃v,s.heap.IsCell c v
 free:H X.env.locals=none
 freeC:∀x c,X.env.cells.lookup x=some c->H c=none
 pin:∀p∈X.pn++pins,s.heap.get? p.1=some p.2/\H p.1=none/\p.1≠X.env.locals/\p.1∉X.fs/\∀v,p.2.data≠ .cell v
 hok:HOk X.prog X.w H s.heap
 len:σ.length=X.N.length
section
variable {X:Cx}{pins:List (Addr×Obj)}{σ:List (Option V)}{H H':Hp}{s:Shared}{h':Heap}
theorem Cx.Ok.nofr (ok:X.Ok){b:Addr}{o:Obj}(e:X.base.get? b=some o):b∉X.fs:=fun hb=>by
 have:=(ok.funs.mem hb).1
 rw[e] at this;cases this
theorem Inv.bs (I:Inv X pins σ H s):∀b o,X.base.get? b=some o->s.heap.get? b=some o/\H b=none:=fun b o e=>
 ⟨I.base.keep b o (I.ok.bs b o e).1 (I.ok.bs b o e).2 (I.ok.nofr e) (I.ok.noex b o e),I.base.free b o (I.ok.bs b o e).1 (I.ok.bs b o e).2 (I.ok.noex b o e)⟩
theorem Inv.bk (I:Inv X pins σ H s):∀b o,X.base.get? b=some o->s.heap.get? b=some o:=fun b o e=>(I.bs b o e).1
theorem Inv.mod (I:Inv X pins σ H s):Mod X.K X.mg X.base:=I.ok.mod
theorem Inv.kIn (I:Inv X pins σ H s):X.K.In s.heap:=I.ok.mod.kin.keeps I.bk
theorem Inv.lt (I:Inv X pins σ H s):X.env.locals<s.heap.objs.size:=let ⟨_,hn,_⟩:=I.loc;hn.lt
theorem Inv.sz (I:Inv X pins σ H s):X.s₀.heap.objs.size<=s.heap.objs.size:=zab I.ok.above (zbP I.lt)
theorem Inv.nofs (I:Inv X pins σ H s){a:Addr}(h:s.heap.objs.size<=a):a∉X.fs:=fun hb=>by
 obtain⟨_,o,ho,_⟩:=I.ok.funs.mem hb
 exact absurd (zK (zt ho) (zab I.sz h)) (zaW _)
theorem Inv.cne (I:Inv X pins σ H s):∀x c,X.env.cells.lookup x=some c->c≠X.env.locals:=fun x c e z=>by
 obtain⟨v,o,ho,hd⟩:=I.cell x c e
 obtain⟨m,⟨o',es,ep,ho',hd',_⟩,_⟩:=I.loc
 rw[z,ho'] at ho;cases ho;rw[hd'] at hd;cases hd
theorem Inv.funs (I:Inv X pins σ H s):s.heap.FunFrames X.base X.outer:=by
 have all:∀(l:List Env),(∀b∈frs l,b∈X.fs)->X.s₀.heap.FunFrames X.base l->s.heap.FunFrames X.base l:=by
  intro l
  induction l with
  |nil=>intro _ _;trivial
  |cons env r ih=>
   intro hs hl
   obtain⟨hk,⟨L,o,hf,hn,ho,hd⟩,hr⟩:=hl
   have hL:L∈X.fs:=hs L (by unfold frs;rw[List.filterMap_cons,hf];exact zbc)
   obtain⟨sl,e⟩:=I.base.slot L o ho (I.ok.frf L hL) hL fun z=>I.ok.exfs L z hL
   exact⟨hk,⟨L,_,hf,hn,e,hd⟩,ih (fun b hb=>hs b (by unfold frs;rw[List.filterMap_cons,hf];exact zX _ hb)) hr⟩
 exact all X.outer (fun _ hb=>hb) I.ok.funs
theorem Inv.stack (I:Inv X pins σ H s):s.heap.FunFrames X.base X.stack:=by
 rcases I.ok.stk with e|⟨e,hf⟩
 ·rw [e];exact I.funs
 ·rw [e]
  obtain⟨m,hn,_⟩:=I.loc
  refine .cons (by rw[I.ok.kind];decide) hf hn ?_ I.funs
  exact Heap.get?_none_of_le (zab I.ok.bsz I.ok.above)
theorem Inv.stkSub (I:Inv X pins σ H s):∀b∈frs X.stack,b∈X.env.locals::X.fs:=fun b hb=>by
 rcases I.ok.stk with e|⟨e,hf⟩
 ·rw [e] at hb;exact zX _ hb
 ·rw [e] at hb
  unfold frs at hb
  rw[List.filterMap_cons,hf] at hb
  exact hb
theorem Inv.stkFree (I:Inv X pins σ H s):∀b∈frs X.stack,H b=none:=fun b hb=>by
 rcases zU.mp (I.stkSub b hb) with e|hb
 ·rw [e];exact I.free
 ·obtain ⟨_,o,ho,_⟩:=I.ok.funs.mem hb
  exact I.base.free b o ho (I.ok.frf b hb) fun z=>I.ok.exfs b z hb
theorem Inv.step {g':Array GenState}{t':Nat}{d':Drawn}{ch:List Addr}(I:Inv X pins σ H s)
  (hch:∀b∈ch,(b∈X.ex\/X.s₀.heap.objs.size<=b)/\b≠X.env.locals/\(∀x c,X.env.cells.lookup x=some c->c≠b)/\∀p∈X.pn++pins,p.1≠b)
  (keep:∀b o,b≠X.env.locals->b∉X.fs->b∉ch->s.heap.get? b=some o->H b=none->h'.get? b=some o)
  (slot:∀b o,b≠X.env.locals->b∈X.fs->b∉ch->s.heap.get? b=some o->H b=none->∃sl,h'.get? b=some {o with slots:=sl})(free:∀b o,b∉ch->s.heap.get? b=some o->H b=none->H' b=none)
  (there:∀b o,b∉ch->s.heap.get? b=some o->∃o',h'.get? b=some o')
  (tups:∀b xs,H b=some (.tup xs)->H' b=some (.tup xs))(frzs:∀b o u,H b=some (.frz o u)->H' b=some (.frz o u))(tbls:∀b ps,H b=some (.tbl ps)->∃more,H' b=some (.tbl (ps++more)))
  (ns:∀m,s.heap.Ns X.env.locals m->h'.Ns X.env.locals m)(hok:HOk X.prog X.w H' h')(hg:AllBare g'):
  Inv X pins σ H' {s with heap:=h',gens:=g',drawn:=d',toks:=t'}:=by
 have neL:∀b o,X.s₀.heap.get? b=some o->b≠X.env.locals:=fun b o e=>zB (zK (zt e) I.ok.above)
 have neC:∀b o,X.s₀.heap.get? b=some o->b∉X.ex->b∉ch:=fun b o e hx hb=>by
  rcases(hch b hb).1 with z|z
  ·exact hx z
  ·exact absurd (zK (zt e) z) (zaW _)
 have cellK:∀x c,X.env.cells.lookup x=some c->∀v,s.heap.IsCell c v->h'.IsCell c v:=fun x c e v ⟨o,ho,hd⟩=>by
  have nch:c∉ch:=fun z=>(hch c z).2.2.1 x c e rfl
  by_cases hc:c∈X.fs
  ·obtain ⟨sl,q⟩:=slot c o (I.cne x c e) hc nch ho (I.freeC x c e)
   exact⟨_,q,hd⟩
  ·exact ⟨o,keep c o (I.cne x c e) hc nch ho (I.freeC x c e),hd⟩
 refine⟨I.ok,I.os,hg,⟨fun b o e n hb hx=>?_,fun b o e n hb hx=>?_,fun b o e n hx=>?_,fun b o e hx=>?_,fun b xs e=>tups b xs (I.base.tups b xs e),fun b o xs e=>frzs b o xs (I.base.frzs b o xs e),fun b ps e=>?_⟩,?_,fun x c e=>?_,?_,fun x c e=>?_,fun p hp=>?_,hok,I.len⟩
 ·exact keep b o (neL b o e) hb (neC b o e hx) (I.base.keep b o e n hb hx) (I.base.free b o e n hx)
 ·obtain ⟨sl,e1⟩:=I.base.slot b o e n hb hx
  obtain⟨sl',e2⟩:=slot b _ (neL b o e) hb (neC b o e hx) e1 (I.base.free b o e n hx)
  exact⟨sl',e2⟩
 ·obtain ⟨o',e1⟩:=I.base.there b o e hx
  exact free b o' (neC b o e hx) e1 (I.base.free b o e n hx)
 ·obtain ⟨o',e1⟩:=I.base.there b o e hx
  exact there b o' (neC b o e hx) e1
 ·obtain ⟨m1,e1⟩:=I.base.tbls b ps e
  obtain⟨m2,e2⟩:=tbls b _ e1
  exact⟨m1++m2,by rw[e2,Array.append_assoc]⟩
 ·obtain ⟨m,hn,hl⟩:=I.loc
  refine⟨m,ns m hn,fun i x v e1 e2 e3=>?_⟩
  obtain⟨u,r,l⟩:=hl i x v e1 e2 e3
  refine⟨u,r,?_⟩
  rcases l with l|⟨k,c,e,z⟩
  ·exact .inl l
  ·exact .inr ⟨k,c,e,cellK x c e _ z⟩
 ·obtain ⟨v,z⟩:=I.cell x c e
  exact⟨v,cellK x c e v z⟩
 ·obtain ⟨m,⟨o,_,_,ho,_⟩,_⟩:=I.loc
  exact free _ o (fun z=>(hch _ z).2.1 rfl) ho I.free
 ·obtain ⟨v,o,ho,hd⟩:=I.cell x c e
  exact free c o (fun z=>(hch c z).2.2.1 x c e rfl) ho (I.freeC x c e)
 ·obtain ⟨e,n,ne,nf,d⟩:=I.pin p hp
  have nch:p.1∉ch:=fun z=>(hch p.1 z).2.2.2 p hp rfl
  exact⟨keep p.1 p.2 ne nf nch e n,free p.1 p.2 nch e n,ne,nf,d⟩
theorem Inv.un {t':Nat}(I:Inv X pins σ H s)(u:Un X.fs [] H H' s.heap h')(hok:HOk X.prog X.w H' h'):Inv X pins σ H' {s with heap:=h',toks:=t'}:=by
 obtain⟨m,⟨o,es,ep,ho,r⟩,_⟩:=id I.loc
 obtain⟨sl,hL⟩:=u.any ho I.free (by simp)
 exact I.step (g':=s.gens) (d':=s.drawn) (ch:=[]) (fun _ z=>nomatch z) (fun b o _ hb _ e n=>u.keep b o e n hb (by simp)) (fun b o _ hb _ e n=>u.slot b o e n hb (by simp)) (fun b o _ e n=>u.free b o e n (by simp)) (fun b o _ e=>u.there b o e (by simp)) u.tups u.frzs u.tbls (fun m' hm=>by
  obtain⟨o',es',ep',ho',r'⟩:=hm
  rw[ho] at ho';cases ho'
  exact⟨_,es',ep',hL,r'⟩) hok I.bare
theorem Inv.call {g':Array GenState}{t':Nat}{d':Drawn}{ch:List Addr}(I:Inv X pins σ H s)(u:Un (frs X.stack) ch H H' s.heap h')(hok:HOk X.prog X.w H' h')(hg:AllBare g')
  (hch:∀b∈ch,(b∈X.ex\/X.s₀.heap.objs.size<=b)/\b≠X.env.locals/\(∀x c,X.env.cells.lookup x=some c->c≠b)/\∀p∈X.pn++pins,p.1≠b):
  Inv X pins σ H' {s with heap:=h',gens:=g',drawn:=d',toks:=t'}:=by
 obtain⟨m,⟨o,es,ep,ho,r⟩,_⟩:=id I.loc
 obtain⟨sl,hL⟩:=u.any ho I.free fun z=>(hch _ z).2.1 rfl
 exact I.step (ch:=ch) hch (fun b o hL hb hc e n=>u.keep b o e n (fun z=>(zU.mp (I.stkSub b z)).elim hL hb) hc) (fun b o _ _ hc e n=>u.any e n hc) (fun b o hc e n=>u.free b o e n hc) (fun b o hc e=>u.there b o e hc) u.tups u.frzs u.tbls (fun m' hm=>by
  obtain⟨o',es',ep',ho',r'⟩:=hm
  rw[ho] at ho';cases ho'
  exact⟨_,es',ep',hL,r'⟩) hok hg
theorem Inv.turned {t':Nat}{it:Addr}(I:Inv X pins σ H s)(k:∀b o,b≠it->s.heap.get? b=some o->h'.get? b=some o)(hn:H it=none)(hL:it≠X.env.locals)
  (h1:it∈X.ex\/X.s₀.heap.objs.size<=it)(h2:∀x c,X.env.cells.lookup x=some c->c≠it)(h3:∀p∈X.pn++pins,p.1≠it):Inv X pins σ H {s with heap:=h',toks:=t'}:=by
 have nit:∀b u,H b=some u->b≠it:=fun b u e z=>by rw[z,hn] at e;cases e
 refine I.step (g':=s.gens) (d':=s.drawn) (ch:=[it]) (fun b hb=>?_) (fun b o _ _ hc e _=>k b o (fun z=>hc (by simp[z])) e) (fun b o _ _ hc e _=>⟨o.slots,k b o (fun z=>hc (by simp[z])) e⟩) (fun _ _ _ _ n=>n)
  (fun b o hc e=>⟨o,k b o (fun z=>hc (by simp[z])) e⟩) (fun _ _ e=>e) (fun _ _ _ e=>e) (fun b ps e=>⟨#[],by rw[e];simp⟩) (fun m hm=>?_) (fun b u e=>?_) I.bare
 ·have e:b=it:=by simpa using hb
  subst e
  exact⟨h1,hL,h2,h3⟩
 ·obtain ⟨o,es,ep,ho,r⟩:=hm
  exact⟨o,es,ep,k _ o (Ne.symm hL) ho,r⟩
 ·refine (I.hok b u e).stay (fun c v hc q=>k c v ?_ q) (fun _ q=>q) fun _ _ q=>q
  rcases hc with z|z
  ·rw [z];exact nit b u e
  ·exact nit c _ z
theorem Inv.tok (I:Inv X pins σ H s)(t:Nat):Inv X pins σ H {s with toks:=t}:=I.un (h':=s.heap) (t':=t) Un.refl I.hok
theorem Inv.kept {t':Nat}(I:Inv X pins σ H s)(k:∀b u,s.heap.get? b=some u->h'.get? b=some u):Inv X pins σ H {s with heap:=h',toks:=t'}:=I.un (Un.kept k) (I.hok.kept k)
theorem Inv.laid {a:Addr}{o:HO}{t':Nat}(I:Inv X pins σ H s)(k:∀b u,s.heap.get? b=some u->h'.get? b=some u)(hp:s.heap.objs.size<=a)(new:q0I X.prog X.w (upd H a o) h' a o):
  Inv X pins σ (upd H a o) {s with heap:=h',toks:=t'}:=I.un (Un.laid k hp (I.hok.fresh hp)) (I.hok.laid k hp new)
theorem Inv.write {x e:Addr}{o:HO}{t':Nat}(I:Inv X pins σ H s)(mu:Mut (H x))(he:e=x\/H e=some (.own x))(k:∀b u,b≠e->s.heap.get? b=some u->h'.get? b=some u)(heo:∃u,h'.get? e=some u)
  (new:q0I X.prog X.w (upd H x o) h' x o):Inv X pins σ (upd H x o) {s with heap:=h',toks:=t'}:=I.un (Un.write mu he k heo) (I.hok.write mu he k heo new)
theorem Inv.pins_of {pins':List (Addr×Obj)}(I:Inv X pins σ H s)(h:∀p∈pins',s.heap.get? p.1=some p.2/\H p.1=none/\p.1≠X.env.locals/\p.1∉X.fs/\∀v,p.2.data≠ .cell v):Inv X pins' σ H s:=
 ⟨I.ok,I.os,I.bare,I.base,I.loc,I.cell,I.free,I.freeC,fun p hp=>(zr.mp hp).elim (fun z=>I.pin p (za0 _ z)) (h p),I.hok,I.len⟩
theorem q74 {N:List Str}(hN:N.Nodup){i j:Nat}{x:Str}(a:N[i]? =some x)(b:N[j]? =some x):i=j:=by
 obtain⟨h1,e1⟩:=yA a
 obtain⟨h2,e2⟩:=yA b
 exact(List.getElem_inj hN).mp (e1.trans e2.symm)
theorem q5p {M:Model}{A:Around}{E:Value->Shared->Prop}{i:Nat}{x:Str}{v:V}{u:Value}{Q:Unit->Shared->Prop}(I:Inv X pins σ H s)(hN:X.N.Nodup)(hi:X.N[i]? =some x)(hx:Loc X.env.scope x)(r:RelV v u)
  (h:∀s',Inv X pins (σ.set i (some v)) H s'->(∃a,Heap.SameBut a s.heap s'.heap/\(a=X.env.locals\/X.env.cells.lookup x=some a))->Q () s')(hf:X.fn x=true\/X.env.scope.names.lookup x=some .local:=by first|exact .inl rfl|exact .inr rfl|assumption):wpAny M A (storeName X.env x u) Q E s:=by
 obtain⟨m,hn,hl⟩:=id I.loc
 have hcls:(X.env.scope.kind== .class||(X.env.scope.kind== .module&&X.env.locals != X.env.globals))=false:=by rw[I.ok.kind];rfl
 have hiσ:i<σ.length:=by rw[I.len];exact(yA hi).1
 have cne:=I.cne
 have tracked:∀{a:Addr} {h':Heap},(∃o,s.heap.get? a=some o/\H a=none)->Heap.SameBut a s.heap h'->HOk X.prog X.w H h':=fun {a h'} ha hs b ob e=>by
  obtain⟨_,_,hfree⟩:=ha
  refine(I.hok b ob e).stay (fun c w' hc q=>(hs.2 c ?_).trans q) (fun _ q=>q) fun _ _ q=>q
  rintro rfl
  rcases hc with rfl|hc
  ·rw [hfree] at e;cases e
  ·rw [hfree] at hc;cases hc
 rcases hx with hk|hk
 ·refine wpAny_storeName_local hk hn (fun h' hn' hs=>?_) hcls
  obtain⟨oL,_,_,hoL,_⟩:=id hn
  refine h _ ⟨I.ok,I.os,I.bare,⟨fun b o e n hb hx=>?_,fun b o e n hb hx=>?_,I.base.free,fun b o e hx=>?_,I.base.tups,I.base.frzs,I.base.tbls⟩,⟨_,hn',fun j y v' e1 e2 e3=>?_⟩,fun y c e=>?_,I.free,I.freeC,fun p hp=>?_,tracked ⟨oL,hoL,I.free⟩ hs,by simpa using I.len⟩ ⟨_,hs,.inl rfl⟩
  ·exact (hs.2 b (zB (zK (zt e) I.ok.above))).trans (I.base.keep b o e n hb hx)
  ·obtain ⟨sl,e1⟩:=I.base.slot b o e n hb hx
   exact⟨sl,(hs.2 b (zB (zK (zt e) I.ok.above))).trans e1⟩
  ·obtain ⟨o',e1⟩:=I.base.there b o e hx
   exact⟨o',(hs.2 b (zB (zK (zt e) I.ok.above))).trans e1⟩
  ·by_cases hj:j=i
   ·subst hj
    rw[hi] at e1;cases e1
    rw[List.getElem?_set_self hiσ] at e2
    cases e2
    exact⟨u,r,.inl ⟨hk,by simp⟩⟩
   ·rw [List.getElem?_set_ne (Ne.symm hj)] at e2
    obtain⟨u',r',q⟩:=hl j y v' e1 e2 e3
    refine⟨u',r',?_⟩
    rcases q with⟨k,e⟩|⟨k,c,e,z⟩
    ·refine .inl ⟨k,?_⟩
     have:y≠x:=fun e=>hj (q74 hN e1 (e▸hi))
     simp[this,e]
    ·exact .inr ⟨k,c,e,z.sameBut hs (cne y c e)⟩
  ·obtain ⟨w',z⟩:=I.cell y c e
   exact⟨w',z.sameBut hs (cne y c e)⟩
  ·obtain ⟨e,n,ne,nf,d⟩:=I.pin p hp
   exact⟨(hs.2 p.1 ne).trans e,n,ne,nf,d⟩
 ·have hfn:X.fn x=true:=by
   rcases hf with z|z
   ·exact z
   ·rw [z] at hk;cases hk
  obtain⟨c,hc⟩:=I.ok.has x (.inl hk)
  obtain⟨w',z⟩:=I.cell x c hc
  refine wpAny_storeName_cell I.ok.kind hk hc z (fun h' hc' hs=>?_)
  obtain⟨oc,hoc,hocd⟩:=id z
  refine h {s with heap:=h'} ⟨I.ok,I.os,I.bare,⟨fun b o e n hb hx=>?_,fun b o e n hb hx=>?_,I.base.free,fun b o e hx=>?_,I.base.tups,I.base.frzs,I.base.tbls⟩,⟨m,hn.sameBut hs (Ne.symm (cne x c hc)),fun j y v' e1 e2 e3=>?_⟩,fun y c' e=>?_,I.free,I.freeC,fun p hp=>?_,tracked ⟨oc,hoc,I.freeC x c hc⟩ hs,by simpa using I.len⟩ ⟨c,hs,.inr hc⟩
  ·exact (hs.2 b (zB (zK (zt e) (I.ok.cab x c hfn hc)))).trans (I.base.keep b o e n hb hx)
  ·obtain ⟨sl,e1⟩:=I.base.slot b o e n hb hx
   exact⟨sl,(hs.2 b (zB (zK (zt e) (I.ok.cab x c hfn hc)))).trans e1⟩
  ·obtain ⟨o',e1⟩:=I.base.there b o e hx
   exact⟨o',(hs.2 b (zB (zK (zt e) (I.ok.cab x c hfn hc)))).trans e1⟩
  ·by_cases hj:j=i
   ·subst hj
    rw[hi] at e1;cases e1
    rw[List.getElem?_set_self hiσ] at e2
    cases e2
    exact⟨u,r,.inr ⟨.inl hk,c,hc,hc'⟩⟩
   ·rw [List.getElem?_set_ne (Ne.symm hj)] at e2
    obtain⟨u',r',q⟩:=hl j y v' e1 e2 e3
    refine⟨u',r',?_⟩
    rcases q with q|⟨k,c',e,z'⟩
    ·exact .inl q
    ·refine .inr ⟨k,c',e,z'.sameBut hs ?_⟩
     rintro rfl
     exact hj (q74 hN e1 (I.ok.inj _ _ _ e hc▸hi))
  ·by_cases hcc:c'=c
   ·subst hcc;exact⟨_,hc'⟩
   ·obtain ⟨w2,z2⟩:=I.cell y c' e
    exact⟨w2,z2.sameBut hs hcc⟩
  ·obtain ⟨e,n,ne,nf,d⟩:=I.pin p hp
   refine⟨(hs.2 p.1 ?_).trans e,n,ne,nf,d⟩
   intro q
   rw[q,hoc] at e
   have q':oc=p.2:=zD e
   exact d w' (by rw[<-q'];exact hocd)
theorem q6P {M:Model}{A:Around}{E:Value->Shared->Prop}{i:Nat}{x:Str}{v:V}{u:Value}{Q:Unit->Shared->Prop}(I:Inv X pins σ H s)(hN:X.N.Nodup)(hi:X.N[i]? =some x)(hx:Loc X.env.scope x)(r:RelV v u)
  (h:∀s',Inv X pins (σ.set i (some v)) H s'->Q () s')(hf:X.fn x=true\/X.env.scope.names.lookup x=some .local:=by first|exact .inl rfl|exact .inr rfl|assumption):wpAny M A (storeName X.env x u) Q E s:=
 q5p I hN hi hx r (fun s' I' _=>h s' I') hf
theorem Inv.call' {s':Shared}{ch:List Addr}(I:Inv X pins σ H s)(ho:s'.os=s.os)(u:Un (frs X.stack) ch H H' s.heap s'.heap)(hok:HOk X.prog X.w H' s'.heap)(hg:AllBare s'.gens)
  (hch:∀b∈ch,(b∈X.ex\/X.s₀.heap.objs.size<=b)/\b≠X.env.locals/\(∀x c,X.env.cells.lookup x=some c->c≠b)/\∀p∈X.pn++pins,p.1≠b):Inv X pins σ H' s':=by
 obtain⟨h',g',d',t',o'⟩:=s'
 have e:o'=s.os:=ho
 subst e
 exact I.call (g':=g') (t':=t') (d':=d') u hok hg hch
end
abbrev XK:=Value->Option Addr->Hp->Prop
abbrev St:=List (Option V)
abbrev VK:=V->Hp->Prop
abbrev TE:=St->Hp->VK->Prop
abbrev TT:=St->Hp->(Bool->Hp->Prop)->Prop
abbrev TA:=St->Hp->(List V->Hp->Prop)->Prop
structure Ends where
 nx:St->Hp->Prop
 rt:VK
 bk:St->Hp->Prop:=fun _ _=>False
 ct:St->Hp->Prop:=fun _ _=>False
abbrev TS:=Ends->St->Hp->Prop
def EP (X:Cx)(pins:List (Addr×Obj))(σ:St)(Q:VK)(u:Value)(s':Shared):Prop:=∃v H',Inv X pins σ H' s'/\RelV v u/\Q v H'
def TP (X:Cx)(pins:List (Addr×Obj))(σ:St)(Q:Bool->Hp->Prop)(b:Bool)(s':Shared):Prop:=∃H',Inv X pins σ H' s'/\Q b H'
def AP (X:Cx)(pins:List (Addr×Obj))(σ:St)(Q:List V->Hp->Prop)(us:List Value)(s':Shared):Prop:=∃vs H',Inv X pins σ H' s'/\Vals vs us/\Q vs H'
def SP (X:Cx)(pins:List (Addr×Obj))(D:Ends)(f:Flow)(s':Shared):Prop:=
 match f with
 | .next=>∃σ' H',Inv X pins σ' H' s'/\D.nx σ' H'
 | .brk=>∃σ' H',Inv X pins σ' H' s'/\D.bk σ' H'
 | .cont=>∃σ' H',Inv X pins σ' H' s'/\D.ct σ' H'
 | .ret u=>∃v σ' H',Inv X pins σ' H' s'/\RelV v u/\D.rt v H'
def PE (X:Cx)(e:Expr)(t:TE):Prop:=
 ∀(pins:List (Addr×Obj)) (s:Shared) (σ:St) (H:Hp) (Q:VK),Inv X pins σ H s->t σ H Q->wpAny (model X.prog X.w) X.A (eval e X.env) (EP X pins σ Q) X.xe s
def PT (X:Cx)(e:Expr)(t:TT):Prop:=
 ∀(pins:List (Addr×Obj)) (s:Shared) (σ:St) (H:Hp) (Q:Bool->Hp->Prop),Inv X pins σ H s->t σ H Q->wpAny (model X.prog X.w) X.A (isTrue e X.env (eval e X.env)) (TP X pins σ Q) X.xe s
def PW (X:Cx)(e:Expr)(t:TT):Prop:=
 ∀(whole:Sem Value) (pins:List (Addr×Obj)) (s:Shared) (σ:St) (H:Hp) (Q:Bool->Hp->Prop),Inv X pins σ H s->t σ H Q->wpAny (model X.prog X.w) X.A (isTrue e X.env whole) (TP X pins σ Q) X.xe s
theorem PW.pt {X:Cx}{e:Expr}{t:TT}(h:PW X e t):PT X e t:=h _
def PA (X:Cx)(es:List Expr)(t:TA):Prop:=
 ∀(pos:Pos) (pins:List (Addr×Obj)) (s:Shared) (σ:St) (H:Hp) (Q:List V->Hp->Prop),Inv X pins σ H s->t σ H Q->wpAny (model X.prog X.w) X.A (spliced (backTo pos (starEach es X.env))) (AP X pins σ Q) X.xe s
def PS (X:Cx)(st:Stmt)(t:TS):Prop:=
 ∀(pins:List (Addr×Obj)) (s:Shared) (σ:St) (H:Hp) (D:Ends),Inv X pins σ H s->t D σ H->wpAny (model X.prog X.w) X.A (exec st X.env) (SP X pins D) X.xe s
def PSs (X:Cx)(st:List Stmt)(t:TS):Prop:=
 ∀(pins:List (Addr×Obj)) (s:Shared) (σ:St) (H:Hp) (D:Ends),Inv X pins σ H s->t D σ H->wpAny (model X.prog X.w) X.A (execs st X.env) (SP X pins D) X.xe s
theorem thn {α:Type}{t:Sem α}{Q Q':α->Shared->Prop}{M:Model}{A:Around}{E:Value->Shared->Prop}{s:Shared}(h:wpAny M A t Q E s)(hQ:∀a s,Q a s->Q' a s):wpAny M A t Q' E s:=zak h hQ fun _ _ x=>x
section
variable {X:Cx}
theorem bin {a b:Expr}{ta tb:TE}(ha:PE X a ta)(hb:PE X b tb){pins:List (Addr×Obj)}{s:Shared}{σ:St}{H:Hp}{R:V->V->Hp->Prop}(I:Inv X pins σ H s)(h:ta σ H fun x H1=>tb σ H1 fun y H2=>R x y H2)
  {α:Type}{Q:α->Shared->Prop}{f:Value->Value->Sem α}
  (hf:∀v u s2 x y H2,Inv X pins σ H2 s2->RelV x v->RelV y u->R x y H2->wpAny (model X.prog X.w) X.A (f v u) Q X.xe s2):
  wpAny (model X.prog X.w) X.A (eval a X.env) (fun v s₁=>wpAny (model X.prog X.w) X.A (eval b X.env) (fun u s₂=>wpAny (model X.prog X.w) X.A (f v u) Q X.xe s₂) X.xe s₁) X.xe s:=by
 refine thn (ha pins s σ H _ I h) fun v s1 ⟨x,H1,I1,r1,q1⟩=>?_
 refine thn (hb pins s1 σ H1 _ I1 q1) fun u s2 ⟨y,H2,I2,r2,q2⟩=>?_
 exact hf v u s2 x y H2 I2 r1 r2 q2
def tVar (i:Nat):TE:=fun σ H Q=>∃v,σ[i]? =some (some v)/\Q v H
def tC (v:V):TE:=fun _ H Q=>Q v H
theorem pe_var {i:Nat}{x:Str}{pos:Pos}(hN:X.N[i]? =some x)(hv:Vis X.env.scope x)(hd:(x==("__debug__":Str))=false:=by decide)(hcd:(x==("__classdict__":Str))=false:=by decide):PE X (.Name x pos) (tVar i):=by
 intro pins s σ H Q I h
 obtain⟨v,e,h⟩:=h
 obtain⟨m,hn,hl⟩:=I.loc
 obtain⟨u,r,l⟩:=hl i x v hN e hv
 have fin:EP X pins σ Q u s:=⟨v,H,I,r,h⟩
 rcases l with⟨hk,hm⟩|⟨hk,c,hc,hcell⟩
 ·exact wpAny_Name (wpAny_loadName_local I.ok.kind hk hn hm fin) hd
 ·rcases hk with hk|hk
  ·exact wpAny_Name (wpAny_loadName_cell I.ok.kind hk hc hcell fin) hd
  ·exact wpAny_Name (wpAny_loadName_free I.ok.kind hk hc hcell fin hcd) hd
theorem qb {i j pos}:PE X (.Constant (.int i) j pos) (tC (.int i)):=fun _ _ _ H _ I h=>wpAny_Constant_int ⟨.int i,H,I.tok _,⟨_,rfl⟩,h⟩
theorem q1g {b j pos}:PE X (.Constant (.bool b) j pos) (tC (.bl b)):=fun _ _ _ H _ I h=>Constant_bool ⟨.bl b,H,I,rfl,h⟩
theorem q8p {j pos}:PE X (.Constant .none j pos) (tC .non):=fun _ _ _ H _ I h=>Constant_none ⟨.non,H,I,rfl,h⟩
theorem qL {x j pos}:PE X (.Constant (.str x) j pos) (tC (.str x)):=fun _ _ _ H _ I h=>Calls.Constant_str ⟨.str x,H,I.tok _,⟨_,rfl⟩,h⟩
def Gl (X:Cx)(x:Str):Prop:=X.env.kindOf x=some .globalImplicit
theorem q46 {E:Value->Shared->Prop}{pins:List (Addr×Obj)}{s:Shared}{σ:St}{H:Hp}{x:Str}{u:Value}{pos:Pos}{Q:Value->Shared->Prop}(I:Inv X pins σ H s)(hg:Gl X x)(hm:X.mg x=some u)(h:Q u s)
  (hd:(x==("__debug__":Str))=false:=by decide):wpAny (model X.prog X.w) X.A (eval (.Name x pos) X.env) Q E s:=
 zce I.ok.kind hg (Calls.loadGlobal_global (by rw[I.ok.glob];exact I.mod.glob.keeps I.bk) hm h) hd
theorem q47 {E:Value->Shared->Prop}{pins:List (Addr×Obj)}{s:Shared}{σ:St}{H:Hp}{x:Str}{u:Value}{pos:Pos}{Q:Value->Shared->Prop}(I:Inv X pins σ H s)(hg:Gl X x)(hm:X.mg x=none)(hv:bootBuiltins x=some u)(h:Q u s)
  (hn:x≠"__name__":=by decide)(hd:(x==("__debug__":Str))=false:=by decide):wpAny (model X.prog X.w) X.A (eval (.Name x pos) X.env) Q E s:=by
 obtain⟨mb,h1,h2⟩:=I.mod.blt
 exact zce I.ok.kind hg (Calls.loadGlobal_builtin (by rw[I.ok.glob];exact I.mod.glob.keeps I.bk) hm (by rw[I.ok.blt];exact h1.keeps I.bk) ((h2 x hn).trans hv) h) hd
theorem qt {x:Str}{v:V}{u:Value}{pos:Pos}(hg:Gl X x)(hm:X.mg x=some u)(r:RelV v u)(hd:(x==("__debug__":Str))=false:=by decide):PE X (.Name x pos) (tC v):=
 fun _ _ _ H _ I h=>q46 I hg hm ⟨v,H,I,r,h⟩ hd
theorem q6t {x:Str}{v:V}{u:Value}{pos:Pos}(hg:Gl X x)(hm:X.mg x=none)(hv:bootBuiltins x=some u)(r:RelV v u)(hn:x≠"__name__":=by decide)(hd:(x==("__debug__":Str))=false:=by decide):PE X (.Name x pos) (tC v):=
 fun _ _ _ H _ I h=>q47 I hg hm hv ⟨v,H,I,r,h⟩ hn hd
variable {a b:Expr}{ta tb:TE}{pos:Pos}
def PC (X:Cx)(op:CmpOp)(a b:Expr)(t:TE):Prop:=
 ∀(pins:List (Addr×Obj)) (s:Shared) (σ:St) (H:Hp) (Q:VK),Inv X pins σ H s->t σ H Q->
  wpAny (model X.prog X.w) X.A (eval a X.env) (fun v s₁=>wpAny (model X.prog X.w) X.A (eval b X.env) (fun u s₂=>wpAny (model X.prog X.w) X.A (compareOp op v u) (EP X pins σ Q) X.xe s₂) X.xe s₁) X.xe s
theorem q75 (b:Expr){op:CmpOp}(h:op≠ .In)(h2:op≠ .NotIn):behindInMarks op b=false:=by
 have e1:(op==CmpOp.In)=false:=by cases op<;>first|rfl|exact absurd rfl h
 have e2:(op==CmpOp.NotIn)=false:=by cases op<;>first|rfl|exact absurd rfl h2
 cases b<;>simp[behindInMarks,e1,e2]
def tIsN (ta:TE):TE:=fun σ H Q=>ta σ H fun x H1=>Q (.bl (decide (x= .non))) H1
def tNotN (ta:TE):TE:=fun σ H Q=>ta σ H fun x H1=>Q (.bl (!decide (x= .non))) H1
theorem RelV.none_iff {x:V}{v:Value}(r:RelV x v):(v==Value.none)=decide (x= .non):=by
 cases x with
 |non=>cases r;rfl
 |bl _=>cases r;rfl
 |int _=>obtain⟨t,rfl⟩:=r;rfl
 |str _=>obtain⟨t,rfl⟩:=r;rfl
 |byt _=>obtain⟨t,rfl⟩:=r;rfl
 |flt _=>obtain⟨t,rfl⟩:=r;rfl
 |ref _=>cases r;rfl
 |ty _=>cases r;rfl
theorem pc_isN {j pos'}(ha:PE X a ta):PC X .Is a (.Constant .none j pos') (tIsN ta):=by
 intro pins s σ H Q I h
 refine thn (ha pins s σ H _ I h) fun v s1 ⟨x,H1,I1,r1,q1⟩=>?_
 exact Constant_none (is_none_gen ⟨.bl _,H1,I1,by rw[r1.none_iff];rfl,q1⟩)
theorem q8q {j pos'}(ha:PE X a ta):PC X .IsNot a (.Constant .none j pos') (tNotN ta):=by
 intro pins s σ H Q I h
 refine thn (ha pins s σ H _ I h) fun v s1 ⟨x,H1,I1,r1,q1⟩=>?_
 exact Constant_none (isnot_none_gen ⟨.bl _,H1,I1,by rw[r1.none_iff];rfl,q1⟩)
def tB (t:TE):TT:=fun σ H Q=>t σ H fun x H1=>∃c,x= .bl c/\Q c H1
theorem qb1 {op:CmpOp}{t:TE}(h:PC X op a b t)(h1:behindInMarks op b=false:=by first|exact q75 _ (by decide) (by decide)|rfl):PE X (.Compare a [op] [b] pos) t:=fun pins s σ H Q I hw=>wpAny_Compare1 (h pins s σ H Q I hw) h1
theorem q2D {op:CmpOp}{t:TE}(h:PC X op a b t)(h1:behindInMarks op b=false:=by first|exact q75 _ (by decide) (by decide)|rfl):PT X (.Compare a [op] [b] pos) (tB t):=by
 intro pins s σ H Q I hw
 refine wpAny_isTrue_Compare1 (thn (h pins s σ H _ I hw) fun v s1 h1=>thn h1 fun u s2 h2=>thn h2 fun c s3 ⟨x,H1,I1,r1,q1⟩=>?_) h1
 obtain⟨d,rfl,q⟩:=q1
 cases r1
 exact zaM ⟨H1,I1,q⟩
theorem q14 {e:Expr}{t:TE}(h:PE X e t)(he:∀whole,isTrue e X.env whole=(do let v<-whole;standAt e.pos;holding [v] (truthy v)):=by intro _;rfl):PT X e (tB t):=by
 intro pins s σ H Q I hw
 refine isTrue_plain (thn (h pins s σ H _ I hw) fun v s1 ⟨x,H1,I1,r1,q1⟩=>?_) (he _)
 obtain⟨d,rfl,q⟩:=q1
 cases r1
 exact zaM ⟨H1,I1,q⟩
variable {tA tB':TT}{rest:List Expr}
def tAnd (t u:TT):TT:=fun σ H Q=>t σ H fun c H1=>if c=true then u σ H1 Q else Q false H1
def tOr (t u:TT):TT:=fun σ H Q=>t σ H fun c H1=>if c=true then Q true H1 else u σ H1 Q
def tNot (t:TT):TT:=fun σ H Q=>t σ H fun c H1=>Q (!c) H1
theorem q1x (ha:PT X a tA):PW X (.BoolOp .And [a] pos) tA:=by
 intro wh pins s σ H Q I h
 refine isTrue_and (thn (ha pins s σ H Q I h) fun c s1 e=>?_)
 cases c with
 |true=>exact isTrue_and_nil e
 |false=>exact e
theorem q2f (ha:PT X a tA):PW X (.BoolOp .Or [a] pos) tA:=by
 intro wh pins s σ H Q I h
 refine isTrue_or (thn (ha pins s σ H Q I h) fun c s1 e=>?_)
 cases c with
 |false=>exact isTrue_or_nil e
 |true=>exact e
theorem q2B (ha:PT X a tA)(hb:PW X (.BoolOp .And (b::rest) pos) tB'):PW X (.BoolOp .And (a::b::rest) pos) (tAnd tA tB'):=by
 intro wh pins s σ H Q I h
 refine isTrue_and (thn (ha pins s σ H _ I h) fun c s1 ⟨H1,I1,q1⟩=>?_)
 cases c with
 |true=>exact hb wh pins s1 σ H1 Q I1 q1
 |false=>exact⟨H1,I1,q1⟩
theorem q33 (ha:PT X a tA)(hb:PW X (.BoolOp .Or (b::rest) pos) tB'):PW X (.BoolOp .Or (a::b::rest) pos) (tOr tA tB'):=by
 intro wh pins s σ H Q I h
 refine isTrue_or (thn (ha pins s σ H _ I h) fun c s1 ⟨H1,I1,q1⟩=>?_)
 cases c with
 |true=>exact⟨H1,I1,q1⟩
 |false=>exact hb wh pins s1 σ H1 Q I1 q1
theorem q2C (ha:PT X a tA):PT X (.UnaryOp .Not a pos) (tNot tA):=by
 intro pins s σ H Q I h
 exact isTrue_not (ha pins s σ H (fun c H1=>Q (!c) H1) I h)
def tAndV (ta tb:TE):TE:=fun σ H Q=>ta σ H fun x H1=>∃c,x= .bl c/\if c=true then tb σ H1 Q else Q (.bl false) H1
def tOrV (ta tb:TE):TE:=fun σ H Q=>ta σ H fun x H1=>∃c,x= .bl c/\if c=true then Q (.bl true) H1 else tb σ H1 Q
def tNotV (ta:TE):TE:=fun σ H Q=>ta σ H fun x H1=>∃c,x= .bl c/\Q (.bl (!c)) H1
theorem q27 {op}{t:TE}(h:PE X a t):PE X (.BoolOp op [a] pos) t:=fun pins s σ H Q I hw=>BoolOp_one (h pins s σ H Q I hw)
theorem q1C (ha:PE X a ta)(hb:PE X (.BoolOp .And (b::rest) pos) tb):PE X (.BoolOp .And (a::b::rest) pos) (tAndV ta tb):=by
 intro pins s σ H Q I h
 refine BoolOp_and (thn (ha pins s σ H _ I h) fun v s1 ⟨x,H1,I1,r1,q1⟩=>?_)
 obtain⟨c,rfl,q1⟩:=q1
 cases r1
 refine zaM ?_
 cases c with
 |true=>exact hb pins s1 σ H1 Q I1 q1
 |false=>exact⟨.bl false,H1,I1,rfl,q1⟩
theorem q9Q (ha:PE X a ta)(hb:PE X (.BoolOp .Or (b::rest) pos) tb):PE X (.BoolOp .Or (a::b::rest) pos) (tOrV ta tb):=by
 intro pins s σ H Q I h
 refine BoolOp_or (thn (ha pins s σ H _ I h) fun v s1 ⟨x,H1,I1,r1,q1⟩=>?_)
 obtain⟨c,rfl,q1⟩:=q1
 cases r1
 refine zaM ?_
 cases c with
 |false=>exact hb pins s1 σ H1 Q I1 q1
 |true=>exact⟨.bl true,H1,I1,rfl,q1⟩
theorem pe_not (ha:PE X a ta):PE X (.UnaryOp .Not a pos) (tNotV ta):=by
 intro pins s σ H Q I h
 refine UnaryOp_ (thn (ha pins s σ H _ I h) fun v s1 ⟨x,H1,I1,r1,q1⟩=>?_)
 obtain⟨c,rfl,q1⟩:=q1
 cases r1
 exact not_of (zaM ⟨.bl (!c),H1,I1,rfl,q1⟩)
def tIf (t:TT)(ta tb:TE):TE:=fun σ H Q=>t σ H fun c H1=>if c=true then ta σ H1 Q else tb σ H1 Q
theorem q70 {c:Expr}(hc:PT X c tA)(ha:PE X a ta)(hb:PE X b tb):PE X (.IfExp c a b pos) (tIf tA ta tb):=by
 intro pins s σ H Q I h
 refine wpAny_IfExp (thn (hc pins s σ H _ I h) fun d s1 ⟨H1,I1,q1⟩=>?_)
 cases d with
 |true=>exact ha pins s1 σ H1 Q I1 q1
 |false=>exact hb pins s1 σ H1 Q I1 q1
end
def SqL (K:W.Frag)(H:Hp)(a:Addr)(xs:List V):Prop:=
 Rd H a (.lst xs)\/
  ∃(o:Obj) (its:Array Value) (n:Nat),K.lookup a=some o/\o.cls= .type "list"/\o.dict=none/\o.data= .seq its n/\its.size<=sizeLine/\Vals xs its.toList
def SqT (K:W.Frag)(H:Hp)(a:Addr)(xs:List V):Prop:=
 Rd H a (.tup xs)\/
  ∃(o:Obj) (its:Array Value) (n:Nat),K.lookup a=some o/\o.cls= .type "tuple"/\o.data= .seq its n/\its.size<=sizeLine/\Vals xs its.toList
def absV:Value->Option V
 | .none=>some .non
 | .bool b=>some (.bl b)
 | .int i _=>some (.int i)
 | .str x _=>some (.str x)
 | .bytes b _=>some (.byt b)
 | .float b _=>some (.flt b)
 | .ref a=>some (.ref a)
 | .type n=>some (.ty n)
 |_=>none
theorem RelV.abs {x:V}{u:Value}(r:RelV x u):absV u=some x:=by
 cases x with
 |non=>cases r;rfl
 |bl _=>cases r;rfl
 |int _=>obtain⟨t,rfl⟩:=r;rfl
 |str _=>obtain⟨t,rfl⟩:=r;rfl
 |byt _=>obtain⟨t,rfl⟩:=r;rfl
 |flt _=>obtain⟨t,rfl⟩:=r;rfl
 |ref _=>cases r;rfl
 |ty _=>cases r;rfl
theorem RelV.inj {x y:V}{u:Value}(r:RelV x u)(q:RelV y u):x=y:=zD (r.abs.symm.trans q.abs)
theorem Vals.inj:∀{xs ys:List V} {us:List Value},Vals xs us->Vals ys us->xs=ys
 |_,_,_,.nil,.nil=>rfl
 |_,_,_,.cons r t,.cons r' t'=>by rw[r.inj r',Vals.inj t t']
section
variable {X:Cx}{pins:List (Addr×Obj)}{σ:St}{H:Hp}{s:Shared}{a:Addr}{xs ys:List V}
theorem SqL.of {K:W.Frag}(h:H a=some (.lst xs)):SqL K H a xs:= .inl (.inl h)
theorem SqT.of {K:W.Frag}(h:H a=some (.tup xs)):SqT K H a xs:= .inl (.inl h)
theorem Inv.list (I:Inv X pins σ H s)(h:SqL X.K H a xs):∃its:List Value,Vals xs its/\PlainL s.heap a its.toArray/\xs.length<=sizeLine:=by
 rcases h with h|⟨o,its,n,hk,hc,hd,hs,hz,r⟩
 ·obtain ⟨z,its,n,r,e⟩:=h.ok I.hok
  exact⟨its,r,⟨_,n,e,rfl,rfl,rfl⟩,z⟩
 ·refine ⟨its.toList,r,⟨o,n,I.kIn a o hk,hc,hd,by simpa using hs⟩,?_⟩
  have e:=r.length
  simp only[Array.length_toList] at e
  omega
theorem Inv.tuple (I:Inv X pins σ H s)(h:SqT X.K H a xs):∃its:List Value,Vals xs its/\IsTup s.heap a its.toArray/\xs.length<=sizeLine:=by
 rcases h with h|⟨o,its,n,hk,hc,hs,hz,r⟩
 ·obtain ⟨z,its,r,p⟩:=h.ok I.hok
  exact⟨its,r,p,z⟩
 ·refine ⟨its.toList,r,⟨o,I.kIn a o hk,hc,n,by simpa using hs⟩,?_⟩
  have e:=r.length
  simp only[Array.length_toList] at e
  omega
theorem Inv.list_inj (I:Inv X pins σ H s)(h:SqL X.K H a xs)(h':SqL X.K H a ys):xs=ys:=by
 obtain⟨its,r,⟨o,n,e,_,_,d⟩,_⟩:=I.list h
 obtain⟨its',r',⟨o',n',e',_,_,d'⟩,_⟩:=I.list h'
 rw[e] at e';cases e'
 rw[d] at d'
 injection d' with d1 _
 have:its=its':=by simpa using zM Array.toList d1
 subst this
 exact r.inj r'
theorem Inv.tuple_inj (I:Inv X pins σ H s)(h:SqT X.K H a xs)(h':SqT X.K H a ys):xs=ys:=by
 obtain⟨its,r,⟨o,e,_,n,d⟩,_⟩:=I.tuple h
 obtain⟨its',r',⟨o',e',_,n',d'⟩,_⟩:=I.tuple h'
 rw[e] at e';cases e'
 rw[d] at d'
 injection d' with d1 _
 have:its=its':=by simpa using zM Array.toList d1
 subst this
 exact r.inj r'
end
abbrev Cx.wish (X:Cx)(E:Value->Shared->Prop):Cx:={X with xe:=E}
abbrev Cx.nox (X:Cx):Cx:=X.wish fun _ _=>False
theorem Cx.Ok.wish {X:Cx}(ok:X.Ok)(E:Value->Shared->Prop):(X.wish E).Ok:=
 ⟨ok.mod,ok.kind,ok.glob,ok.blt,ok.above,ok.inj,ok.has,ok.cab,ok.hd,ok.frames,ok.stk,ok.exf,ok.bs,ok.bsz,ok.noex,ok.exfs,ok.funs,ok.frf⟩
theorem Cx.Ok.unwish {X:Cx}{E:Value->Shared->Prop}(ok:(X.wish E).Ok):X.Ok:=
 ⟨ok.mod,ok.kind,ok.glob,ok.blt,ok.above,ok.inj,ok.has,ok.cab,ok.hd,ok.frames,ok.stk,ok.exf,ok.bs,ok.bsz,ok.noex,ok.exfs,ok.funs,ok.frf⟩
section
variable {X:Cx}{pins:List (Addr×Obj)}{σ:St}{H:Hp}{s:Shared}{E:Value->Shared->Prop}
theorem Inv.wish (I:Inv X pins σ H s)(E:Value->Shared->Prop):Inv (X.wish E) pins σ H s:=⟨I.ok.wish E,I.os,I.bare,I.base,I.loc,I.cell,I.free,I.freeC,I.pin,I.hok,I.len⟩
theorem Inv.unwish (I:Inv (X.wish E) pins σ H s):Inv X pins σ H s:=⟨I.ok.unwish,I.os,I.bare,I.base,I.loc,I.cell,I.free,I.freeC,I.pin,I.hok,I.len⟩
theorem SP.unwish {D:Ends}{f:Flow}{s':Shared}(h:SP (X.wish E) pins D f s'):SP X pins D f s':=by
 cases f with
 |next=>obtain⟨σ',H',I,q⟩:=h;exact⟨σ',H',I.unwish,q⟩
 |brk=>obtain⟨σ',H',I,q⟩:=h;exact⟨σ',H',I.unwish,q⟩
 |cont=>obtain⟨σ',H',I,q⟩:=h;exact⟨σ',H',I.unwish,q⟩
 |ret u=>obtain⟨v,σ',H',I,r,q⟩:=h;exact⟨v,σ',H',I.unwish,r,q⟩
theorem PSs.nox {st:List Stmt}{t:TS}(h:PSs X.nox st t):PSs X st t:=fun pins s σ H D I hw=>
 zak (h pins s σ H D (I.wish _) hw) (fun _ _ q=>q.unwish) fun _ _ z=>False.elim z
end
section
variable {X:Cx}{st:Stmt}{rest:List Stmt}{t u:TS}{e:Expr}{te:TE}{pos:Pos}
def tNext:TS:=fun D σ H=>D.nx σ H
def tSeq (t u:TS):TS:=fun D σ H=>t {D with nx:=u D} σ H
theorem qu:PSs X [] tNext:=fun _ _ σ H _ I h=>zbQ ⟨σ,H,I,h⟩
theorem qe (h1:PS X st t)(h2:PSs X rest u):PSs X (st::rest) (tSeq t u):=by
 intro pins s σ H D I h
 refine wpAny_execs_cons (thn (h1 pins s σ H {D with nx:=u D} I h) fun f s1 q=>?_)
 cases f with
 |next=>
  obtain⟨σ',H',I',q⟩:=q
  exact h2 pins s1 σ' H' D I' q
 |ret v=>exact q
 |brk=>exact q
 |cont=>exact q
theorem qg (h1:PS X st t):PSs X [st] t:=by
 intro pins s σ H D I h
 refine wpAny_execs_cons (thn (h1 pins s σ H D I h) fun f s1 q=>?_)
 cases f with
 |next=>exact zbQ q
 |ret v=>exact q
 |brk=>exact q
 |cont=>exact q
def tCont:TS:=fun D σ H=>D.ct σ H
theorem q6s:PS X (.Continue pos) tCont:=fun _ _ σ H _ I h=>wpAny_Continue ⟨σ,H,I,h⟩
theorem Inv.quiet {pins:List (Addr×Obj)}{σ:St}{H:Hp}{s:Shared}(I:Inv X pins σ H s):interactive X.env=false:=by simp[interactive,I.ok.kind]
def tDrop (te:TE):TS:=fun D σ H=>te σ H fun _ H1=>D.nx σ H1
theorem q07 (he:PE X e te)(hs:swapsWith e none pos.line X.env=pure false:=by rfl):PS X (.Expr e pos) (tDrop te):=by
 intro pins s σ H D I h
 exact wpAny_Expr_any (thn (he pins s σ H _ I h) fun v s1 ⟨x,H1,I1,r1,q1⟩=>⟨σ,H1,I1,q1⟩) I.quiet hs
def tRet (te:TE):TS:=fun D σ H=>te σ H D.rt
theorem qm (he:PE X e te):PS X (.Return (some e) pos) (tRet te):=by
 intro pins s σ H D I h
 exact wpAny_Return_some (thn (he pins s σ H _ I h) fun v s1 ⟨x,H1,I1,r1,q1⟩=>⟨x,σ,H1,I1,r1,q1⟩)
def tIfS (c:TT)(t u:TS):TS:=fun D σ H=>c σ H fun b H1=>if b=true then t D σ H1 else u D σ H1
theorem qN {c:Expr}{a b:List Stmt}{tc:TT}(hc:PT X c tc)(ha:PSs X a t)(hb:PSs X b u):PS X (.If c a b pos) (tIfS tc t u):=by
 intro pins s σ H D I h
 refine wpAny_If (thn (hc pins s σ H _ I h) fun d s1 ⟨H1,I1,q1⟩=>?_)
 cases d with
 |true=>exact ha pins s1 σ H1 D I1 q1
 |false=>exact hb pins s1 σ H1 D I1 q1
def tNever:TS:=fun _ _ _=>False
theorem q9K:PS X st tNever:=fun _ _ _ _ _ _ h=>h.elim
end
abbrev TG:=V->St->Hp->(St->Hp->Prop)->Prop
abbrev TGs:=List V->St->Hp->(St->Hp->Prop)->Prop
def PG (X:Cx)(target:Expr)(t:TG):Prop:=
 ∀(pins:List (Addr×Obj)) (s:Shared) (σ:St) (H:Hp) (v:V) (u:Value) (Q:St->Hp->Prop),Inv X pins σ H s->RelV v u->t v σ H Q->
  wpAny (model X.prog X.w) X.A (assign target X.env u) (fun _ s'=>∃σ' H',Inv X pins σ' H' s'/\Q σ' H') X.xe s
def PGs (X:Cx)(ts:List Expr)(t:TGs):Prop:=
 ∀(pins:List (Addr×Obj)) (s:Shared) (σ:St) (H:Hp) (vs:List V) (us:List Value) (Q:St->Hp->Prop),Inv X pins σ H s->Vals vs us->t vs σ H Q->
  wpAny (model X.prog X.w) X.A (assignInOrder ((assignEach ts X.env).map (·.2)) us) (fun _ s'=>∃σ' H',Inv X pins σ' H' s'/\Q σ' H') X.xe s
abbrev TSet:=V->V->V->Hp->(Hp->Prop)->Prop
def PSet (X:Cx)(t:TSet):Prop:=
 ∀(pins:List (Addr×Obj)) (s:Shared) (σ:St) (H:Hp) (o i v:V) (ov iv u:Value) (Q:Hp->Prop),Inv X pins σ H s->RelV o ov->RelV i iv->RelV v u->t o i v H Q->
  wpAny (model X.prog X.w) X.A (setItem ov iv u) (fun _ s'=>∃H',Inv X pins σ H' s'/\Q H') X.xe s
abbrev TIp:=V->V->Hp->VK->Prop
def PIp (X:Cx)(op:Operator)(t:TIp):Prop:=
 ∀(pins:List (Addr×Obj)) (s:Shared) (σ:St) (H:Hp) (x y:V) (v u:Value) (Q:VK),Inv X pins σ H s->RelV x v->RelV y u->t x y H Q->
  wpAny (model X.prog X.w) X.A (inplaceOp op v u) (EP X pins σ Q) X.xe s
section
variable {X:Cx}{pos:Pos}
def qat (i:Nat):TG:=fun v σ H Q=>Q (σ.set i (some v)) H
theorem qk {i:Nat}{x:Str}(hN:X.N.Nodup)(hi:X.N[i]? =some x)(hx:Loc X.env.scope x)(hf:X.fn x=true\/X.env.scope.names.lookup x=some .local:=by first|exact .inl rfl|exact .inr rfl|assumption):PG X (.Name x pos) (qat i):=by
 intro pins s σ H v u Q I r h
 exact wpAny_assign_Name (q6P I hN hi hx r (fun s' I'=>⟨_,H,I',h⟩) hf)
def gNil:TGs:=fun vs σ H Q=>vs=[]/\Q σ H
def gCons (t:TG)(u:TGs):TGs:=fun vs σ H Q=>∃v r,vs=v::r/\t v σ H fun σ' H'=>u r σ' H' Q
theorem q0f:PGs X [] gNil:=by
 intro pins s σ H vs us Q I r h
 obtain⟨e,h⟩:=h
 subst e
 cases r
 exact assignInOrder_nil ⟨σ,H,I,h⟩
theorem qr {e:Expr}{es:List Expr}{t:TG}{u:TGs}(h1:PG X e t)(h2:PGs X es u)
  (hs:(assignEach (e::es) X.env).map (·.2)=assign e X.env::(assignEach es X.env).map (·.2):=by rfl):PGs X (e::es) (gCons t u):=by
 intro pins s σ H vs us Q I r h
 obtain⟨v,vr,e1,h⟩:=h
 subst e1
 cases r with
 |cons r rr=>
  rw[hs]
  refine assignInOrder_cons (thn (h1 pins s σ H _ _ _ I r h) fun _ s1 ⟨σ1,H1,I1,q1⟩=>?_)
  exact h2 pins s1 σ1 H1 _ _ Q I1 rr q1
def gTup (K:W.Frag)(n:Nat)(t:TGs):TG:=fun v σ H Q=>∃a xs,v= .ref a/\SqT K H a xs/\xs.length=n/\t xs σ H Q
theorem pg_tup {es:List Expr}{k:Nat}{t:TGs}{n:Nat}(hc:X.calm=true)(h:PGs X es t)
  (hn:(assignEach es X.env).length=n:=by rfl)(hst:(assignEach es X.env).findIdx? (·.1)=none:=by rfl):PG X (.Tuple es k pos) (gTup X.K n t):=by
 intro pins s σ H v u Q I r hw
 obtain⟨a,xs,e1,hq,hl,hw⟩:=hw
 subst e1
 cases r
 obtain⟨its,rv,ht,hz⟩:=I.tuple hq
 refine assign_Tuple_tuple (I.ok.hd hc) ht (by simp[hn,<-hl,rv.length]) hst fun h' hx=>?_
 have I1:Inv X pins σ H {s with heap:=h'}:=I.kept (t':=s.toks) fun b o e=>hx b o (zB (zt e)) e
 exact h pins _ σ H xs _ Q I1 (by simpa using rv) hw
def tAsg (te:TE)(g:TG):TS:=fun D σ H=>te σ H fun x H1=>g x σ H1 D.nx
theorem q4x {tg e:Expr}{te:TE}{g:TG}(he:PE X e te)(hg:PG X tg g)(hs:swapsWithSole [tg] e pos.line X.env=pure false:=by rfl)(hw:swappedStores [tg] e X.env=pure none:=by rfl)
  (h1:(assignEach [tg] X.env).map (·.2)=[assign tg X.env]:=by rfl):PS X (.Assign [tg] e pos) (tAsg te g):=by
 intro pins s σ H D I h
 refine wpAny_Assign_stores (thn (he pins s σ H _ I h) fun v s1 ⟨x,H1,I1,r1,q1⟩=>?_) hs hw
 rw[h1]
 exact thn (hg pins s1 σ H1 x v _ I1 r1 q1) fun _ s2 q=>q
theorem qv {i:Nat}{x:Str}{e:Expr}{te:TE}{pos':Pos}(hN:X.N.Nodup)(hi:X.N[i]? =some x)(hx:Loc X.env.scope x)(he:PE X e te)(hs:swapsWith e (some (.Name x pos')) pos.line X.env=pure false:=by rfl)(hf:X.fn x=true\/X.env.scope.names.lookup x=some .local:=by first|exact .inl rfl|exact .inr rfl|assumption):
  PS X (.Assign [.Name x pos'] e pos) (tAsg te (qat i)):=by
 intro pins s σ H D I h
 refine wpAny_Assign_Name (thn (he pins s σ H _ I h) fun v s1 ⟨y,H1,I1,r1,q1⟩=>?_) hs
 exact q6P I1 hN hi hx r1 (fun s2 I2=>⟨_,H1,I2,q1⟩) hf
def tAugS (to ti te:TE)(tget:V->V->Hp->VK->Prop)(tip:TIp)(tset:TSet):TS:=fun D σ H=>to σ H fun o H1=>ti σ H1 fun i H2=>tget o i H2 fun x H3=>te σ H3 fun y H4=>tip x y H4 fun z H5=>tset o i z H5 fun H6=>D.nx σ H6
def PGet (X:Cx)(t:V->V->Hp->VK->Prop):Prop:=
 ∀(pins:List (Addr×Obj)) (s:Shared) (σ:St) (H:Hp) (o i:V) (ov iv:Value) (Q:VK),Inv X pins σ H s->RelV o ov->RelV i iv->t o i H Q->
  wpAny (model X.prog X.w) X.A (getItem ov iv) (EP X pins σ Q) X.xe s
theorem q8m {o i e:Expr}{to ti te:TE}{tget:V->V->Hp->VK->Prop}{tip:TIp}{tset:TSet}{op:Operator}{tpos:Pos}(ho:PE X o to)(hi:PE X i ti)(hg:PGet X tget)(he:PE X e te)(hp:PIp X op tip)(hs:PSet X tset)
  (ha:∀ov iv new,augStore i ov iv new=(do holding [new,ov,iv] (setItem ov iv new);release [new,ov,iv] [];pure .next):=by intros;rfl):PS X (.AugAssign (.Subscript o i tpos) op e pos) (tAugS to ti te tget tip tset):=by
 intro pins s σ H D I h
 refine wpAny_AugAssign_SubscriptAny (thn (ho pins s σ H _ I h) fun ov s1 ⟨x1,H1,I1,r1,q1⟩=>?_) ha
 refine thn (hi pins s1 σ H1 _ I1 q1) fun iv s2 ⟨x2,H2,I2,r2,q2⟩=>?_
 refine thn (hg pins s2 σ H2 x1 x2 ov iv _ I2 r1 r2 q2) fun old s3 ⟨x3,H3,I3,r3,q3⟩=>?_
 refine thn (he pins s3 σ H3 _ I3 q3) fun v s4 ⟨x4,H4,I4,r4,q4⟩=>?_
 refine thn (hp pins s4 σ H4 x3 x4 old v _ I4 r3 r4 q4) fun new s5 ⟨x5,H5,I5,r5,q5⟩=>?_
 exact thn (hs pins s5 σ H5 x1 x2 x5 ov iv new _ I5 r1 r2 r5 q5) fun _ s6 ⟨H6,I6,q6⟩=>⟨σ,H6,I6,q6⟩
def ipI (f:Int->Int->Int):TIp:=fun x y H Q=>∃i j,x= .int i/\y= .int j/\Q (.int (f i j)) H
theorem ip_add:PIp X .Add (ipI fun i j=>i+j):=by
 intro pins s σ H x y v u Q I r1 r2 h
 obtain⟨i,j,e1,e2,q⟩:=h
 subst e1;subst e2
 obtain⟨t,rfl⟩:=r1
 obtain⟨t',rfl⟩:=r2
 exact iadd_int ⟨.int _,H,I.tok _,⟨_,rfl⟩,q⟩
theorem ip_sub:PIp X .Sub (ipI fun i j=>i - j):=by
 intro pins s σ H x y v u Q I r1 r2 h
 obtain⟨i,j,e1,e2,q⟩:=h
 subst e1;subst e2
 obtain⟨t,rfl⟩:=r1
 obtain⟨t',rfl⟩:=r2
 exact isub_int ⟨.int _,H,I.tok _,⟨_,rfl⟩,q⟩
end
section
variable {X:Cx}{pos:Pos}
def qaJ (c:TT)(tb:TS):TS:=fun D σ H=>∃W:Nat->St->Hp->Prop,(∃m,W m σ H)/\∀m σ H,W m σ H->
 c σ H fun b H1=>if b=true then∃N:St->Hp->Prop,(∀σ' H',N σ' H'->∃m',m'<m/\W m' σ' H')/\tb {D with nx:=N,ct:=N,bk:=D.nx} σ H1 else D.nx σ H1
theorem q9J {c:Expr}{body:List Stmt}{tc:TT}{tb:TS}(hp:PassesOwn (model X.prog X.w) X.A X.env X.xe)(hc:PT X c tc)(hb:PSs X body tb):PS X (.While c body [] pos) (qaJ tc tb):=by
 intro pins s σ H D I h
 obtain⟨W,⟨m0,w0⟩,turn⟩:=h
 refine wpAny_While (codeAny_whileLoop (fun n s'=>∃σ' H',Inv X pins σ' H' s'/\W n σ' H') ?_ m0 ⟨σ,H,I,w0⟩)
 rintro n s1 ⟨σ1,H1,I1,w1⟩
 refine zaU hp (thn (hc pins s1 σ1 H1 _ I1 (turn n σ1 H1 w1)) fun b s2 ⟨H2,I2,q2⟩=>?_)
 cases b with
 |true=>
  obtain⟨N,hN,q2⟩:=q2
  rw[zj rfl]
  refine zaU hp (thn (hb pins s2 σ1 H2 _ I2 q2) fun f s3 q3=>?_)
  cases f with
  |next=>
   obtain⟨σ3,H3,I3,n3⟩:=q3
   obtain⟨m',hm,w3⟩:=hN σ3 H3 n3
   exact⟨m',hm,σ3,H3,I3,w3⟩
  |cont=>
   obtain⟨σ3,H3,I3,n3⟩:=q3
   obtain⟨m',hm,w3⟩:=hN σ3 H3 n3
   exact⟨m',hm,σ3,H3,I3,w3⟩
  |brk=>exact q3
  |ret v=>exact q3
 |false=>
  rw[zd zp]
  exact zbQ ⟨σ1,H2,I2,q2⟩
end
structure It where
 go:Nat->Hp->Prop
 yld:Nat->Hp->V->Hp->Prop
 stop:Nat->Hp->Prop
def FpOk (X:Cx)(pins:List (Addr×Obj))(H:Hp)(b:Addr):Prop:=
 H b=none/\b≠X.env.locals/\b∉X.fs/\(b∈X.ex\/X.s₀.heap.objs.size<=b)/\(∀x c,X.env.cells.lookup x=some c->c≠b)/\∀p∈X.pn++pins,p.1≠b
theorem Inv.fpOk {X:Cx}{pins:List (Addr×Obj)}{σ:St}{H H':Hp}{s:Shared}{b:Addr}(I:Inv X pins σ H s)(hb:s.heap.objs.size<=b)(hn:H' b=none):FpOk X pins H' b:=by
 refine⟨hn,Nat.ne_of_gt (zK I.lt hb),I.nofs hb,.inr (zab I.sz hb),fun x c e z=>?_,fun p hp z=>?_⟩
 ·obtain ⟨v,q⟩:=I.cell x c e
  exact absurd (zK q.lt (by rw[z];exact hb)) (zaW _)
 ·exact absurd (zK (zt (I.pin p hp).1) (by rw[z];exact hb)) (zaW _)
structure Turn (P:Program)(w:World)(K:W.Frag)(tg:Expr)(J:It)(fp:List Addr)(it:Addr)(tn:Nat->Heap->Prop):Prop where
 mem:it∈fp
 obj:∀i h,tn i h->∀b∈fp,∃o,h.get? b=some o/\∀v,o.data≠ .cell v
 keep:∀i h h',tn i h->(∀b∈fp,∀o,h.get? b=some o->h'.get? b=some o)->tn i h'
 item:∀(X:Cx),X.prog=P->X.w=w->X.K=K->X.calm=true->∀(i:Nat) (pins:List (Addr×Obj)) (s:Shared) (σ:St) (H:Hp) (E:Value->Shared->Prop),Inv X pins σ H s->(∀b∈fp,FpOk X pins H b)->tn i s.heap->J.go i H->
  wpAny (model P w) X.A (pyNext (.ref it)) (fun r s1=>∃u,r=some u/\
   wpAny (model P w) X.A (letOwnedTupleGo tg (.ref it) u) (fun _ s2=>∃x H',Inv X pins σ H' s2/\RelV x u/\J.yld i H x H'/\tn (i+1) s2.heap/\∀b∈fp,H' b=none) E s1) E s
 done:∀(X:Cx),X.prog=P->X.w=w->X.K=K->X.calm=true->∀(i:Nat) (pins:List (Addr×Obj)) (s:Shared) (σ:St) (H:Hp) (E:Value->Shared->Prop),Inv X pins σ H s->(∀b∈fp,FpOk X pins H b)->tn i s.heap->J.stop i H->
  wpAny (model P w) X.A (pyNext (.ref it)) (fun r s1=>r=none/\Inv X pins σ H s1) E s
 self:∀(A:Around) (i:Nat) (s:Shared) (Q:Value->Shared->Prop) (E:Value->Shared->Prop),tn i s.heap->Q (.ref it) s->wpAny (model P w) A (pyIter (.ref it)) Q E s
abbrev TI:=St->Hp->(It->Hp->Prop)->Prop
def PIE (X:Cx)(pins:List (Addr×Obj))(σ:St)(tg:Expr)(R:It->Hp->Prop)(itv:Value)(s2:Shared):Prop:=
 ∃(it:Addr) (fp:List Addr) (tn:Nat->Heap->Prop) (J:It) (H':Hp),itv= .ref it/\Inv X pins σ H' s2/\Turn X.prog X.w X.K tg J fp it tn/\tn 0 s2.heap/\(∀b∈fp,FpOk X pins H' b)/\R J H'
def PI (X:Cx)(tg iter:Expr)(wi:TI):Prop:=
 ∀(pins:List (Addr×Obj)) (s:Shared) (σ:St) (H:Hp) (R:It->Hp->Prop),Inv X pins σ H s->wi σ H R->
  wpAny (model X.prog X.w) X.A (eval iter X.env) (fun v s1=>wpAny (model X.prog X.w) X.A (pyIter v) (PIE X pins σ tg R) X.xe s1) X.xe s
theorem go_of {M:Model}{A:Around}{E:Value->Shared->Prop}{s:Shared}{tg:Expr}{it:Addr}{u:Value}{o:Obj}{n:String}{vs:Array Value}{Q:Unit->Shared->Prop}(ho:s.heap.get? it=some o)(hc:o.cls= .type n)(hd:o.data= .fields vs)
  (hn:["enumerate","zip","dict_itemiterator","dict_reverseitemiterator","odict_iterator","itertools.zip_longest","itertools.pairwise"].contains n=false)(hQ:Q () s):wpAny M A (letOwnedTupleGo tg (.ref it) u) Q E s:=by
 unfold letOwnedTupleGo
 cases tg<;>first
  |exact zg hQ
  |(cases u<;>first
    |exact zg hQ
    |(refine yD (wpAny_load ho ?_)
      rw[hc,hd]
      show wpAny M A (if (["enumerate","zip","dict_itemiterator","dict_reverseitemiterator","odict_iterator","itertools.zip_longest","itertools.pairwise"].contains n&&vs[0]? ==some (rawInt _))=true then _ else _) Q E s
      rw[zd (by intro h;rw[hn,zaz] at h;cases h)]
      exact zg hQ))
def Itl (K:W.Frag)(a:Addr):It:=
 ⟨fun i H=>∃xs x,SqL K H a xs/\xs[i]? =some x,fun i H x H'=>H'=H/\∀xs,SqL K H a xs->xs[i]? =some x,fun i H=>∃xs,SqL K H a xs/\xs.length<=i⟩
def Itt (K:W.Frag)(a:Addr):It:=
 ⟨fun i H=>∃xs x,SqT K H a xs/\xs[i]? =some x,fun i H x H'=>H'=H/\∀xs,SqT K H a xs->xs[i]? =some x,fun i H=>∃xs,SqT K H a xs/\xs.length<=i⟩
def Itr (lo:Int)(n:Nat):It:=⟨fun i _=>i<n,fun i H x H'=>H'=H/\x= .int (lo+i),fun i _=>n<=i⟩
theorem q7W {P:Program}{w:World}{K:W.Frag}{tg:Expr}(a it:Addr):Turn P w K tg (Itl K a) [it] it (fun i h=>h.IsListIter it a i) where
 mem:=by simp
 obj:=fun i h st b hb=>by
  have e:b=it:=by simpa using hb
  subst e
  obtain⟨o,e,c,d⟩:=st
  exact⟨o,e,fun v z=>by rw[d] at z;cases z⟩
 keep:=fun i h h' st k=>st.at fun o e=>k it (by simp) o e
 item:=by
  intro X hP hw hK hc i pins s σ H E I hf st hg
  subst hP hw hK
  obtain⟨xs,x,hq,hx⟩:=hg
  obtain⟨its,rv,p,hz⟩:=I.list hq
  obtain⟨u,hu,ru⟩:=rv.get hx
  obtain⟨f0,f1,f2,f3,f4,f5⟩:=hf it (by simp)
  refine wpAny_pyNext_list_item st p.isList (x:=u) (by simpa using hu) fun h' st' sb=>?_
  have I1:Inv X pins σ H {s with heap:=h'}:=I.turned (t':=s.toks) (fun b o hb e=>(sb.2 b hb).trans e) f0 f1 f3 f4 f5
  obtain⟨o,e,c,d⟩:=id st'
  exact⟨u,rfl,go_of (s:={s with heap:=h'}) e c d (by decide) ⟨x,H,I1,ru,⟨rfl,fun ys hy=>by rw[I.list_inj hy hq];exact hx⟩,st',fun b hb=>(hf b hb).1⟩⟩
 done:=by
  intro X hP hw hK hc i pins s σ H E I hf st hg
  subst hP hw hK
  obtain⟨xs,hq,hx⟩:=hg
  obtain⟨its,rv,p,hz⟩:=I.list hq
  obtain⟨f0,f1,f2,f3,f4,f5⟩:=hf it (by simp)
  have hl:=rv.length
  exact wpAny_pyNext_list_end (I.ok.hd hc) st p.isList (by simp;omega) fun h' eb=>⟨rfl,I.turned (t':=s.toks) (fun b o hb e=>eb b o hb e) f0 f1 f3 f4 f5⟩
 self:=fun _ _ _ _ _ st h=>wpAny_pyIter_listiter st h
theorem q7o {P:Program}{w:World}{K:W.Frag}{tg:Expr}(a it:Addr):Turn P w K tg (Itt K a) [it] it (fun i h=>h.IsTupleIter it a i) where
 mem:=by simp
 obj:=fun i h st b hb=>by
  have e:b=it:=by simpa using hb
  subst e
  obtain⟨o,e,c,d⟩:=st
  exact⟨o,e,fun v z=>by rw[d] at z;cases z⟩
 keep:=fun i h h' st k=>st.at fun o e=>k it (by simp) o e
 item:=by
  intro X hP hw hK hc i pins s σ H E I hf st hg
  subst hP hw hK
  obtain⟨xs,x,hq,hx⟩:=hg
  obtain⟨its,rv,p,hz⟩:=I.tuple hq
  obtain⟨u,hu,ru⟩:=rv.get hx
  obtain⟨f0,f1,f2,f3,f4,f5⟩:=hf it (by simp)
  refine wpAny_pyNext_tuple_item st (show s.heap.IsTuple a its.toArray from p) (x:=u) (by simpa using hu) fun h' st' sb=>?_
  have I1:Inv X pins σ H {s with heap:=h'}:=I.turned (t':=s.toks) (fun b o hb e=>(sb.2 b hb).trans e) f0 f1 f3 f4 f5
  obtain⟨o,e,c,d⟩:=id st'
  exact⟨u,rfl,go_of (s:={s with heap:=h'}) e c d (by decide) ⟨x,H,I1,ru,⟨rfl,fun ys hy=>by rw[I.tuple_inj hy hq];exact hx⟩,st',fun b hb=>(hf b hb).1⟩⟩
 done:=by
  intro X hP hw hK hc i pins s σ H E I hf st hg
  subst hP hw hK
  obtain⟨xs,hq,hx⟩:=hg
  obtain⟨its,rv,p,hz⟩:=I.tuple hq
  obtain⟨f0,f1,f2,f3,f4,f5⟩:=hf it (by simp)
  have hl:=rv.length
  exact wpAny_pyNext_tuple_end (I.ok.hd hc) st (show s.heap.IsTuple a its.toArray from p) (by simp;omega) fun h' eb=>⟨rfl,I.turned (t':=s.toks) (fun b o hb e=>eb b o hb e) f0 f1 f3 f4 f5⟩
 self:=fun _ _ _ _ _ st h=>wpAny_pyIter_tupleiter st h
theorem q7p {P:Program}{w:World}{K:W.Frag}{tg:Expr}(it:Addr)(lo:Int)(n:Nat):Turn P w K tg (Itr lo n) [it] it (fun i h=>IsRangeIter h it (lo+(i:Nat)*1) ((n:Int) - (i:Nat)) 1) where
 mem:=by simp
 obj:=fun i h st b hb=>by
  have e:b=it:=by simpa using hb
  subst e
  exact⟨_,st,fun v z=>by
   have z':Data.fields _=Data.cell v:=z
   cases z'⟩
 keep:=fun i h h' st k=>k it (by simp) _ st
 item:=by
  intro X hP hw hK hc i pins s σ H E I hf st hg
  subst hP hw hK
  obtain⟨f0,f1,f2,f3,f4,f5⟩:=hf it (by simp)
  have W:=Walks.range (prog:=X.prog) (w:=X.w) (I.ok.hd hc) it lo 1 n
  refine W.item i s _ _ hg st fun v h' tk hv st' kk=>?_
  obtain⟨t,rfl⟩:=hv
  have I1:Inv X pins σ H {s with heap:=h',toks:=tk}:=I.turned (fun b o hb e=>kk b o (by simpa using hb) e) f0 f1 f3 f4 f5
  refine⟨_,rfl,go_of (s:={s with heap:=h',toks:=tk}) (n:="range_iterator") st' rfl rfl (by decide) ⟨.int (lo+i),H,I1,⟨t,?_⟩,⟨rfl,rfl⟩,st',fun b hb=>(hf b hb).1⟩⟩
  rw[Int.mul_one]
 done:=by
  intro X hP hw hK hc i pins s σ H E I hf st hg
  subst hP hw hK
  obtain⟨f0,f1,f2,f3,f4,f5⟩:=hf it (by simp)
  exact wpAny_pyNext_range_end (I.ok.hd hc) st (by have:n<=i:=hg;omega) fun h' eb=>⟨rfl,I.turned (t':=s.toks) (fun b o hb e=>eb b o hb e) f0 f1 f3 f4 f5⟩
 self:=fun _ _ _ _ _ st h=>wpAny_pyIter_rangeiter st h
section
variable {X:Cx}{tg:Expr}
def qca (K:W.Frag)(tl:TE):TI:=fun σ H R=>tl σ H fun x H1=>∃a,x= .ref a/\(∃xs,SqL K H1 a xs)/\R (Itl K a) H1
def iTup (K:W.Frag)(tl:TE):TI:=fun σ H R=>tl σ H fun x H1=>∃a,x= .ref a/\(∃xs,SqT K H1 a xs)/\R (Itt K a) H1
theorem qbC {l:Expr}{tl:TE}(hl:PE X l tl):PI X tg l (qca X.K tl):=by
 intro pins s σ H R I h
 refine thn (hl pins s σ H _ I h) fun v s1 ⟨x,H1,I1,r1,q1⟩=>?_
 obtain⟨a,e,⟨xs,hq⟩,q⟩:=q1
 subst e
 cases r1
 obtain⟨its,rv,p,hz⟩:=I1.list hq
 refine zck p.isList ?_
 refine⟨s1.heap.objs.size,[s1.heap.objs.size],_,_,H1,rfl,I1.kept (t':=s1.toks) fun b o e=>zo _ e,q7W a _,⟨_,zC _ rfl,rfl,rfl⟩,fun b hb=>?_,q⟩
 have e:b=s1.heap.objs.size:=by simpa using hb
 subst e
 exact I1.fpOk (zc _) (I1.hok.fresh (zc _))
theorem pi_tup {l:Expr}{tl:TE}(hl:PE X l tl):PI X tg l (iTup X.K tl):=by
 intro pins s σ H R I h
 refine thn (hl pins s σ H _ I h) fun v s1 ⟨x,H1,I1,r1,q1⟩=>?_
 obtain⟨a,e,⟨xs,hq⟩,q⟩:=q1
 subst e
 cases r1
 obtain⟨its,rv,p,hz⟩:=I1.tuple hq
 refine zbd (show s1.heap.IsTuple a its.toArray from p) ?_
 refine⟨s1.heap.objs.size,[s1.heap.objs.size],_,_,H1,rfl,I1.kept (t':=s1.toks) fun b o e=>zo _ e,q7o a _,⟨_,zC _ rfl,rfl,rfl⟩,fun b hb=>?_,q⟩
 have e:b=s1.heap.objs.size:=by simpa using hb
 subst e
 exact I1.fpOk (zc _) (I1.hok.fresh (zc _))
theorem q6Y {pins:List (Addr×Obj)}{σ:St}{H:Hp}{s:Shared}{R:It->Hp->Prop}{E:Value->Shared->Prop}{lo hi:Int}{t u v:Tok}{tk:Nat}(I:Inv X pins σ H s)(h1: -(2 ^ 62)<=lo)(h2:lo<2 ^ 62)(h3: -(2 ^ 62)<=hi)(h4:hi<2 ^ 62)
  (q:R (Itr lo (hi - lo).toNat) H):wpAny (model X.prog X.w) X.A (pyIter (.ref s.heap.objs.size)) (PIE X pins σ tg R) E {s with heap:=s.heap.push {cls:= .type "range",data:= .fields #[.int lo t,.int hi u,.int 1 v]},toks:=tk}:=by
 refine wpAny_pyIter_range (IsRange.new ..) (small_one h1 h2 h3 h4) ?_
 have I1:Inv X pins σ H {s with heap:=s.heap.push {cls:= .type "range",data:= .fields #[.int lo t,.int hi u,.int 1 v]},toks:=tk}:=I.kept fun b o e=>zo _ e
 refine⟨(s.heap.push {cls:= .type "range",data:= .fields #[.int lo t,.int hi u,.int 1 v]}).objs.size,[(s.heap.push {cls:= .type "range",data:= .fields #[.int lo t,.int hi u,.int 1 v]}).objs.size],_,_,H,rfl,
  I1.kept (t':=tk) fun b o e=>zo _ e,q7p _ lo (hi - lo).toNat,?_,fun b hb=>?_,q⟩
 ·have e1:lo+((0:Nat):Int)*1=lo:=by simp
  have e2:(((hi - lo).toNat:Nat):Int) - ((0:Nat):Int)=Builtin.Range.rangeSize lo hi 1:=by rw[rangeSize_one];split<;>omega
  show IsRangeIter _ _ (lo+((0:Nat):Int)*1) ((((hi - lo).toNat:Nat):Int) - ((0:Nat):Int)) 1
  rw[e1,e2]
  exact zC _ rfl
 ·have e:b=(s.heap.push {cls:= .type "range",data:= .fields #[.int lo t,.int hi u,.int 1 v]}).objs.size:=by simpa using hb
  subst e
  exact I1.fpOk (zc _) (I1.hok.fresh (zc _))
def iRng1 (ta:TA):TI:=fun σ H R=>ta σ H fun vs H1=>∃j:Int,vs=[.int j]/\ -(2 ^ 62)<=j/\j<2 ^ 62/\R (Itr 0 j.toNat) H1
def iRng2 (ta:TA):TI:=fun σ H R=>ta σ H fun vs H1=>∃i j:Int,vs=[.int i,.int j]/\(-(2 ^ 62)<=i/\i<2 ^ 62/\ -(2 ^ 62)<=j/\j<2 ^ 62)/\R (Itr i (j - i).toNat) H1
theorem q03 {a:Expr}{ta:TA}{p pos:Pos}(hg:Gl X "range")(hm:X.mg "range"=none)(ha:PA X [a] ta)(hs:starEach [a] X.env=[(false,eval a X.env)]:=by rfl):PI X tg (.Call (.Name "range" p) [a] [] pos) (iRng1 ta):=by
 intro pins s σ H R I h
 refine Call_ (q47 I hg hm boot_range (zaC (thn (ha pos pins s σ H _ I h) fun us s1 ⟨vs,H1,I1,r1,q1⟩=>?_) hs rfl))
 obtain⟨j,e,q1,q2,q⟩:=q1
 subst e
 cases r1 with
 |cons r rr=>
  cases rr
  obtain⟨t,rfl⟩:=r
  exact call_range_1 (q6Y I1 (by omega) (by omega) q1 q2 (by simpa using q))
theorem q5Q {a b:Expr}{ta:TA}{p pos:Pos}(hg:Gl X "range")(hm:X.mg "range"=none)(ha:PA X [a,b] ta)(hs:starEach [a,b] X.env=[(false,eval a X.env),(false,eval b X.env)]:=by rfl)(hs2:starEach [b] X.env=[(false,eval b X.env)]:=by rfl):
  PI X tg (.Call (.Name "range" p) [a,b] [] pos) (iRng2 ta):=by
 intro pins s σ H R I h
 refine Call_ (q47 I hg hm boot_range (zaC (thn (ha pos pins s σ H _ I h) fun us s1 ⟨vs,H1,I1,r1,q1⟩=>?_) (by rw[hs,hs2]) (by rw[hs2];rfl)))
 obtain⟨i,j,e,⟨q1,q2,q3,q4⟩,q⟩:=q1
 subst e
 cases r1 with
 |cons r rr=>
  cases rr with
  |cons r' rr=>
   cases rr
   obtain⟨t,rfl⟩:=r
   obtain⟨t',rfl⟩:=r'
   exact call_range_2 (q6Y I1 q1 q2 q3 q4 q)
def tFor (wi:TI)(g:TG)(tb:TS):TS:=fun D σ H=>wi σ H fun J H1=>∃W:Nat->Nat->St->Hp->Prop,(∃m,W 0 m σ H1)/\∀i m σ H,W i m σ H->
 (J.stop i H/\D.nx σ H)\/(J.go i H/\∃N:St->Hp->Prop,(∀σ' H',N σ' H'->∃m',m'<m/\W (i+1) m' σ' H')/\∀x H',J.yld i H x H'->g x σ H' fun σ2 H2=>tb {D with nx:=N,ct:=N,bk:=D.nx} σ2 H2)
def q5P (fp:List Addr)(h:Heap):List (Addr×Obj):=fp.filterMap fun b=>(h.get? b).map fun o=>(b,o)
theorem q2r {fp:List Addr}{h:Heap}{b:Addr}{o:Obj}(hb:b∈fp)(e:h.get? b=some o):(b,o)∈q5P fp h:=List.mem_filterMap.mpr ⟨b,hb,by rw[e];rfl⟩
theorem q8y {fp:List Addr}{h:Heap}{p:Addr×Obj}(hp:p∈q5P fp h):p.1∈fp/\h.get? p.1=some p.2:=by
 obtain⟨b,hb,e⟩:=List.mem_filterMap.mp hp
 cases q:h.get? b with
 |none=>rw[q] at e;cases e
 |some o=>
  rw[q] at e
  have e':(b,o)=p:=zD e
  subst e'
  exact⟨hb,q⟩
theorem Inv.pinned {pins:List (Addr×Obj)}{σ:St}{H:Hp}{s:Shared}{fp:List Addr}(I:Inv X pins σ H s)(hf:∀b∈fp,FpOk X pins H b)(ho:∀b∈fp,∃o,s.heap.get? b=some o/\∀v,o.data≠ .cell v):Inv X (pins++q5P fp s.heap) σ H s:=
 I.pins_of fun p hp=>(zr.mp hp).elim (fun z=>I.pin p (z9 _ z)) fun z=>by
  obtain⟨hb,e⟩:=q8y z
  obtain⟨f0,f1,f2,_⟩:=hf p.1 hb
  obtain⟨o,e',d⟩:=ho p.1 hb
  rw[e] at e';cases e'
  exact⟨e,f0,f1,f2,d⟩
theorem Inv.unpinned {pins pl:List (Addr×Obj)}{σ:St}{H:Hp}{s:Shared}(I:Inv X (pins++pl) σ H s):Inv X pins σ H s:=I.pins_of fun p hp=>I.pin p (z9 _ (za0 _ hp))
theorem q0z {iter:Expr}{body:List Stmt}{wi:TI}{g:TG}{tb:TS}{pos:Pos}(hp:PassesOwn (model X.prog X.w) X.A X.env X.xe)(hc:X.calm=true)(hi:PI X tg iter wi)(hg:PG X tg g)(hb:PSs X body tb)
  (hs:∀x,foldedSetIterable iter X.env x=pure x:=by intro _;rfl):PS X (.For tg iter body [] pos) (tFor wi g tb):=by
 intro pins s σ H D I h
 refine wpAny_For (thn (hi pins s σ H _ I h) fun v s1 h1=>thn h1 fun itv s2 h2=>?_) hs
 obtain⟨it,fp,tn,J,H2,e,I2,T,st2,f2,W,⟨m0,w0⟩,turn⟩:=h2
 subst e
 -- what stays true of the iterator's objects through the loop
 have stat:∀{H':Hp},(∀b∈fp,H' b=none)->∀b∈fp,FpOk X pins H' b:=fun hn b hb=>⟨hn b hb,(f2 b hb).2⟩
 refine codeAny_forLoop_any (fun n s'=>∃i σ' H',Inv X pins σ' H' s'/\tn i s'.heap/\(∀b∈fp,H' b=none)/\W i n σ' H') ?_ m0 ⟨0,σ,H2,I2,st2,fun b hb=>(f2 b hb).1,w0⟩
 rintro n s3 ⟨i,σ3,H3,I3,st3,fr3,w3⟩
 rcases turn i n σ3 H3 w3 with⟨stop,qn⟩|⟨go,N,hN,step⟩
 ·refine zaU hp (thn (T.done X rfl rfl rfl hc i pins s3 σ3 H3 X.xe I3 (stat fr3) st3 stop) fun r s4 ⟨hr,I4⟩=>?_)
  subst hr
  exact zbQ ⟨σ3,H3,I4,qn⟩
 ·refine zaU hp (thn (T.item X rfl rfl rfl hc i pins s3 σ3 H3 X.xe I3 (stat fr3) st3 go) fun r s4 ⟨u,hr,h4⟩=>?_)
  subst hr
  refine zaU hp (thn h4 fun _ s5 ⟨x,H5,I5,r5,y5,st5,fr5⟩=>?_)
  have I5':=I5.pinned (stat fr5) (T.obj _ _ st5)
  refine zaU hp (thn (hg _ s5 σ3 H5 x u _ I5' r5 (step x H5 y5)) fun _ s6 ⟨σ6,H6,I6,q6⟩=>?_)
  refine zaU hp (thn (hb _ s6 σ6 H6 _ I6 q6) fun f s7 q7=>?_)
  have again:∀{σ7:St} {H7:Hp},Inv X (pins++q5P fp s5.heap) σ7 H7 s7->N σ7 H7->∃m,m<n/\∃i σ' H',Inv X pins σ' H' s7/\tn i s7.heap/\(∀b∈fp,H' b=none)/\W i m σ' H':=fun {σ7 H7} I7 n7=>by
   obtain⟨m',hm,w7⟩:=hN σ7 H7 n7
   refine⟨m',hm,i+1,σ7,H7,I7.unpinned,T.keep _ _ _ st5 fun b hb o e=>(I7.pin (b,o) (z9 _ (z9 _ (q2r hb e)))).1,fun b hb=>?_,w7⟩
   obtain⟨o,e,d⟩:=T.obj _ _ st5 b hb
   exact(I7.pin (b,o) (z9 _ (z9 _ (q2r hb e)))).2.1
  cases f with
  |next=>obtain⟨σ7,H7,I7,n7⟩:=q7;exact again I7 n7
  |cont=>obtain⟨σ7,H7,I7,n7⟩:=q7;exact again I7 n7
  |brk=>obtain⟨σ7,H7,I7,q7⟩:=q7;exact⟨σ7,H7,I7.unpinned,q7⟩
  |ret v=>obtain⟨x7,σ7,H7,I7,r7,q7⟩:=q7;exact⟨x7,σ7,H7,I7.unpinned,r7,q7⟩
end
abbrev R2:=V->V->Hp->VK->Prop
def OpR (X:Cx)(f:Value->Value->Sem Value)(r:R2):Prop:=
 ∀(pins:List (Addr×Obj)) (s:Shared) (σ:St) (H:Hp) (x y:V) (v u:Value) (Q:VK),Inv X pins σ H s->RelV x v->RelV y u->r x y H Q->
  wpAny (model X.prog X.w) X.A (f v u) (EP X pins σ Q) X.xe s
def UnR (X:Cx)(f:Value->Sem Value)(r:V->Hp->VK->Prop):Prop:=
 ∀(pins:List (Addr×Obj)) (s:Shared) (σ:St) (H:Hp) (x:V) (v:Value) (Q:VK),Inv X pins σ H s->RelV x v->r x H Q->
  wpAny (model X.prog X.w) X.A (f v) (EP X pins σ Q) X.xe s
def q17 (X:Cx)(f:Value)(r:List V->Hp->VK->Prop):Prop:=
 ∀(pins:List (Addr×Obj)) (s:Shared) (σ:St) (H:Hp) (xs:List V) (us:List Value) (Q:VK),Inv X pins σ H s->Vals xs us->r xs H Q->
  wpAny (model X.prog X.w) X.A (call f us) (EP X pins σ Q) X.xe s
def tOp (r:R2)(ta tb:TE):TE:=fun σ H Q=>ta σ H fun x H1=>tb σ H1 fun y H2=>r x y H2 Q
def tUn (r:V->Hp->VK->Prop)(ta:TE):TE:=fun σ H Q=>ta σ H fun x H1=>r x H1 Q
def rI (C:Int->Int->Prop)(g:Int->Int->V):R2:=fun x y H Q=>∃i j,x= .int i/\y= .int j/\C i j/\Q (g i j) H
def rI0 (g:Int->Int->V):R2:=fun x y H Q=>∃i j,x= .int i/\y= .int j/\Q (g i j) H
def rU (g:Int->V):V->Hp->VK->Prop:=fun x H Q=>∃i,x= .int i/\Q (g i) H
section
variable {X:Cx}{a b c:Expr}{ta tb tc:TE}{pos:Pos}
theorem binT (ha:PE X a ta)(hb:PE X b tb){pins:List (Addr×Obj)}{s:Shared}{σ:St}{H:Hp}{R:V->V->Hp->Prop}(I:Inv X pins σ H s)
  (h:ta σ H fun x H1=>tb σ H1 fun y H2=>R x y H2){Q:Value->Shared->Prop}{f:Value->Value->Sem Value}
  (hf:∀v u s2 x y H2,Inv X pins σ H2 s2->RelV x v->RelV y u->R x y H2->wpAny (model X.prog X.w) X.A (f v u) Q X.xe s2):
  wpAny (model X.prog X.w) X.A (eval a X.env) (fun v s₁=>wpAny (model X.prog X.w) X.A (eval b X.env) (fun u s₂=>wpAny (model X.prog X.w) X.A (f v u) Q X.xe s₂) X.xe s₁) X.xe s:=by
 refine thn (ha pins s σ H _ I h) fun v s1 ⟨x,H1,I1,r1,q1⟩=>?_
 refine thn (hb pins s1 σ H1 _ I1 q1) fun u s2 ⟨y,H2,I2,r2,q2⟩=>?_
 exact hf v u s2 x y H2 I2 r1 r2 q2
theorem qi {op:Operator}{r:R2}(ho:OpR X (binaryOp op) r)(ha:PE X a ta)(hb:PE X b tb):PE X (.BinOp a op b pos) (tOp r ta tb):=by
 intro pins s σ H Q I h
 exact wpAny_BinOp (binT ha hb I h fun v u s2 x y H2 I2 rx ry q=>ho pins s2 σ H2 x y v u Q I2 rx ry q)
theorem pe_un {op:UnaryOp}{r:V->Hp->VK->Prop}(ho:UnR X (unaryOp op) r)(ha:PE X a ta):PE X (.UnaryOp op a pos) (tUn r ta):=by
 intro pins s σ H Q I h
 exact UnaryOp_ (thn (ha pins s σ H _ I h) fun v s1 ⟨x,H1,I1,r1,q1⟩=>ho pins s1 σ H1 x v Q I1 r1 q1)
theorem opI {f:Value->Value->Sem Value}{C:Int->Int->Prop}{g:Int->Int->Int}
  (rule:∀(i j:Int) (t u:Tok) (s:Shared) (Q:Value->Shared->Prop) (E:Value->Shared->Prop),C i j->Q (.int (g i j) s.toks) {s with toks:=s.toks+1}->wpAny (model X.prog X.w) X.A (f (.int i t) (.int j u)) Q E s):
  OpR X f (rI C fun i j=> .int (g i j)):=by
 intro pins s σ H x y v u Q I rx ry h
 obtain⟨i,j,rfl,rfl,hc,q⟩:=h
 obtain⟨t,rfl⟩:=rx
 obtain⟨t',rfl⟩:=ry
 exact rule i j t t' s _ _ hc ⟨.int (g i j),H,I.tok _,⟨_,rfl⟩,q⟩
theorem opI0 {f:Value->Value->Sem Value}{g:Int->Int->Int}
  (rule:∀(i j:Int) (t u:Tok) (s:Shared) (Q:Value->Shared->Prop) (E:Value->Shared->Prop),Q (.int (g i j) s.toks) {s with toks:=s.toks+1}->wpAny (model X.prog X.w) X.A (f (.int i t) (.int j u)) Q E s):
  OpR X f (rI0 fun i j=> .int (g i j)):=by
 intro pins s σ H x y v u Q I rx ry h
 obtain⟨i,j,rfl,rfl,q⟩:=h
 obtain⟨t,rfl⟩:=rx
 obtain⟨t',rfl⟩:=ry
 exact rule i j t t' s _ _ ⟨.int (g i j),H,I.tok _,⟨_,rfl⟩,q⟩
theorem opB0 {f:Value->Value->Sem Value}{g:Int->Int->Bool}
  (rule:∀(i j:Int) (t u:Tok) (s:Shared) (Q:Value->Shared->Prop) (E:Value->Shared->Prop),Q (.bool (g i j)) s->wpAny (model X.prog X.w) X.A (f (.int i t) (.int j u)) Q E s):
  OpR X f (rI0 fun i j=> .bl (g i j)):=by
 intro pins s σ H x y v u Q I rx ry h
 obtain⟨i,j,rfl,rfl,q⟩:=h
 obtain⟨t,rfl⟩:=rx
 obtain⟨t',rfl⟩:=ry
 exact rule i j t t' s _ _ ⟨.bl (g i j),H,I,rfl,q⟩
def CDiv (i j:Int):Prop:=0<j/\j<1073741824
def CPow (i j:Int):Prop:=0<=j/\j<=1000000/\i.natAbs<2 ^ 64
def CMul (i j:Int):Prop:=(-(2 ^ 64)<i/\i<2 ^ 64)\/(-(2 ^ 64)<j/\j<2 ^ 64)
theorem CMul.ok {i j:Int}(h:CMul i j):IntMulOk i j:=by
 rcases h with⟨h1,h2⟩|⟨h1,h2⟩
 ·exact .of_left (intBits_le_64 h1 h2)
 ·exact .of_right (intBits_le_64 h1 h2)
theorem two_pow_nn (k:Nat):(0:Int)<=2 ^ k:=by
 rw[two_pow_cast]
 exact Int.natCast_nonneg _
theorem q05:OpR X (binaryOp .Add) (rI0 fun i j=> .int (i+j)):=opI0 fun _ _ _ _ _ _ _ q=>add_int q
theorem q2h:OpR X (binaryOp .Sub) (rI0 fun i j=> .int (i - j)):=opI0 fun _ _ _ _ _ _ _ q=>sub_int q
theorem q3Z:OpR X (binaryOp .Mult) (rI CMul fun i j=> .int (i*j)):=opI fun _ _ _ _ _ _ _ hc q=>mul_int q hc.ok
theorem qR:OpR X (binaryOp .FloorDiv) (rI CDiv fun i j=> .int (i / j)):=opI fun i j _ _ _ _ _ hc q=>by
 have h1:(0:Int)<j:=hc.1
 have h2:j<1073741824:=hc.2
 exact floordiv_int (by omega) (by rw[zcf i (by omega)];exact q) (.inl (PyProof.noPylong_small (by omega)))
theorem qC:OpR X (binaryOp .Mod) (rI (fun _ j=>0<j) fun i j=> .int (i % j)):=opI fun i j _ _ _ _ _ hc q=>by
 have h1:(0:Int)<j:=hc
 exact mod_int' (by omega) (by rw[Int.fmod_eq_emod_of_nonneg i (by omega)];exact q)
theorem op_pow:OpR X (binaryOp .Pow) (rI CPow fun i j=> .int (i ^ j.toNat)):=opI fun _ _ _ _ _ _ _ hc q=>pow_int_small hc.1 hc.2.1 hc.2.2 q
theorem q28:OpR X (binaryOp .LShift) (rI CPow fun i j=> .int (i*2 ^ j.toNat)):=opI fun _ _ _ _ _ _ _ hc q=>lshift_int_small hc.1 hc.2.1 hc.2.2 q
theorem q4y:OpR X (binaryOp .RShift) (rI (fun _ j=>0<=j) fun i j=> .int (i / 2 ^ j.toNat)):=opI fun i j _ _ _ _ _ hc q=>
 rshift_int hc (by rw[zcf i (two_pow_nn _)];exact q)
theorem q41:OpR X (binaryOp .BitAnd) (rI0 fun i j=> .int (Builtin.bitAnd i j)):=opI0 fun _ _ _ _ _ _ _ q=>and_int q
theorem qbH:OpR X (binaryOp .BitOr) (rI0 fun i j=> .int (Builtin.bitOr i j)):=opI0 fun _ _ _ _ _ _ _ q=>or_int q
theorem q5S:OpR X (binaryOp .BitXor) (rI0 fun i j=> .int (Builtin.bitXor i j)):=opI0 fun _ _ _ _ _ _ _ q=>xor_int q
theorem unI {f:Value->Sem Value}{g:Int->Int}
  (rule:∀(i:Int) (t:Tok) (s:Shared) (Q:Value->Shared->Prop) (E:Value->Shared->Prop),Q (.int (g i) s.toks) {s with toks:=s.toks+1}->wpAny (model X.prog X.w) X.A (f (.int i t)) Q E s):
  UnR X f (rU fun i=> .int (g i)):=by
 intro pins s σ H x v Q I rx h
 obtain⟨i,rfl,q⟩:=h
 obtain⟨t,rfl⟩:=rx
 exact rule i t s _ _ ⟨.int (g i),H,I.tok _,⟨_,rfl⟩,q⟩
theorem qaH:UnR X (unaryOp .USub) (rU fun i=> .int (-i)):=unI fun _ _ _ _ _ q=>neg_int q
end
def scal:V->V->Bool
 | .non,.non=>true| .non,.int _=>true| .int _,.non=>true| .non,.bl _=>true| .bl _,.non=>true| .non,.str _=>true| .str _,.non=>true
 | .int _,.int _=>true| .bl _,.bl _=>true| .str _,.str _=>true| .byt _,.byt _=>true
 | .int _,.str _=>true| .str _,.int _=>true| .bl _,.str _=>true| .str _,.bl _=>true
 |_,_=>false
def rEq:R2:=fun x y H Q=>scal x y=true/\Q (.bl (decide (x=y))) H
def rNe:R2:=fun x y H Q=>scal x y=true/\Q (.bl (!decide (x=y))) H
theorem q90 {i j:Int}:decide (V.int i=V.int j)=(i==j):=by
 rw[zY]
 simp
theorem qb4 {i j:Bool}:decide (V.bl i=V.bl j)=(i==j):=by
 rw[zY]
 simp
theorem q8Z {i j:Str}:decide (V.str i=V.str j)=(i==j):=by
 rw[zY]
 simp
theorem q91 {i j:Array UInt8}:decide (V.byt i=V.byt j)=(i.toList==j.toList):=by
 rw[zY]
 cases i
 cases j
 simp
section
variable {X:Cx}{a b c:Expr}{ta tb tc:TE}{pos:Pos}
theorem q06 {pins:List (Addr×Obj)}{σ:St}{H:Hp}{s:Shared}{Q:VK}{k k':Bool}(I:Inv X pins σ H s)(q:Q (.bl k) H)(e:k=k'):EP X pins σ Q (.bool k') s:=by
 subst e
 exact⟨.bl k,H,I,rfl,q⟩
theorem q01:OpR X (compareOp .Eq) rEq:=by
 intro pins s σ H x y v u Q I rx ry h
 obtain⟨hs,q⟩:=h
 cases x with
 |non=>
  cases rx
  cases y with
  |non=>cases ry;exact PySem.EqNone.eq_none_none (q06 I q (by simp))
  |bl j=>cases ry;exact PySem.EqNone.eq_none_bool (q06 I q (by simp))
  |int j=>obtain⟨t',rfl⟩:=ry;exact PySem.EqNone.eq_none_int (q06 I q (by simp))
  |str j=>obtain⟨t',rfl⟩:=ry;exact PySem.EqNone.eq_none_str (q06 I q (by simp))
  |_=>exact absurd (show false=true from hs) zp
 |bl i=>
  cases rx
  cases y with
  |non=>cases ry;exact PySem.EqNone.eq_bool_none (q06 I q (by simp))
  |bl j=>cases ry;exact eq_bool (q06 I q qb4)
  |str j=>obtain⟨t',rfl⟩:=ry;exact PySem.EqMixed.eq_bool_str (q06 I q (by simp))
  |_=>exact absurd (show false=true from hs) zp
 |int i=>
  obtain⟨t,rfl⟩:=rx
  cases y with
  |non=>cases ry;exact PySem.EqNone.eq_int_none (q06 I q (by simp))
  |int j=>obtain⟨t',rfl⟩:=ry;exact eq_int (q06 I q q90)
  |str j=>obtain⟨t',rfl⟩:=ry;exact PySem.EqMixed.eq_int_str (q06 I q (by simp))
  |_=>exact absurd (show false=true from hs) zp
 |str i=>
  obtain⟨t,rfl⟩:=rx
  cases y with
  |non=>cases ry;exact PySem.EqNone.eq_str_none (q06 I q (by simp))
  |bl j=>cases ry;exact PySem.EqMixed.eq_str_bool (q06 I q (by simp))
  |int j=>obtain⟨t',rfl⟩:=ry;exact PySem.EqMixed.eq_str_int (q06 I q (by simp))
  |str j=>obtain⟨t',rfl⟩:=ry;exact eq_str (q06 I q q8Z)
  |_=>exact absurd (show false=true from hs) zp
 |byt i=>
  obtain⟨t,rfl⟩:=rx
  cases y with
  |byt j=>obtain⟨t',rfl⟩:=ry;exact PySem.W.eq_bytes (q06 I q q91)
  |_=>exact absurd (show false=true from hs) zp
 |_=>cases y<;>exact absurd (show false=true from hs) zp
theorem q3y:OpR X (compareOp .NotEq) rNe:=by
 intro pins s σ H x y v u Q I rx ry h
 obtain⟨hs,q⟩:=h
 cases x with
 |non=>
  cases rx
  cases y with
  |non=>cases ry;exact PySem.EqNone.ne_none_none (q06 I q (by simp))
  |bl j=>cases ry;exact PySem.EqNone.ne_none_bool (q06 I q (by simp))
  |int j=>obtain⟨t',rfl⟩:=ry;exact PySem.EqNone.ne_none_int (q06 I q (by simp))
  |str j=>obtain⟨t',rfl⟩:=ry;exact PySem.EqNone.ne_none_str (q06 I q (by simp))
  |_=>exact absurd (show false=true from hs) zp
 |bl i=>
  cases rx
  cases y with
  |non=>cases ry;exact PySem.EqNone.ne_bool_none (q06 I q (by simp))
  |bl j=>cases ry;exact ne_bool (q06 I q (zM not qb4))
  |str j=>obtain⟨t',rfl⟩:=ry;exact PySem.EqMixed.ne_bool_str (q06 I q (by simp))
  |_=>exact absurd (show false=true from hs) zp
 |int i=>
  obtain⟨t,rfl⟩:=rx
  cases y with
  |non=>cases ry;exact PySem.EqNone.ne_int_none (q06 I q (by simp))
  |int j=>obtain⟨t',rfl⟩:=ry;exact ne_int (q06 I q (zM not q90))
  |str j=>obtain⟨t',rfl⟩:=ry;exact PySem.EqMixed.ne_int_str (q06 I q (by simp))
  |_=>exact absurd (show false=true from hs) zp
 |str i=>
  obtain⟨t,rfl⟩:=rx
  cases y with
  |non=>cases ry;exact PySem.EqNone.ne_str_none (q06 I q (by simp))
  |bl j=>cases ry;exact PySem.EqMixed.ne_str_bool (q06 I q (by simp))
  |int j=>obtain⟨t',rfl⟩:=ry;exact PySem.EqMixed.ne_str_int (q06 I q (by simp))
  |str j=>obtain⟨t',rfl⟩:=ry;exact ne_str (q06 I q (zM not q8Z))
  |_=>exact absurd (show false=true from hs) zp
 |byt i=>
  obtain⟨t,rfl⟩:=rx
  cases y with
  |byt j=>obtain⟨t',rfl⟩:=ry;exact PySem.W.ne_bytes (q06 I q (zM not q91))
  |_=>exact absurd (show false=true from hs) zp
 |_=>cases y<;>exact absurd (show false=true from hs) zp
theorem q4q:OpR X (compareOp .Lt) (rI0 fun i j=> .bl (decide (i<j))):=opB0 fun _ _ _ _ _ _ _ q=>lt_int q
theorem q9V:OpR X (compareOp .LtE) (rI0 fun i j=> .bl (decide (i<=j))):=opB0 fun _ _ _ _ _ _ _ q=>le_int q
theorem q40:OpR X (compareOp .Gt) (rI0 fun i j=> .bl (decide (j<i))):=opB0 fun _ _ _ _ _ _ _ q=>gt_int q
theorem q7z:OpR X (compareOp .GtE) (rI0 fun i j=> .bl (decide (j<=i))):=opB0 fun _ _ _ _ _ _ _ q=>ge_int q
theorem qp (b:Expr){op:CmpOp}(h:op≠ .In:=by decide)(h2:op≠ .NotIn:=by decide):behindInMarks op b=false:=by
 have e1:(op==CmpOp.In)=false:=by cases op<;>first|rfl|exact absurd rfl h
 have e2:(op==CmpOp.NotIn)=false:=by cases op<;>first|rfl|exact absurd rfl h2
 cases b<;>simp[behindInMarks,e1,e2]
theorem qP {op:CmpOp}{r:R2}(ho:OpR X (compareOp op) r)(ha:PE X a ta)(hb:PE X b tb)(hm:behindInMarks op b=false):PE X (.Compare a [op] [b] pos) (tOp r ta tb):=by
 intro pins s σ H Q I h
 exact wpAny_Compare1 (binT ha hb I h fun v u s2 x y H2 I2 rx ry q=>ho pins s2 σ H2 x y v u Q I2 rx ry q) hm
def tTest (t:TE):TT:=fun σ H Q=>t σ H fun x H'=>∃k,x= .bl k/\Q k H'
theorem qq {op:CmpOp}{r:R2}(ho:OpR X (compareOp op) r)(ha:PE X a ta)(hb:PE X b tb)(hm:behindInMarks op b=false):PT X (.Compare a [op] [b] pos) (tTest (tOp r ta tb)):=by
 intro pins s σ H Q I h
 refine wpAny_isTrue_Compare1 (thn (ha pins s σ H _ I h) fun v s1 ⟨x,H1,I1,r1,q1⟩=>thn (hb pins s1 σ H1 _ I1 q1) fun u s2 ⟨y,H2,I2,r2,q2⟩=>
  thn (ho pins s2 σ H2 x y v u _ I2 r1 r2 q2) fun c s3 ⟨z,H3,I3,r3,k,e,q3⟩=>?_) hm
 subst e
 cases r3
 exact zaM ⟨H3,I3,q3⟩
def qaN (r r':R2)(ta tb tc:TE):TE:=fun σ H Q=>ta σ H fun x H1=>tb σ H1 fun y H2=>r x y H2 fun z H3=>∃k,z= .bl k/\
 (if k=true then tc σ H3 fun w' H4=>r' y w' H4 Q else Q (.bl false) H3)
theorem q9T {op op':CmpOp}{r r':R2}(ho:OpR X (compareOp op) r)(ho':OpR X (compareOp op') r')(ha:PE X a ta)(hb:PE X b tb)(hc:PE X c tc)
  (hm:lastMarks [op,op'] [b,c]=false:=by with_unfolding_all rfl):PE X (.Compare a [op,op'] [b,c] pos) (qaN r r' ta tb tc):=by
 intro pins s σ H Q I h
 refine Compare_chain (thn (ha pins s σ H _ I h) fun v s1 ⟨x,H1,I1,r1,q1⟩=>chain_link (thn (hb pins s1 σ H1 _ I1 q1) fun u s2 ⟨y,H2,I2,r2,q2⟩=>
  thn (ho pins s2 σ H2 x y v u _ I2 r1 r2 q2) fun d s3 ⟨z,H3,I3,r3,k,e,q3⟩=>?_)) hm
 subst e
 cases r3
 refine zaM ?_
 cases k with
 |false=>exact ite_ff ⟨.bl false,H3,I3,rfl,q3⟩
 |true=>exact ite_tt (chain_last (thn (hc pins s3 σ H3 _ I3 q3) fun w' s4 ⟨z',H4,I4,r4,q4⟩=>ho' pins s4 σ H4 y z' u w' Q I4 r2 r4 q4))
theorem q5W:(sizeLine:Nat)<2 ^ 63:=by rw[sizeLine_eq];decide
theorem q2K {x:V}{us:List Value}(r:Vals [x] us):∃u,us=[u]/\RelV x u:=by
 cases r with
 |cons r1 r2=>cases r2;exact⟨_,rfl,r1⟩
theorem qbe {x y:V}{us:List Value}(r:Vals [x,y] us):∃u w',us=[u,w']/\RelV x u/\RelV y w':=by
 cases r with
 |cons r1 r2=>
  cases r2 with
  |cons r3 r4=>cases r4;exact⟨_,_,rfl,r1,r3⟩
theorem q9h (hc:X.calm=true):q17 X (.builtin "max") (fun xs H Q=>∃i j,xs=[.int i,.int j]/\Q (.int (if j>i then j else i)) H):=by
 intro pins s σ H xs us Q I r h
 obtain⟨i,j,rfl,q⟩:=h
 obtain⟨u,w',rfl,⟨t,rfl⟩,⟨t',rfl⟩⟩:=qbe r
 refine max_two_ints (I.ok.hd hc) fun h' tk k=>⟨_,H,I.kept k,?_,q⟩
 by_cases hj:j>i
 ·rw [zj hj,zj hj];exact⟨_,rfl⟩
 ·rw [zd hj,zd hj];exact⟨_,rfl⟩
theorem q9g (hc:X.calm=true):q17 X (.builtin "min") (fun xs H Q=>∃i j,xs=[.int i,.int j]/\Q (.int (if j<i then j else i)) H):=by
 intro pins s σ H xs us Q I r h
 obtain⟨i,j,rfl,q⟩:=h
 obtain⟨u,w',rfl,⟨t,rfl⟩,⟨t',rfl⟩⟩:=qbe r
 refine min_two_ints (I.ok.hd hc) fun h' tk k=>⟨_,H,I.kept k,?_,q⟩
 by_cases hj:j<i
 ·rw [zj hj,zj hj];exact⟨_,rfl⟩
 ·rw [zd hj,zd hj];exact⟨_,rfl⟩
theorem q9j:q17 X (.type "int") (fun xs H Q=>(∃i,xs=[.int i]/\Q (.int i) H)\/∃k,xs=[.bl k]/\Q (.int (if k then 1 else 0)) H):=by
 intro pins s σ H xs us Q I r h
 rcases h with⟨i,rfl,q⟩|⟨k,rfl,q⟩
 ·obtain ⟨u,rfl,t,rfl⟩:=q2K r
  exact call_int_int ⟨.int i,H,I,⟨_,rfl⟩,q⟩
 ·obtain ⟨u,rfl,r1⟩:=q2K r
  cases r1
  exact call_int_bool ⟨.int (if k then 1 else 0),H,I.tok _,⟨_,rfl⟩,q⟩
end
structure ObjM (h:Heap)(x dx C:Addr)(mA:Str->Option Value):Prop where
 obj:h.get? x=some (PySem.W.instObj C dx)
 ns:h.Ns1 dx mA
 ne:dx≠x
theorem q8B {h:Heap}{dx:Addr}{mA:Str->Option Value}(n:h.Ns1 dx mA):∃od,h.get? dx=some od/\∀name,PySem.W.lookIn name od=some (mA name):=by
 obtain⟨o,es,ep,ho,hd,hk,_,hm⟩:=n
 refine⟨o,ho,fun name=>?_⟩
 have e:=hm name
 unfold nsFind findBy at e
 rw[<-Array.find?_toList] at e
 unfold PySem.W.lookIn
 rw[hd]
 dsimp only
 split
 ·rename_i y q
  rw[q] at e
  exact zM some e
 ·rename_i q
  rw[q] at e
  have a:es.toList.any (·.refKey)=false:=by
   rw[List.any_eq_false]
   intro y hy
   obtain⟨z,t,hkey⟩:=hk y (Array.mem_toList_iff.mp hy)
   simp[DictEntry.refKey,hkey]
  have a':¬es.toList.any (·.refKey)=true:=by rw[a];exact zp
  rw[zd a']
  exact zM some e
theorem ObjM.look {h:Heap}{x dx C:Addr}{mA:Str->Option Value}(I:ObjM h x dx C mA):∃od,PySem.W.InstAt h x (PySem.W.instObj C dx) C (some od)/\∀name,PySem.W.lookIn name od=some (mA name):=
 let ⟨od,ho,hl⟩:=q8B I.ns
 ⟨od,⟨I.obj,rfl,rfl,ho⟩,hl⟩
section
variable {prog:Program}{w:World}{A:Around}{E:Value->Shared->Prop}{s:Shared}{K:W.Frag}{x dx C f:Addr}{mA:Str->Option Value}{name:Str}{v:Value}
theorem qcb {expr:Bool}{Q:Value->Shared->Prop}(X:K.In s.heap)(I:ObjM s.heap x dx C mA)(hg:PySem.W.plainGet K C name=true)(hh:PySem.W.hasDictIn K C=true)
  (ha:PySem.W.findIn K (.ref C) name=some none)(hv:mA name=some v)(hv':PySem.W.handedIn v=true)(h:Q v {s with toks:=s.toks+1}):
  wpAny (model prog w) A (getAttr (.ref x) name expr) Q E s:=by
 obtain⟨od,J,hl⟩:=I.look
 exact PySem.W.get_value X J (zbZ hg).1 (PySem.W.findObj_own hh ha rfl (by rw[hl,hv])) hv' h
theorem qar {pl:Sem Bool}{Q:Value×List Value->Shared->Prop}(X:K.In s.heap)(I:ObjM s.heap x dx C mA)(hg:PySem.W.plainGet K C name=true)
  (hf:PySem.W.findIn K (.ref C) name=some (some (.ref f)))(ht:PySem.W.isFn K (.ref f)=true)(hv:mA name=none)(h:Q (.ref f,[.ref x]) s):
  wpAny (model prog w) A (getMethod (.ref x) name pl) Q E s:=by
 obtain⟨od,J,hl⟩:=I.look
 exact PySem.W.method_fn X J (zbZ hg).1 (zbZ hg).2 hf (beq_iff_eq.mp ht) (by show(PySem.W.lookIn name od).map (·.isSome)=some false;rw[hl,hv];rfl) h
theorem set_map {ns:List Str}{Q:Unit->Shared->Prop}(X:K.In s.heap)(I:ObjM s.heap x dx C mA)
  (hs:PySem.W.findIn K (.ref C) "__setattr__"=some (some (.builtin "object.__setattr__")))(hp:PySem.W.plainOver K C=true)(ht:PySem.W.takerIn K C name=some none)(hh:PySem.W.hasDictIn K C=true)
  (hw:PySem.Within mA ns)(hsz:ns.length<=sizeLine)
  (h:∀h',ObjM h' x dx C (fun y=>if y=name then some v else mA y)->Heap.SameBut dx s.heap h'->Q () {s with heap:=h',toks:=s.toks+2}):
  wpAny (model prog w) A (setAttr (.ref x) name v) Q E s:=by
 obtain⟨od,J,hl⟩:=I.look
 refine PySem.W.set_plain X J hs (PySem.W.osa_open (s:={s with toks:=s.toks+1}) (r:=none) X J hp ht fun b=>?_)
 obtain⟨cd,hc,hd'⟩:=PySem.W.any_some hh
 have hx:s.heap.get? x=some ⟨.ref C,some dx,.plain,#[]⟩:=I.obj
 refine yD (zg (yD (yD (wpAny_loadPart hx (yD (PySem.W.Looks.here (s:={s with toks:=s.toks+1}) (PySem.W.looks_clsIn X hc) ?_))))))
 rw[hd']
 refine zg (a:=some dx) (yD (zg (yD ?_)))
 refine wpAny_nsSet1 (s:={s with toks:=s.toks+1}) I.ns fun h' hn2 hs2=>?_
 obtain⟨oD,esD,epD,hoD,hdD,hcD⟩:=hn2.count (PySem.Within.cons name v hw)
 refine yD (wpAny_lookBehind hoD (by rw[hdD];exact pastItsLine_dict (zab hcD (by rw[zaf];omega))) ?_)
 exact zg (h _ ⟨(hs2.2 _ (Ne.symm I.ne)).trans I.obj,hn2,I.ne⟩ hs2)
theorem qak {R:Result->Shared->Prop}{vs:List Value}{kw:List (Str×Value)}(X:K.In s.heap)(hm:PySem.W.makesIn K C=true)
  (hi:PySem.W.findIn K (.ref C) "__init__"=some (some (.ref f)))(hf:PySem.W.typeIn K (.ref f)=some (.type "function"))
  (h:codeAny (model prog w) (A.under (.builtin "type.__call__" ⟨.ref C::vs,kw⟩)) (.call (.ref f) ⟨.ref (s.heap.objs.size+1)::vs,kw⟩) (PySem.W.InitBack (s.heap.objs.size+1) R)
   {s with heap:=(s.heap.push PySem.W.emptyDict).push (PySem.W.instObj C s.heap.objs.size)}):
  codeAny (model prog w) A (.call (.ref C) ⟨vs,kw⟩) R s:=by
 obtain⟨hh,g,d,t,os⟩:=s
 exact PySem.W.make_core (PySem.W.makes_of X hm) (PySem.W.looks_findIn X hi) (fun self=>PySem.W.bind_fn X self hf) (.inl rfl) h
end
def putF (f:Str)(v:V):List (Str×V)->List (Str×V)
 |[]=>[(f,v)]
 |(g,x)::r=>if g=f then(g,v)::r else(g,x)::putF f v r
theorem qT (f g:Str)(v:V):∀fs:List (Str×V),(putF f v fs).lookup g=if g=f then some v else fs.lookup g
 |[]=>by
  show List.lookup g [(f,v)]=_
  by_cases h:g=f
  ·have hb:(g==f)=true:=beq_iff_eq.mpr h
   simp only[List.lookup,hb,if_pos h]
  ·have hb:(g==f)=false:=beq_eq_false_iff_ne.mpr h
   simp only[List.lookup,hb,if_neg h]
 |(k,x)::r=>by
  have ih:=qT f g v r
  rw[show putF f v ((k,x)::r)=(if k=f then(k,v)::r else(k,x)::putF f v r) from rfl]
  by_cases hk:k=f
  ·rw [zj hk]
   by_cases h:g=k
   ·have hb:(g==k)=true:=beq_iff_eq.mpr h
    simp only[List.lookup,hb,if_pos (h.trans hk)]
   ·have hb:(g==k)=false:=beq_eq_false_iff_ne.mpr h
    simp only[List.lookup,hb,if_neg (fun e:g=f=>h (e.trans hk.symm))]
  ·rw [zd hk]
   by_cases h:g=k
   ·have hb:(g==k)=true:=beq_iff_eq.mpr h
    simp only[List.lookup,hb,if_neg (fun e:g=f=>hk (h.symm.trans e))]
   ·have hb:(g==k)=false:=beq_eq_false_iff_ne.mpr h
    simp only[List.lookup,hb]
    exact ih
theorem q48 (f:Str)(v:V):∀fs:List (Str×V),f∈(putF f v fs).map (·.1)/\∀g,g∈fs.map (·.1)->g∈(putF f v fs).map (·.1)
 |[]=>⟨by simp[putF],fun g h=>by simp at h⟩
 |(k,x)::r=>by
  obtain⟨i1,i2⟩:=q48 f v r
  rw[show putF f v ((k,x)::r)=(if k=f then(k,v)::r else(k,x)::putF f v r) from rfl]
  by_cases hk:k=f
  ·rw [zj hk]
   subst hk
   exact⟨by simp,fun g h=>by simpa using h⟩
  ·rw [zd hk]
   refine⟨?_,fun g h=>?_⟩
   ·rw [z8]
    exact zX _ i1
   ·rw [z8] at h ⊢
    rcases zU.mp h with e|e
    ·exact zU.mpr (.inl e)
    ·exact zX _ (i2 g e)
theorem q45 (f:Str)(v:V):∀fs:List (Str×V),(putF f v fs).length<=fs.length+1
 |[]=>by simp[putF]
 |(k,x)::r=>by
  have ih:=q45 f v r
  rw[show putF f v ((k,x)::r)=(if k=f then(k,v)::r else(k,x)::putF f v r) from rfl]
  by_cases hk:k=f
  ·rw [zj hk,zaf,zaf];omega
  ·rw [zd hk,zaf,zaf];omega
theorem RelO.some_of {v:V}{o:Option Value}(r:RelO (some v) o):∃u,o=some u/\RelV v u:=by
 cases o with
 |none=>exact(show False from r).elim
 |some u=>exact⟨u,rfl,r⟩
theorem RelO.none_of {o:Option Value}(r:RelO none o):o=none:=by
 cases o with
 |none=>rfl
 |some u=>exact(show False from r).elim
theorem q8N {v:V}{u:Value}(r:RelV v u):PySem.W.handedIn u=true:=by
 cases v with
 |non=>cases(show u=Value.none from r);rfl
 |bl b=>cases(show u=Value.bool b from r);rfl
 |int i=>obtain⟨t,e⟩:=(show∃t,u=Value.int i t from r);cases e;rfl
 |str x=>obtain⟨t,e⟩:=(show∃t,u=Value.str x t from r);cases e;rfl
 |byt b=>obtain⟨t,e⟩:=(show∃t,u=Value.bytes b t from r);cases e;rfl
 |flt b=>obtain⟨t,e⟩:=(show∃t,u=Value.float b t from r);cases e;rfl
 |ref a=>cases(show u=Value.ref a from r);rfl
 |ty n=>cases(show u=Value.type n from r);rfl
section
variable {P:Program}{w:World}{H H':Hp}{h h':Heap}{a C dx:Addr}{fs fs':List (Str×V)}
theorem q4X (hok:HOk P w H h)(e:H a=some (.ins C dx fs)):∃mA,ObjM h a dx C mA/\(∀f,RelO (fs.lookup f) (mA f))/\PySem.Within mA (fs.map (·.1))/\fs.length<=1000/\H dx=some (.own a):=by
 obtain⟨d,z,ne,ob,mA,n,r,q⟩:=(show q0I P w H h a (.ins C dx fs) from hok a _ e)
 exact⟨mA,⟨ob,n,ne⟩,r,q,z,d⟩
end
structure Cls (K:W.Frag)(C:Addr):Prop where
 pg:PySem.W.plainGet K C Str.empty=true
 hd:PySem.W.hasDictIn K C=true
 po:PySem.W.plainOver K C=true
 sa:PySem.W.findIn K (.ref C) "__setattr__"=some (some (.builtin "object.__setattr__"))
theorem Cls.get {K:W.Frag}{C:Addr}(c:Cls K C)(f:Str):PySem.W.plainGet K C f=true:=c.pg
def qG (K:W.Frag)(C:Addr)(f:Str):Prop:=PySem.W.findIn K (.ref C) f=some none
theorem qG.taker {K:W.Frag}{C:Addr}{f:Str}(n:qG K C f):PySem.W.takerIn K C f=some none:=by
 unfold PySem.W.takerIn
 rw[show PySem.W.findIn K (.ref C) f=some none from n]
 rfl
structure Meth (K:W.Frag)(C:Addr)(m:Str)(f:Addr):Prop where
 at_:PySem.W.findIn K (.ref C) m=some (some (.ref f))
 fn:PySem.W.isFn K (.ref f)=true
 kp:PySem.W.keepIn K (.ref f)=true
section
variable {X:Cx}{pins:List (Addr×Obj)}{σ:St}{H:Hp}{s:Shared}{a C dx:Addr}{fs:List (Str×V)}{f:Str}{v:V}{A:Around}{E:Value->Shared->Prop}
theorem q7N {b:Bool}{Q:Value->Shared->Prop}(I:Inv X pins σ H s)(e:H a=some (.ins C dx fs))(c:Cls X.K C)(n:qG X.K C f)(l:fs.lookup f=some v)
  (h:∀u s',Inv X pins σ H s'->RelV v u->Q u s'):wpAny (model X.prog X.w) A (getAttr (.ref a) f b) Q E s:=by
 obtain⟨mA,O,r,_,_,_⟩:=q4X I.hok e
 obtain⟨u,hu,ru⟩:=RelO.some_of (v:=v) (o:=mA f) (by rw[<-l];exact r f)
 exact qcb I.kIn O (c.get f) c.hd n hu (q8N ru) (h u _ (I.tok _) ru)
theorem q4C {m:Str}{g:Addr}{pl:Sem Bool}{Q:Value×List Value->Shared->Prop}(I:Inv X pins σ H s)(e:H a=some (.ins C dx fs))(c:Cls X.K C)(k:Meth X.K C m g)(l:fs.lookup m=none)
  (h:Q (.ref g,[.ref a]) s):wpAny (model X.prog X.w) A (getMethod (.ref a) m pl) Q E s:=by
 obtain⟨mA,O,r,_,_,_⟩:=q4X I.hok e
 have hn:mA m=none:=RelO.none_of (by rw[<-l];exact r m)
 exact qar I.kIn O (c.get m) k.at_ k.fn hn h
theorem q7s {y:V}{u:Value}{Q:Unit->Shared->Prop}(I:Inv X pins σ H s)(e:H a=some (.ins C dx fs))(c:Cls X.K C)(n:qG X.K C f)(hl:fs.length<1000)(ry:RelV y u)
  (h:∀s',Inv X pins σ (upd H a (.ins C dx (putF f y fs))) s'->Q () s'):wpAny (model X.prog X.w) A (setAttr (.ref a) f u) Q E s:=by
 obtain⟨mA,O,r,wi,_,ho⟩:=q4X I.hok e
 have hz:(fs.map (·.1)).length<=sizeLine:=by rw[yC,sizeLine_eq];omega
 refine set_map I.kIn O c.sa c.po n.taker c.hd wi hz fun h' O' sb=>h _ ?_
 have hd:∃o,h'.get? dx=some o:=let ⟨o,_,_,e',_⟩:=O'.ns;⟨o,e'⟩
 refine I.write (x:=a) (e:=dx) (by rw[e];exact True.intro) (.inr ho) (fun b q hb z=>(sb.2 b hb).trans z) hd ?_
 refine⟨by rw[qw O.ne];exact ho,?_,O.ne,O'.obj,_,O'.ns,fun g=>?_,fun g hg=>?_⟩
 ·have:=q45 f y fs;omega
 ·show RelO ((putF f y fs).lookup g) (if g=f then some u else mA g)
  rw[qT]
  by_cases q:g=f
  ·rw [zj q,zj q];exact ry
  ·rw [zd q,zd q];exact r g
 ·by_cases q:g=f
  ·rw [q];exact(q48 f y fs).1
  ·refine (q48 f y fs).2 g (wi g fun z=>hg ?_)
   show(if g=f then some u else mA g)=none
   rw[zd q];exact z
theorem Inv.made (I:Inv X pins σ H s):Inv X pins σ (upd (upd H s.heap.objs.size (.own (s.heap.objs.size+1))) (s.heap.objs.size+1) (.ins C s.heap.objs.size []))
  {s with heap:=(s.heap.push PySem.W.emptyDict).push (PySem.W.instObj C s.heap.objs.size)}:=by
 have e1:(s.heap.push PySem.W.emptyDict).get? s.heap.objs.size=some PySem.W.emptyDict:=zC s.heap rfl
 have e2:((s.heap.push PySem.W.emptyDict).push (PySem.W.instObj C s.heap.objs.size)).get? (s.heap.objs.size+1)=some (PySem.W.instObj C s.heap.objs.size):=by
  have:=zC (s.heap.push PySem.W.emptyDict) (o:=PySem.W.instObj C s.heap.objs.size) rfl
  rwa [zbk] at this
 have e3:(s.heap.push PySem.W.emptyDict).Ns s.heap.objs.size (fun _=>none):=⟨PySem.W.emptyDict,#[],_,e1,rfl,(fun e he=>absurd he (by simp)),fun _=>rfl⟩
 have I1:=I.laid (a:=s.heap.objs.size) (o:= .own (s.heap.objs.size+1)) (h':=s.heap.push PySem.W.emptyDict) (t':=s.toks) (fun b u q=>zo _ q) (zc _) ⟨_,e1⟩
 refine I1.laid (a:=s.heap.objs.size+1) (o:= .ins C s.heap.objs.size []) (t':=s.toks) (fun b u q=>zo _ q) (Nat.le_of_eq (zbk _ _)) ?_
 have ne:s.heap.objs.size≠s.heap.objs.size+1:=zB (zbm _)
 refine⟨by rw[qw ne,qc],zan _,ne,e2,fun _=>none,(Heap.Ns1.of_empty e3).at fun o q=>zo _ q,fun _=>True.intro,fun y hy=>absurd rfl hy⟩
theorem qcs {prog:Program}{w:World}{env:Env}{e:Expr}{f:Str}{pos:Pos}{s:Shared}{Q:Value->Shared->Prop}(hb:attributeBase e f env (eval e env)=eval e env)
  (h:wpAny (model prog w) A (eval e env) (fun o s₁=>wpAny (model prog w) A (getAttr o f true) Q E s₁) E s):wpAny (model prog w) A (eval (.Attribute e f pos) env) Q E s:=
 Attribute_any_ h (by rw[arm_eval_Attribute,hb])
end
def tFld (K:W.Frag)(ta:TE)(f:Str):TE:=fun σ H Q=>ta σ H fun x H1=>∃a C dx fs v,x= .ref a/\H1 a=some (.ins C dx fs)/\Cls K C/\qG K C f/\fs.lookup f=some v/\Q v H1
def sFld (K:W.Frag)(ta tv:TE)(f:Str):TS:=fun D σ H=>tv σ H fun y H1=>ta σ H1 fun x H2=>∃a C dx fs,x= .ref a/\H2 a=some (.ins C dx fs)/\Cls K C/\qG K C f/\fs.length<1000/\
 D.nx σ (upd H2 a (.ins C dx (putF f y fs)))
section
variable {X:Cx}{o e value:Expr}{f:Str}{pos pos' tpos:Pos}{ta tv:TE}
theorem pe_fld (he:PE X e ta)(hb:attributeBase e f X.env (eval e X.env)=eval e X.env):PE X (.Attribute e f pos) (tFld X.K ta f):=by
 intro pins s σ H Q I h
 refine qcs hb (thn (he pins s σ H _ I h) fun u s1 ⟨x,H1,I1,rx,a,C,dx,fs,v,ex,ea,c,n,l,q⟩=>?_)
 subst ex
 obtain rfl:u=Value.ref a:=rx
 exact q7N I1 ea c n l fun u' s2 I2 ru=>⟨v,H1,I2,ru,q⟩
theorem ps_fld (ha:PE X o ta)(hv:PE X value tv)(hs:swapsWith value (some (.Attribute o f pos')) pos.line X.env=pure false):PS X (.Assign [.Attribute o f pos'] value pos) (sFld X.K ta tv f):=by
 intro pins s σ H D I h
 refine plainObj_wpAny_Assign_Attribute (thn (hv pins s σ H _ I h) fun u s1 ⟨y,H1,I1,ry,q⟩=>thn (ha pins s1 σ H1 _ I1 q) fun ov s2 ⟨x,H2,I2,rx,a,C,dx,fs,ex,ea,c,n,l,q2⟩=>?_) hs
 subst ex
 obtain rfl:ov=Value.ref a:=rx
 exact q7s I2 ea c n l ry fun s3 I3=>⟨σ,_,I3,q2⟩
end
section
variable {X:Cx}{pins:List (Addr×Obj)}{σ:St}{H:Hp}{s:Shared}{A:Around}{E:Value->Shared->Prop}{Q:Value->Shared->Prop}{c:Value}{b:Bool}
inductive TyOf (K:W.Frag)(H:Hp):V->Value->Prop where
 |non:TyOf K H .non (.type "NoneType")
 |bl (x:Bool):TyOf K H (.bl x) (.type "bool")
 |int (i:Int):TyOf K H (.int i) (.type "int")
 |str (x:Str):TyOf K H (.str x) (.type "str")
 |flt (x:UInt64):TyOf K H (.flt x) (.type "float")
 |lst {a:Addr} {xs:List V} (e:H a=some (.lst xs)):TyOf K H (.ref a) (.type "list")
 |frz {a:Addr} {o:Obj} {xs:List V} (e:H a=some (.frz o (.lst xs))):TyOf K H (.ref a) (.type "list")
 |tup {a:Addr} {xs:List V} (e:H a=some (.tup xs)):TyOf K H (.ref a) (.type "tuple")
 |dK {a:Addr} {kvs:List (Key×V)} (e:H a=some (.dK kvs)):TyOf K H (.ref a) (.type "dict")
 |dT {a:Addr} {kvs:List (List Key×V)} (e:H a=some (.dT kvs)):TyOf K H (.ref a) (.type "dict")
 | ins {a C dx:Addr} {fs:List (Str×V)} (e:H a=some (.ins C dx fs)) (cl:Cls K C) (ha:PySem.W.findIn K (.ref C) "__class__"=some (some (.builtin "object.__class__")))
   (hn:PySem.W.specialIn K (.builtin "object.__class__") "__get__"=some (some (.builtin "getset_descriptor.__get__"))) (htk:PySem.W.takesIn K (.builtin "object.__class__")=some true)
   (hm:PySem.W.mroIn K C (.type "object")=some true):TyOf K H (.ref a) (.ref C)
theorem q8G {x:V}{u t:Value}(I:Inv X pins σ H s)(rx:RelV x u)(ty:TyOf X.K H x t)(e:PySem.W.kitOne X.K t c=some b)(h:∀tk,Q (.bool b) {s with toks:=tk}):
  wpAny (model X.prog X.w) A (call (.builtin "isinstance") [u,c]) Q E s:=by
 cases ty with
 |non=>cases(show u=Value.none from rx);exact zao PySem.W.kitx_none I.kIn True.intro e (fun z=>nomatch z) h
 |bl y=>cases(show u=Value.bool y from rx);exact zao PySem.W.kitx_bool I.kIn True.intro e (fun z=>nomatch z) h
 |int i=>obtain⟨t,q⟩:=(show∃t,u=Value.int i t from rx);cases q;exact zao PySem.W.kitx_int I.kIn True.intro e (fun z=>nomatch z) h
 |str y=>obtain⟨t,q⟩:=(show∃t,u=Value.str y t from rx);cases q;exact zao PySem.W.kitx_str I.kIn True.intro e (fun z=>nomatch z) h
 |flt y=>obtain⟨t,q⟩:=(show∃t,u=Value.float y t from rx);cases q;exact zao PySem.W.kitx_float I.kIn True.intro e (fun z=>nomatch z) h
 | @lst a xs ea=>
  cases(show u=Value.ref a from rx)
  obtain⟨_,_,n,_,h1⟩:=(show q0I X.prog X.w H s.heap a (.lst xs) from I.hok a _ ea)
  exact zao PySem.W.kitx_list I.kIn ⟨_,h1,rfl⟩ e (fun z=>nomatch z) h
 | @frz a ob xs ea=>
  cases(show u=Value.ref a from rx)
  obtain⟨_,_,_,n,_,h1⟩:=(show q0I X.prog X.w H s.heap a (.frz ob (.lst xs)) from I.hok a _ ea)
  exact zao PySem.W.kitx_list I.kIn ⟨_,h1,rfl⟩ e (fun z=>nomatch z) h
 | @tup a xs ea=>
  cases(show u=Value.ref a from rx)
  obtain⟨_,_,_,p⟩:=(show q0I X.prog X.w H s.heap a (.tup xs) from I.hok a _ ea)
  obtain⟨o,h1,h2,_⟩:=p
  exact zao PySem.W.kitx_tuple I.kIn ⟨o,h1,h2⟩ e (fun z=>nomatch z) h
 | @dK a kvs ea=>
  cases(show u=Value.ref a from rx)
  obtain⟨_,_,vs,_,p⟩:=(show q0I X.prog X.w H s.heap a (.dK kvs) from I.hok a _ ea)
  obtain⟨o,es,ep,h1,h2,_⟩:=p
  exact zao PySem.W.kitx_dict I.kIn ⟨o,h1,h2.1⟩ e (fun z=>nomatch z) h
 | @dT a kvs ea=>
  cases(show u=Value.ref a from rx)
  obtain⟨_,_,xs,_,o,es,ep,h1,h2,_⟩:=(show q0I X.prog X.w H s.heap a (.dT kvs) from I.hok a _ ea)
  exact zao PySem.W.kitx_dict I.kIn ⟨o,h1,h2.1⟩ e (fun z=>nomatch z) h
 | @ins a C dx fs ea cl ha hn htk hm=>
  cases(show u=Value.ref a from rx)
  obtain⟨mA,O,_⟩:=q4X I.hok ea
  obtain⟨od,J,_⟩:=O.look
  exact zao (PySem.W.kitx_own (cl.get _) cl.hd ha hn htk hm) I.kIn J e (fun z=>nomatch z) h
end
structure Room (k:Nat)(A:Around):Prop where
 hd:A.handled=none
 dp:A.depth+3*k+5<recursionLimit
 un:A.units+16*k+200<cLine
 gd:A.guards=some []
theorem Room.mono {j k:Nat}{A:Around}(r:Room k A)(h:j<=k):Room j A:=⟨r.hd,by have:=r.dp;omega,by have:=r.un;omega,r.gd⟩
theorem Room.deeper {k:Nat}{A:Around}(r:Room (k+1) A)(env:Env):Room k (A.deeper env):=
 ⟨r.hd,by have:=r.dp;show A.depth+1+3*k+5<_;omega,by have:=r.un;show A.units+3+16*k+200<_;omega,r.gd⟩
theorem q7J {A:Around}{C:Addr}{us:List Value}{kw:List (Str×Value)}:(A.under (.builtin "type.__call__" ⟨.ref C::us,kw⟩)).depth=A.depth+1:=by
 first|rfl|simp[Around.under,Code.weight,Code.isCreation,Code.isGuard,Code.isCaller,Code.frames,Code.isFrame,guardIds]
theorem q7I {A:Around}{C:Addr}{us:List Value}{kw:List (Str×Value)}:(A.under (.builtin "type.__call__" ⟨.ref C::us,kw⟩)).units=A.units+1:=by
 first|rfl|simp[Around.under,Code.cUnits,Code.frames,Code.isFrame]
theorem Room.make {k:Nat}{A:Around}(r:Room (k+1) A)(C:Addr)(us:List Value)(kw:List (Str×Value)):Room k (A.under (.builtin "type.__call__" ⟨.ref C::us,kw⟩)):=
 ⟨r.hd,by have:=r.dp;rw[q7J];omega,by have:=r.un;rw[q7I];omega,by simp[Around.under,Code.guards,Code.isGuard,guardIds,pushGuards,r.gd]⟩
theorem Room.depth {k:Nat}{A:Around}(r:Room k A):A.depth<recursionLimit:=by have:=r.dp;omega
theorem Room.units {k:Nat}{A:Around}(r:Room k A):A.units+64<cLine:=by have:=r.un;omega
def tNil:TA:=fun _ H Q=>Q [] H
def tCons (ta:TE)(tr:TA):TA:=fun σ H Q=>ta σ H fun x H1=>tr σ H1 fun xs H2=>Q (x::xs) H2
section
variable {X:Cx}{e:Expr}{es:List Expr}{te:TE}{t:TA}{pos:Pos}
theorem qd:PA X [] tNil:=fun _ _ _ _ H Q I h=>Calls.spliced_nil ⟨[],H,I,.nil,h⟩
theorem qa (ha:PE X e te)(hr:PA X es t)(hs:starEach (e::es) X.env=(false,eval e X.env)::starEach es X.env:=by rfl):PA X (e::es) (tCons te t):=by
 intro pos pins s σ H Q I h
 rw[hs]
 show wpAny _ _ (spliced ((false,eval e X.env)::backTo pos (starEach es X.env))) _ _ s
 refine zb8 (thn (ha pins s σ H _ I h) fun u s1 ⟨x,H1,I1,r1,q1⟩=>?_)
 exact thn (hr pos pins s1 σ H1 _ I1 q1) fun us s2 ⟨xs,H2,I2,r2,q2⟩=>⟨x::xs,H2,I2,.cons r1 r2,q2⟩
def tTup (t:TA):TE:=fun σ H Q=>t σ H fun xs H1=>xs.length<=sizeLine/\∀p,H1 p=none->Q (.ref p) (upd H1 p (.tup xs))
def tLst (t:TA):TE:=fun σ H Q=>t σ H fun xs H1=>xs.length<=sizeLine/\∀p,H1 p=none->Q (.ref p) (upd H1 p (.lst xs))
theorem qA {x1}(h:PA X es t):PE X (.Tuple es x1 pos) (tTup t):=by
 intro pins s σ H Q I hq
 refine wpAny_Tuple_spliced (thn (h pos pins s σ H _ I hq) fun us s1 ⟨xs,H1,I1,r,z,q⟩=>⟨by rw[<-r.length];exact z,?_⟩)
 have hf:H1 s1.heap.objs.size=none:=I1.hok.fresh (zc _)
 refine⟨.ref s1.heap.objs.size,upd H1 s1.heap.objs.size (.tup xs),I1.laid (t':=s1.toks) (fun b u e=>zo _ e) (zc _) ?_,rfl,q _ hf⟩
 exact⟨z,us,r,⟨_,zC _ rfl,rfl,_,rfl⟩⟩
theorem q0h (h:PA X es t):PE X (.List es pos) (tLst t):=by
 intro pins s σ H Q I hq
 refine wpAny_List_spliced (thn (h pos pins s σ H _ I hq) fun us s1 ⟨xs,H1,I1,r,z,q⟩=>⟨by rw[<-r.length];exact z,?_⟩)
 have hf:H1 s1.heap.objs.size=none:=I1.hok.fresh (zc _)
 refine⟨.ref s1.heap.objs.size,upd H1 s1.heap.objs.size (.lst xs),I1.laid (t':=s1.toks) (fun b u e=>zo _ e) (zc _) ?_,rfl,q _ hf⟩
 exact⟨z,us,0,r,zC _ rfl⟩
end
abbrev Sp:=List V->Hp->VK->XK->Prop
abbrev CXT:=List Env->Hp->Shared->XK->Value->Shared->Prop
structure Env0 (P:Program)(w:World)(K:W.Frag)(mg:Str->Option Value)(base:Heap)(A:Around)(outer:List Env)(s:Shared)(H:Hp):Prop where
 frames:A.frames=some outer
 mod:Mod K mg base
 bs:∀b o,base.get? b=some o->s.heap.get? b=some o/\H b=none
 bsz:base.objs.size<=s.heap.objs.size
 funs:s.heap.FunFrames base outer
 frf:∀b∈frs outer,H b=none
 hok:HOk P w H s.heap
 bare:AllBare s.gens
def CE (outer:List Env)(P:Program)(w:World)(H:Hp)(s:Shared)(Q:VK)(u:Value)(s':Shared):Prop:=
 ∃v H',s'.os=s.os/\AllBare s'.gens/\Un (frs outer) [] H H' s.heap s'.heap/\HOk P w H' s'.heap/\RelV v u/\Q v H'
def CR (CX:CXT)(outer:List Env)(P:Program)(w:World)(H:Hp)(s:Shared)(Q:VK)(E:XK)(r:Result)(s':Shared):Prop:=
 match r with
 | .ok (.ret u)=>CE outer P w H s Q u s'
 | .ok _=>False
 | .error e=>CX outer H s E e s'
structure FnOk (P:Program)(w:World)(K:W.Frag)(mg:Str->Option Value)(base:Heap)(CX:CXT)(k:Nat)(f:Addr)(fd:FuncData)(ps:List Str)(sp:Sp):Prop where
 len:∀vs H Q E,sp vs H Q E->vs.length=ps.length
 run:∀(A:Around) (outer:List Env) (s:Shared) (H:Hp) (args:Args) (us:List Value) (vs:List V) (Q:VK) (E:XK),Room k A->Env0 P w K mg base A outer s H->BindsTo s fd args (ps.zip us)->Vals vs us->sp vs H Q E->
  codeAny (model P w) A (.call (.ref f) args) (CR CX outer P w H s Q E) s
theorem Env0.make {P:Program}{w:World}{K:W.Frag}{mg:Str->Option Value}{base:Heap}{A:Around}{outer:List Env}{s:Shared}{H:Hp}(e:Env0 P w K mg base A outer s H)(C:Addr)(us:List Value)(kw:List (Str×Value)):
  Env0 P w K mg base (A.under (.builtin "type.__call__" ⟨.ref C::us,kw⟩)) outer s H:=⟨by first|exact e.frames|(simpa[Around.under,Code.envs,Code.isFrame,pushEnvs] using e.frames),e.mod,e.bs,e.bsz,e.funs,e.frf,e.hok,e.bare⟩
section
variable {X:Cx}{pins:List (Addr×Obj)}{σ:St}{H:Hp}{s s':Shared}
theorem Inv.env0 (I:Inv X pins σ H s):Env0 X.prog X.w X.K X.mg X.base X.A X.stack s H:=
 ⟨I.ok.frames,I.ok.mod,I.bs,zab I.ok.bsz I.sz,I.stack,I.stkFree,I.hok,I.bare⟩
theorem Inv.after {Q:VK}{u:Value}(I:Inv X pins σ H s)(h:CE X.stack X.prog X.w H s Q u s'):EP X pins σ Q u s':=by
 obtain⟨v,H',os,bare,un,hok,r,q⟩:=h
 obtain⟨hh,g,d,t,os'⟩:=s'
 obtain rfl:os'=s.os:=os
 exact⟨v,H',I.call (h':=hh) (g':=g) (d':=d) (t':=t) (ch:=[]) un hok bare (fun b z=>absurd z (by simp)),r,q⟩
end
def q9z (sp:Sp)(dvs:List V)(E:XK)(t:TA):TE:=fun σ H Q=>t σ H fun vs H1=>sp (vs++dvs) H1 Q E
def q7Z (C:Addr)(sp:Sp)(dvs:List V)(E:XK)(t:TA):TE:=fun σ H Q=>t σ H fun vs H1=>∀x dx,H1 x=none->H1 dx=none->dx≠x->
 sp (.ref x::(vs++dvs)) (upd (upd H1 dx (.own x)) x (.ins C dx [])) (fun v H2=>v= .non/\Q (.ref x) H2) E
def q2y (K:W.Frag)(fd:FuncData)(ps:List Str)(ds:List Value):Prop:=
 ∀(s:Shared) (us:List Value),K.In s.heap->(us++ds).length=ps.length->BindsTo s fd ⟨us,[]⟩ (ps.zip (us++ds))
theorem q2y.all {K:W.Frag}{fd:FuncData}{ps:List Str}(h:∀us:List Value,us.length=ps.length->bindArgs fd ⟨us,[]⟩=pure (ps.zip us)):q2y K fd ps []:=fun s us _ hl=>by
 rw[zH] at hl ⊢
 exact .of_eq (h us hl)
def q4F (CX:CXT)(X:Cx)(E:XK):Prop:=∀(pins:List (Addr×Obj)) (σ:St) (H:Hp) (s:Shared) (e:Value) (s':Shared),Inv X pins σ H s->CX X.stack H s E e s'->X.xe e s'
section
variable {X:Cx}{CX:CXT}{k:Nat}{f C:Addr}{fd:FuncData}{ps:List Str}{sp:Sp}{dvs:List V}{ds:List Value}{E:XK}{x m:Str}{p pos apos:Pos}{e o:Expr}{es:List Expr}{ta:TE}{t:TA}
theorem q6X {pins:List (Addr×Obj)}{σ:St}{H:Hp}{s:Shared}{Q:VK}{us:List Value}{vs:List V}(F:FnOk X.prog X.w X.K X.mg X.base CX k f fd ps sp)(hr:Room k X.A)(hb:q2y X.K fd ps ds)(hd:Vals dvs ds)(hx:q4F CX X E)
  (I:Inv X pins σ H s)(r:Vals vs us)(h:sp (vs++dvs) H Q E):wpAny (model X.prog X.w) X.A (call (.ref f) us) (EP X pins σ Q) X.xe s:=by
 have r2:Vals (vs++dvs) (us++ds):=r.append hd
 have hl:(us++ds).length=ps.length:=by rw[<-r2.length];exact F.len _ _ _ _ h
 refine wpAny_call (zcs (F.run X.A X.stack s H ⟨us,[]⟩ (us++ds) (vs++dvs) Q E hr I.env0 (hb s us I.kIn hl) r2 h) fun r s' hq=>?_)
 cases r with
 |error e=>exact hx pins σ H s e s' I hq
 |ok fl=>
  cases fl with
  |ret u=>exact I.after hq
  |next=>exact False.elim hq
  |brk=>exact False.elim hq
  |cont=>exact False.elim hq
theorem qbG (F:FnOk X.prog X.w X.K X.mg X.base CX k f fd ps sp)(hr:Room k X.A)(hg:Gl X x)(hm:X.mg x=some (.ref f))(hk:PySem.W.keepIn X.K (.ref f)=true)(hb:q2y X.K fd ps ds)(hd:Vals dvs ds)(hx:q4F CX X E)
  (ha:PA X (e::es) t)(hdb:(x==("__debug__":Str))=false:=by decide)(he:starEach (e::es) X.env=(false,eval e X.env)::starEach es X.env:=by rfl)(hpl:(backTo pos (starEach es X.env)).any (·.1)=false:=by rfl):
  PE X (.Call (.Name x p) (e::es) [] pos) (q9z sp dvs E t):=by
 intro pins s σ H Q I h
 refine zbe (q46 I hg hm ?_ hdb)
 refine zbw (h₀:=X.base) I.ok.mod.kin hk (thn (ha pos pins s σ H _ I h) fun us s1 ⟨vs,H1,I1,r,q⟩=>⟨I1.kIn,?_⟩) he hpl
 exact q6X F hr hb hd hx I1 r q
structure Mk (K:W.Frag)(C f:Addr):Prop where
 makes:PySem.W.makesIn K C=true
 init:PySem.W.findIn K (.ref C) "__init__"=some (some (.ref f))
 fn:PySem.W.isFn K (.ref f)=true
 kp:PySem.W.keepIn K (.ref C)=true
theorem q6W {pins:List (Addr×Obj)}{σ:St}{H:Hp}{s:Shared}{Q:VK}{us:List Value}{vs:List V}(M:Mk X.K C f)(F:FnOk X.prog X.w X.K X.mg X.base CX k f fd ps sp)(hr:Room (k+1) X.A)(hb:q2y X.K fd ps ds)(hd:Vals dvs ds)
  (hx:q4F CX X E)(I:Inv X pins σ H s)(r:Vals vs us)
  (h:∀x dx,H x=none->H dx=none->dx≠x->sp (.ref x::(vs++dvs)) (upd (upd H dx (.own x)) x (.ins C dx [])) (fun v H2=>v= .non/\Q (.ref x) H2) E):
  wpAny (model X.prog X.w) X.A (call (.ref C) us) (EP X pins σ Q) X.xe s:=by
 have hq:=h (s.heap.objs.size+1) s.heap.objs.size (I.hok.fresh (zbq _)) (I.hok.fresh (zc _)) (zB (zbm _))
 have I2:=Inv.made (C:=C) I
 have r2:Vals (V.ref (s.heap.objs.size+1)::(vs++dvs)) (Value.ref (s.heap.objs.size+1)::(us++ds)):= .cons rfl (r.append hd)
 have hl:(Value.ref (s.heap.objs.size+1)::us++ds).length=ps.length:=by
  have e:=r2.length
  rw[F.len _ _ _ _ hq] at e
  exact e.symm
 refine wpAny_call (qak (f:=f) I.kIn M.makes M.init (beq_iff_eq.mp M.fn) (zcs (F.run _ X.stack _ _ ⟨Value.ref (s.heap.objs.size+1)::us,[]⟩ (Value.ref (s.heap.objs.size+1)::(us++ds)) _ _ E (hr.make C us [])
  (I2.env0.make C us []) (hb _ (Value.ref (s.heap.objs.size+1)::us) I2.kIn hl) r2 hq) fun r s' hq'=>?_))
 cases r with
 |error e=>exact hx pins σ _ _ e s' I2 hq'
 |ok fl=>
  cases fl with
  |ret u=>
   obtain⟨v,H',I3,rv,ev,q3⟩:=I2.after hq'
   subst ev
   exact⟨rv,⟨V.ref (s.heap.objs.size+1),H',I3,rfl,q3⟩⟩
  |next=>exact False.elim hq'
  |brk=>exact False.elim hq'
  |cont=>exact False.elim hq'
theorem qbE (M:Mk X.K C f)(F:FnOk X.prog X.w X.K X.mg X.base CX k f fd ps sp)(hr:Room (k+1) X.A)(hg:Gl X x)(hm:X.mg x=some (.ref C))(hb:q2y X.K fd ps ds)(hd:Vals dvs ds)(hx:q4F CX X E)
  (ha:PA X (e::es) t)(hdb:(x==("__debug__":Str))=false:=by decide)(he:starEach (e::es) X.env=(false,eval e X.env)::starEach es X.env:=by rfl)(hpl:(backTo pos (starEach es X.env)).any (·.1)=false:=by rfl):
  PE X (.Call (.Name x p) (e::es) [] pos) (q7Z C sp dvs E t):=by
 intro pins s σ H Q I h
 refine zbe (q46 I hg hm ?_ hdb)
 refine zbw (h₀:=X.base) I.ok.mod.kin M.kp (thn (ha pos pins s σ H _ I h) fun us s1 ⟨vs,H1,I1,r,q⟩=>⟨I1.kIn,?_⟩) he hpl
 exact q6W M F hr hb hd hx I1 r q
theorem q9R (M:Mk X.K C f)(F:FnOk X.prog X.w X.K X.mg X.base CX k f fd ps sp)(hr:Room (k+1) X.A)(hg:Gl X x)(hm:X.mg x=some (.ref C))(hb:q2y X.K fd ps ds)(hd:Vals dvs ds)(hx:q4F CX X E)
  (hdb:(x==("__debug__":Str))=false:=by decide):PE X (.Call (.Name x p) [] [] pos) (q7Z C sp dvs E tNil):=by
 intro pins s σ H Q I h
 refine zbe (q46 I hg hm ?_ hdb)
 exact PySem.W.callWith_K0 I.kIn M.kp (q6W (us:=[]) M F hr hb hd hx I .nil h)
end
structure FnScope (N P:List Str)(sc:Scope):Prop where
 kind:sc.kind= .function
 co:sc.isCoroutine=false
 gen:sc.isGenerator=false
 nd:N.Nodup
 pre:N.take P.length=P
 par:∀x∈P,sc.names.lookup x=some .local\/sc.names.lookup x=some .cell
 nofree:∀y∈sc.names,y.2≠ .free
theorem q69 {kindOf:Str->Option NameKind}{x:Str}:∀{binds:List (Str×Value)} {m:Str->Option Value},(∀v,(x,v)∉binds)->bindL kindOf binds m x=m x
 |[],_,_=>rfl
 |(n,v)::r,m,h=>by
  unfold bindL
  rw[q69 fun w hw=>h w (zX _ hw)]
  split
  ·have:x≠n:=by rintro rfl;exact h v zbc
   simp[this]
  ·rfl
theorem q6b {kindOf:Str->Option NameKind}{x:Str}:∀{binds:List (Str×Value)} {m:Str->Option Value},(∀v,(x,v)∉binds)->bindC kindOf binds m x=m x
 |[],_,_=>rfl
 |(n,v)::r,m,h=>by
  unfold bindC
  rw[q6b fun w hw=>h w (zX _ hw)]
  split
  ·rfl
  ·have:x≠n:=by rintro rfl;exact h v zbc
   simp[this]
theorem q6a {kindOf:Str->Option NameKind}{x:Str}{v:Value}:∀{P:List Str} {vs:List Value} {i:Nat} {m:Str->Option Value},P.Nodup->P[i]? =some x->vs[i]? =some v->kindOf x=some .local->
  bindL kindOf (P.zip vs) m x=some v
 |[],_,_,_,_,h,_,_=>by simp at h
 |_::_,[],_,_,_,_,h,_=>by simp at h
 |p::P,w::vs,0,m,nd,h1,h2,hk=>by
  simp at h1 h2;subst h1;subst h2
  show bindL kindOf ((p,w)::P.zip vs) m p=_
  unfold bindL
  rw[q69 fun v hv=>(zbt.mp nd).1 (zcw hv).1,zj hk]
  simp
 |p::P,w::vs,i+1,m,nd,h1,h2,hk=>by
  show bindL kindOf ((p,w)::P.zip vs) m x=_
  unfold bindL
  exact q6a (i:=i) (zbt.mp nd).2 (by simpa using h1) (by simpa using h2) hk
theorem q6c {kindOf:Str->Option NameKind}{x:Str}{v:Value}:∀{P:List Str} {vs:List Value} {i:Nat} {m:Str->Option Value},P.Nodup->P[i]? =some x->vs[i]? =some v->kindOf x≠some .local->
  bindC kindOf (P.zip vs) m x=some v
 |[],_,_,_,_,h,_,_=>by simp at h
 |_::_,[],_,_,_,_,h,_=>by simp at h
 |p::P,w::vs,0,m,nd,h1,h2,hk=>by
  simp at h1 h2;subst h1;subst h2
  show bindC kindOf ((p,w)::P.zip vs) m p=_
  unfold bindC
  rw[q6b fun v hv=>(zbt.mp nd).1 (zcw hv).1,zd hk]
  simp
 |p::P,w::vs,i+1,m,nd,h1,h2,hk=>by
  show bindC kindOf ((p,w)::P.zip vs) m x=_
  unfold bindC
  exact q6c (i:=i) (zbt.mp nd).2 (by simpa using h1) (by simpa using h2) hk
def start (N:List Str)(vs:List V):St:=vs.map some++List.replicate (N.length - vs.length) none
def cxOf (CX:CXT)(P:Program)(w:World)(K:W.Frag)(mg:Str->Option Value)(base:Heap)(N:List Str)(qual:Str)(scope:Scope)(f:Addr)(cd:Value)(A:Around)(outer:List Env)(s:Shared)(H:Hp)(E:XK):Cx where
 prog:=P
 w:=w
 K:=K
 mg:=mg
 base:=base
 A:=A.deeper (envOfC qual scope s.heap.objs.size f cd)
 N:=N
 s₀:=s
 H₀:=H
 env:=envOfC qual scope s.heap.objs.size f cd
 outer:=outer
 stack:=envOfC qual scope s.heap.objs.size f cd::outer
 ex:=[]
 calm:=true
 fn:=fun _=>true
 pn:=[]
 xe:=fun e s'=>wpAny (model P w) (A.deeper (envOfC qual scope s.heap.objs.size f cd)) (leaving (envOfC qual scope s.heap.objs.size f cd) e) (fun _ s''=>CX outer H s E e s'') (fun e' s''=>CX outer H s E e' s'') s'
theorem q7h {sc:Scope}{n:Nat}{x:Str}(h:sc.names.lookup x=some .cell):∃c,(cellsFrom n sc.names []).lookup x=some c:=by
 have q:=PySem.W.cellsFrom_some sc.names n [] (.inl h)
 exact zaK.mp q
theorem q8H {CX:CXT}{P:Program}{w:World}{K:W.Frag}{mg:Str->Option Value}{base:Heap}{N ps:List Str}{qual:Str}{scope:Scope}{f:Addr}{cd:Value}{A:Around}{outer:List Env}{s s1:Shared}{H:Hp}{E:XK}{us:List Value}{vs:List V}
  (S:FnScope N ps scope)(hd:A.handled=none)(e0:Env0 P w K mg base A outer s H)(hl:vs.length=ps.length)(r:Vals vs us)
  (x:InCallC s s.heap.objs.size (bindL (envOfC qual scope s.heap.objs.size f cd).kindOf (ps.zip us) fun _=>none) (cellsFrom (s.heap.objs.size+1) scope.names []) (bindC (envOfC qual scope s.heap.objs.size f cd).kindOf (ps.zip us) fun _=>none) s1):
  Inv (cxOf CX P w K mg base N qual scope f cd A outer s H E) [] (start N vs) H s1:=by
 have hpl:ps.length<=N.length:=by have:=zM List.length S.pre;rw[zl] at this;omega
 obtain⟨h1,tk,rfl,hk⟩:=x.done
 have noA:∀b:Addr,b∉(cxOf CX P w K mg base N qual scope f cd A outer s H E).ex:=fun b z=>absurd (show b∈([]:List Addr) from z) (by simp)
 refine⟨⟨e0.mod,S.kind,rfl,rfl,zc _,fun y z c h1 h2=>?_,fun y hy=>?_,fun y c _ h=>?_,fun _=>hd,Around.frames_deeper e0.frames,.inr ⟨rfl,rfl⟩,fun b z=>absurd z (noA b),e0.bs,e0.bsz,fun b _ _=>noA b,fun b z=>absurd z (noA b),e0.funs,e0.frf⟩,
  rfl,e0.bare,Un.kept hk,⟨_,x.toInCall.ns,fun i y v h1 h2 h3=>?_⟩,fun y c h=>⟨_,x.cell y c h⟩,e0.hok.fresh (zc _),fun y c h=>?_,fun p hp=>absurd (show p∈([]:List (Addr×Obj)) from hp) (by simp),e0.hok.kept hk,?_⟩
 ·exact name_of_addr x.apart (zaE h1) (zaE h2)
 ·have hy:scope.names.lookup y=some .cell\/scope.names.lookup y=some .free:=hy
  rcases hy with hy|hy
  ·exact q7h hy
  ·exact absurd rfl (S.nofree _ (zaE hy))
 ·exact zbP (x.above y c (zaE h))
 ·have hi:i<vs.length:=by
   unfold start at h2
   by_cases hi:i<vs.length
   ·exact hi
   ·rw [zF (by simpa using hi)] at h2
    rw[List.getElem?_replicate] at h2
    split at h2<;>cases h2
  have ha:vs[i]? =some v:=by
   unfold start at h2
   rw[zI (by simpa using hi),zT] at h2
   cases e:vs[i]? with
   |none=>rw[e] at h2;cases h2
   |some a=>rw[e] at h2;cases h2;rfl
  obtain⟨u,hu,rv⟩:=r.get ha
  have hp:ps[i]? =some y:=by
   rw[<-S.pre,List.getElem?_take_of_lt (by omega)];exact h1
  have ndP:ps.Nodup:=by rw[<-S.pre];exact S.nd.sublist (zP _ _)
  refine⟨u,rv,?_⟩
  rcases S.par y (zbn hp) with k|k
  ·exact .inl ⟨k,q6a ndP hp hu k⟩
  ·obtain ⟨c,e⟩:=q7h (n:=s.heap.objs.size+1) k
   refine .inr ⟨.inl k,c,e,?_⟩
   have q:=x.cell y c e
   rw[q6c ndP hp hu (by show scope.names.lookup y≠_;rw[k];decide)] at q
   exact q
 ·exact e0.hok.fresh (zbP (x.above y c (zaE h)))
 ·unfold start
  show _=N.length
  rw[zk,yC,zbK]
  omega
theorem fn_of {CX:CXT}{P:Program}{w:World}{K:W.Frag}{mg:Str->Option Value}{base:Heap}{k:Nat}{f:Addr}{name qual:Str}{params:Arguments}{body:List Stmt}{scope:Scope}{dV kV doc pm cdv ct oc:Value}{an od:Option Addr}
  {osl:Array (Option Value)}{N ps:List Str}{sp:Sp}(lk:K.lookup f=some ⟨oc,od,.func (PySem.W.fnOf name qual params body scope dV kV doc pm an cdv ct),osl⟩)(hcd:PySem.W.codeIn K cdv qual=true)(S:FnScope N ps scope)
  (len:∀vs H Q E,sp vs H Q E->vs.length=ps.length)
  (hbody:∀(A:Around) (outer:List Env) (s:Shared) (H:Hp) (vs:List V) (Q:VK) (E:XK),Room k (A.deeper (envOfC qual scope s.heap.objs.size f cdv))->sp vs H Q E->
   ∃t,PSs (cxOf CX P w K mg base N qual scope f cdv A outer s H E) body t/\t {nx:=fun _ H'=>Q .non H',rt:=Q} (start N vs) H):
  FnOk P w K mg base CX (k+1) f (PySem.W.fnOf name qual params body scope dV kV doc pm an cdv ct) ps sp:=by
 refine⟨len,fun A outer s H args us vs Q E hr e0 hb r hsp=>?_⟩
 have hl:=len _ _ _ _ hsp
 have KX:K.In s.heap:=e0.mod.kin.keeps fun b o e=>(e0.bs b o e).1
 have lim:s.heap.NoLimit:=e0.mod.nolimit.keeps fun b o e=>(e0.bs b o e).1
 have hkind:∀y∈ps.zip us,scope.names.lookup y.1=some .local\/(scope.names.lookup y.1=some .cell/\((cellsFrom (s.heap.objs.size+1) scope.names []).lookup y.1).isSome=true):=fun⟨n,v⟩ hy=>by
  rcases S.par n (zcw hy).1 with q|q
  ·exact .inl q
  ·exact .inr ⟨q,PySem.W.cellsFrom_some _ _ _ (.inl q)⟩
 refine codeAny_call_function hr.depth (KX _ _ lk) rfl S.co S.gen rfl (PySem.W.codeRec_of KX hcd) (hb _ _ _ _ ?_)
 refine wpAny_newFunctionEnv_cells S.kind hkind fun env he s1 x=>?_
 subst he
 refine⟨lim.keeps x.toInCall.keep,codeAny_func ?_⟩
 obtain⟨t,ht,hq⟩:=hbody A outer s H vs Q E (hr.deeper _) hsp
 have I:Inv (cxOf CX P w K mg base N qual scope f cdv A outer s H E) [] (start N vs) H s1:=q8H S hr.hd e0 hl r x
 refine zak (ht [] s1 (start N vs) H _ I hq) (fun fl s' hs=>?_) fun e s' hs=>hs
 have fin:∀{σ':St} {H':Hp} {v:V} {u:Value},Inv (cxOf CX P w K mg base N qual scope f cdv A outer s H E) [] σ' H' s'->RelV v u->Q v H'->CE outer P w H s Q u s':=
  fun {σ' H' v u} J rv q=>⟨v,H',J.os,J.bare,J.base,J.hok,rv,q⟩
 cases fl with
 |ret u=>
  obtain⟨v,σ',H',J,rv,q⟩:=hs
  exact fin J rv q
 |next=>
  obtain⟨σ',H',J,q⟩:=hs
  exact fin (v:=V.non) (u:=Value.none) J rfl q
 |brk=>
  obtain⟨_,_,_,q⟩:=hs
  exact False.elim q
 |cont=>
  obtain⟨_,_,_,q⟩:=hs
  exact False.elim q
section
variable {X:Cx}{x:Str}{p pos:Pos}{e:Expr}{es:List Expr}{t:TA}{id T:String}{r:List V->Hp->VK->Prop}
def tCB (r:List V->Hp->VK->Prop)(t:TA):TE:=fun σ H Q=>t σ H fun vs H1=>r vs H1 Q
theorem qx (hc:q17 X (.builtin id) r)(hg:Gl X x)(hm:X.mg x=none)(hv:bootBuiltins x=some (.builtin id))(ha:PA X (e::es) t)(hn:x≠"__name__":=by decide)(hdb:(x==("__debug__":Str))=false:=by decide)
  (he:starEach (e::es) X.env=(false,eval e X.env)::starEach es X.env:=by rfl)(hpl:(backTo pos (starEach es X.env)).any (·.1)=false:=by rfl):PE X (.Call (.Name x p) (e::es) [] pos) (tCB r t):=by
 intro pins s σ H Q I h
 refine zbe (q47 I hg hm hv ?_ hn hdb)
 exact PyProof.Rows.callWith_builtin1 (thn (ha pos pins s σ H _ I h) fun us s1 ⟨vs,H1,I1,r1,q1⟩=>hc pins s1 σ H1 vs us Q I1 r1 q1) he hpl
theorem q0L (hc:q17 X (.type T) r)(hg:Gl X x)(hm:X.mg x=none)(hv:bootBuiltins x=some (.type T))(ha:PA X (e::es) t)(hn:x≠"__name__":=by decide)(hdb:(x==("__debug__":Str))=false:=by decide)
  (he:starEach (e::es) X.env=(false,eval e X.env)::starEach es X.env:=by rfl)(hpl:(backTo pos (starEach es X.env)).any (·.1)=false:=by rfl):PE X (.Call (.Name x p) (e::es) [] pos) (tCB r t):=by
 intro pins s σ H Q I h
 refine zbe (q47 I hg hm hv ?_ hn hdb)
 exact zaC (thn (ha pos pins s σ H _ I h) fun us s1 ⟨vs,H1,I1,r1,q1⟩=>hc pins s1 σ H1 vs us Q I1 r1 q1) he hpl
end
end L2
namespace HT
open PySem PyProof.Rows
section
variable {prog:Program}{w:World}{A:Around}{E:Value->Shared->Prop}{s:Shared}
theorem qcq {t b:Addr}{vs ws:List Value}{Q:Value->Shared->Prop}(ht:IsTup s.heap t vs.toArray)(hb:IsTup s.heap b ws.toArray)(hv:vs≠[])
  (h1:ws=[]->Q (.ref t) s)(h2:ws≠[]->Q (.ref s.heap.objs.size) {s with heap:=s.heap.push {cls:= .type "tuple",data:= .seq (vs++ws).toArray}})
  (hsz:vs.length+ws.length<=sizeLine):wpAny (model prog w) A (binaryOp .Add (.ref t) (.ref b)) Q E s:=by
 obtain⟨⟨cls,dd,data,sl⟩,ho,hc,n,hd⟩:=id ht
 obtain⟨⟨cls2,dd2,data2,sl2⟩,ho2,hc2,n2,hd2⟩:=id hb
 simp only at hc hd hc2 hd2
 subst hc hd hc2 hd2
 have e:vs.toArray++ws.toArray=(vs++ws).toArray:=by simp
 by_cases hw:ws=[]
 ·exact concat_meets ⟨_,ho,rfl⟩ ⟨_,ho2,rfl⟩ noFill_tuple_add seq_tuple_add zbG zbB (zbx _ _)
   (tuple_addW1 t b vs.toArray ws.toArray n n2 dd dd2 sl sl2 (by simpa using hv) (by simp[hw])) ⟨ho,ho2,h1 hw⟩
 ·refine concat_meets ⟨_,ho,rfl⟩ ⟨_,ho2,rfl⟩ noFill_tuple_add seq_tuple_add zbG zbB (zbx _ _)
   (tuple_addW2 t b vs.toArray ws.toArray n n2 dd dd2 sl sl2 (by simpa using hv) (by simpa using hw) (by rw[List.size_toArray,List.size_toArray];exact hsz)) ⟨ho,ho2,?_⟩
  rw[e]
  exact h2 hw
def sIx (n d:Nat):Option Int->Nat
 |none=>d
 |some v=>if v<0 then(v+(n:Int)).toNat else min v.toNat n
theorem q6V (n d:Nat):sIx n d none=d:=rfl
theorem q4U (n d k:Nat):sIx n d (some (k:Int))=min k n:=by
 show(if (k:Int)<0 then((k:Int)+(n:Int)).toNat else min (k:Int).toNat n)=min k n
 rw[zd (by omega),zh]
theorem sIx_le (n d:Nat)(hd:d<=n)(o:Option Int):sIx n d o<=n:=by
 cases o with
 |none=>exact hd
 |some v=>
  show(if v<0 then(v+(n:Int)).toNat else min v.toNat n)<=n
  by_cases hv:v<0
  ·rw [zj hv];omega
  ·rw [zd hv];exact Nat.min_le_right _ _
theorem q9b (v:Int)(n d:Nat):(if v<0 then max (v+(n:Int)) 0 else min v (n:Int))=((sIx n d (some v):Nat):Int):=by
 show(if v<0 then max (v+(n:Int)) 0 else min v (n:Int))=(((if v<0 then(v+(n:Int)).toNat else min v.toNat n):Nat):Int)
 by_cases hv:v<0
 ·simp only[if_pos hv];omega
 ·simp only[if_neg hv];omega
theorem q7S (lo hi:Option Int)(n:Nat):Builtin.Slice.sliceAdjust lo hi 1 (n:Int)=(((sIx n 0 lo:Nat):Int),((sIx n n hi:Nat):Int)):=by
 have h1:¬((1:Int)<0):=by omega
 unfold Builtin.Slice.sliceAdjust
 simp only[h1,if_false]
 refine Prod.ext ?_ ?_
 ·cases lo with
  |none=>rfl
  |some v=>exact q9b v n 0
 ·cases hi with
  |none=>rfl
  |some v=>exact q9b v n n
theorem q7w (i j:Nat):Builtin.Slice.slicePlaces (i:Int) (j:Int) 1=j - i:=by
 unfold Builtin.Slice.slicePlaces
 have h1:(1:Int)>0:=by omega
 simp only[h1,if_true,Int.ediv_one]
 split<;>omega
theorem q4v {v:Value}{o:Option Int}{Q:Option Int->Shared->Prop}(p:IsPart v o)(h:Q o s):wpAny (model prog w) A (Builtin.Slice.slicePartIndex v) Q E s:=by
 cases p with
 |none=>exact slicePart_none h
 |int i t=>exact slicePart_int h
theorem q26 {sl:Addr}{vl vu:Value}{lo hi:Option Int}{n:Nat}{Q:Int×Int×Nat->Shared->Prop}(hs:s.heap.IsSliceOf sl vl vu .none)(pl:IsPart vl lo)(pu:IsPart vu hi)
  (h:Q (((sIx n 0 lo:Nat):Int),1,sIx n n hi - sIx n 0 lo) s):wpAny (model prog w) A (Builtin.Slice.sliceApplied (.ref sl) (pure (n:Int))) Q E s:=by
 obtain⟨os,hos,hcs,hds⟩:=id hs
 unfold Builtin.Slice.sliceApplied Builtin.Slice.sliceFields
 refine yD (yD (zbr hos hds (x:=vl) rfl (yD (zbr hos hds (x:=vu) rfl (yD (zbr hos hds (x:= .none) rfl (zg ?_)))))))
 refine yD (slicePart_none ?_)
 show wpAny _ _ (if ((1:Int)==0)=true then _ else _) _ _ s
 rw[zd (by decide)]
 refine yD (q4v pl (yD (q4v pu (yD (zg ?_)))))
 show wpAny _ _ (match Builtin.Slice.sliceAdjust lo hi 1 (n:Int) with|(lo,hi)=>pure (lo,(1:Int),Builtin.Slice.slicePlaces lo hi 1)) _ _ s
 rw[q7S lo hi n]
 show wpAny _ _ (pure (((sIx n 0 lo:Nat):Int),(1:Int),Builtin.Slice.slicePlaces ((sIx n 0 lo:Nat):Int) ((sIx n n hi:Nat):Int) 1)) _ _ s
 rw[q7w]
 exact zg h
theorem q9N (xs:Array Value)(i k:Nat):((List.range k).filterMap fun(m:Nat)=>xs[((i:Int)+(m:Int)*1).toNat]?).toArray=((xs.toList.drop i).take k).toArray:=by
 have e:(fun(m:Nat)=>xs[((i:Int)+(m:Int)*1).toNat]?)=fun m=>xs[i+m]? :=by
  funext m
  have:((i:Int)+(m:Int)*1).toNat=i+m:=by omega
  rw[this]
 rw[e]
 have:=pick_run xs i k
 rw[List.filterMap_map] at this
 have e2:((fun x=>xs[x]?) ∘ fun x=>i+x)=fun m=>xs[i+m]? :=rfl
 rw[e2] at this
 rw[this]
theorem q3f {t sl:Addr}{items:Array Value}{vl vu:Value}{lo hi:Option Int}{Q:Value->Shared->Prop}(ht:IsTup s.heap t items)(hs:s.heap.IsSliceOf sl vl vu .none)(pl:IsPart vl lo)(pu:IsPart vu hi)
  (hw:¬(sIx items.size 0 lo=0/\sIx items.size items.size hi=items.size))
  (h:Q (.ref s.heap.objs.size) {s with heap:=s.heap.push {cls:= .type "tuple",data:= .seq ((items.toList.drop (sIx items.size 0 lo)).take (sIx items.size items.size hi - sIx items.size 0 lo)).toArray}})
  (hsz:items.size<=sizeLine):wpAny (model prog w) A (getItem (.ref t) (.ref sl)) Q E s:=by
 have htake:sizeOk (.seq ((items.toList.drop (sIx items.size 0 lo)).take (sIx items.size items.size hi - sIx items.size 0 lo)).toArray):=by
  show((items.toList.drop (sIx items.size 0 lo)).take (sIx items.size items.size hi - sIx items.size 0 lo)).toArray.size<=sizeLine
  rw[zw,zl,zS,zE]
  omega
 have hj:sIx items.size items.size hi<=items.size:=sIx_le _ _ (zc _) hi
 obtain⟨os,hos,hcs,hds⟩:=id hs
 have hTs:s.TypeIs (.ref sl) "slice":=⟨os,hos,hcs⟩
 unfold getItem
 try with_reducible refine zaX ?_
 first|refine yD (zg ?_)|skip
 refine yD (wpAny_sequenceKey ht.typeIs (by decide) ?_)
 refine yD (zap (name:=Str.ofString "__getitem__") ht.typeIs zai
  (zaH zai ht.typeIs entry_tuple_getitem ?_ (args_tuple_getitem _ _)))
 show wpAny _ _ (Builtin.Tuple.tupleItemsOf (.ref t) >>= _) _ _ s
 refine yD (tupleItemsOf_ ht ?_)
 refine yD (wpAny_typeOf hTs ?_)
 rw[zj (by decide)]
 refine yD (q26 hs pl pu ?_)
 have hno:¬((((sIx items.size 0 lo:Nat):Int)==0&&(1:Int)==1&&(sIx items.size items.size hi - sIx items.size 0 lo)==items.size)=true):=by
  intro q
  rw[zbI,zbI] at q
  have q1:((sIx items.size 0 lo:Nat):Int)=0:=eq_of_beq q.1.1
  have q2:sIx items.size items.size hi - sIx items.size 0 lo=items.size:=eq_of_beq q.2
  exact hw ⟨by omega,by omega⟩
 show wpAny _ _ (if (((sIx items.size 0 lo:Nat):Int)==0&&(1:Int)==1&&(sIx items.size items.size hi - sIx items.size 0 lo)==items.size)=true then _ else _) _ _ s
 rw[zd hno,q9N]
 first
  |exact yD (m:=Builtin.Tuple.tupleExact _) (zal (zg ⟨_,rfl,zg h⟩) htake)
  |exact yD (m:=Builtin.Tuple.tupleExact _) (zal (yD (zg (zg ⟨_,rfl,zg h⟩))) htake)
  |exact yD (yD (m:=Builtin.Tuple.tupleExact _) (zal (zg (zg ⟨_,rfl,zg h⟩)) htake))
  |exact yD (yD (m:=Builtin.Tuple.tupleExact _) (zal (zg ⟨_,rfl,zg h⟩) htake))
end
end HT
namespace L2
open PySem PySem.Spec PyProof.Rows
abbrev TO:=St->Hp->(Option Int->Hp->Prop)->Prop
def PO (X:Cx)(e:Option Expr)(t:TO):Prop:=
 ∀(pins:List (Addr×Obj)) (s:Shared) (σ:St) (H:Hp) (Q:Option Int->Hp->Prop),Inv X pins σ H s->t σ H Q->
  wpAny (model X.prog X.w) X.A (evalPart e X.env) (fun u s'=>∃o H',Inv X pins σ H' s'/\IsPart u o/\Q o H') X.xe s
def q7Y:TO:=fun _ H Q=>Q none H
def tPart (t:TE):TO:=fun σ H Q=>t σ H fun x H1=>∃i,x= .int i/\Q (some i) H1
theorem q2t {ns:List Int}:∀{us:List Value},Vals (ns.map V.int) us->IntsAre us ns:=by
 induction ns with
 |nil=>intro us r;rw[zct] at r;cases r;exact .nil
 |cons n ns ih=>
  intro us r
  rw[z8] at r
  cases r with
  |cons r1 r2=>
   obtain⟨t,e⟩:=r1
   subst e
   exact .cons n t (ih r2)
section
variable {X:Cx}{e:Expr}{te:TE}{lo hi:Option Expr}{tl th:TO}{pos p2:Pos}
theorem q0A:PO X none q7Y:=by
 intro pins s σ H Q I h
 rw[evalPart_none]
 exact zg ⟨none,H,I,.none,h⟩
theorem q00 (h:PE X e te):PO X (some e) (tPart te):=by
 intro pins s σ H Q I hw
 rw[evalPart_some]
 refine thn (h pins s σ H _ I hw) fun u s1 ⟨x,H1,I1,r1,q1⟩=>?_
 obtain⟨i,rfl,q⟩:=q1
 obtain⟨t,rfl⟩:=r1
 exact⟨some i,H1,I1,.int i t,q⟩
def SlR (X:Cx)(r:V->Option Int->Option Int->Hp->VK->Prop):Prop:=
 ∀(pins:List (Addr×Obj)) (s:Shared) (σ:St) (H:Hp) (x:V) (v vl vu:Value) (lo hi:Option Int) (sl:Addr) (Q:VK),Inv X pins σ H s->RelV x v->s.heap.IsSliceOf sl vl vu .none->IsPart vl lo->IsPart vu hi->r x lo hi H Q->
  ∃T id,typeLookup (.type T) "__getitem__"=pure (some (.builtin id))/\s.TypeIs v T/\wpAny (model X.prog X.w) X.A (getItem v (.ref sl)) (EP X pins σ Q) X.xe s
def tSl (r:V->Option Int->Option Int->Hp->VK->Prop)(te:TE)(tl th:TO):TE:=fun σ H Q=>te σ H fun x H1=>tl σ H1 fun l H2=>th σ H2 fun u H3=>r x l u H3 Q
theorem qX {r:V->Option Int->Option Int->Hp->VK->Prop}(hr:SlR X r)(he:PE X e te)(hl:PO X lo tl)(hu:PO X hi th):PE X (.Subscript e (.Slice lo hi none p2) pos) (tSl r te tl th):=by
 intro pins s σ H Q I h
 refine Subscript_ (thn (he pins s σ H _ I h) fun v s1 ⟨x,H1,I1,r1,q1⟩=>?_)
 refine wpAny_Slice (thn (hl pins s1 σ H1 _ I1 q1) fun vl s2 ⟨l,H2,I2,pl,q2⟩=>thn (hu pins s2 σ H2 _ I2 q2) fun vu s3 ⟨u,H3,I3,pu,q3⟩=>?_)
 rw[evalPart_none]
 refine zg ?_
 have I4:Inv X pins σ H3 {s3 with heap:=s3.heap.push {cls:= .type "slice",data:= .fields #[vl,vu,.none]}}:=I3.kept (t':=s3.toks) fun b ob q=>zo _ q
 obtain⟨T,id,hT,ht,hg⟩:=hr pins {s3 with heap:=s3.heap.push {cls:= .type "slice",data:= .fields #[vl,vu,.none]}} σ H3 x v vl vu l u s3.heap.objs.size Q I4 r1 (Heap.IsSliceOf.new ..) pl pu q3
 show wpAny (model X.prog X.w) X.A (subscriptTail e (.Slice lo hi none p2) v (.ref s3.heap.objs.size)) (EP X pins σ Q) X.xe {s3 with heap:=s3.heap.push {cls:= .type "slice",data:= .fields #[vl,vu,.none]}}
 exact tail_any (ops:=[.ref s3.heap.objs.size,v]) ht hT hg (by with_unfolding_all rfl)
def cutV (xs:List V)(lo hi:Option Int):List V:=(xs.drop (HT.sIx xs.length 0 lo)).take (HT.sIx xs.length xs.length hi - HT.sIx xs.length 0 lo)
theorem q4e (xs:List V)(lo hi:Option Int):(cutV xs lo hi).length<=xs.length:=by
 unfold cutV
 rw[zl,zS]
 omega
def rSlT (K:W.Frag):V->Option Int->Option Int->Hp->VK->Prop:=fun x lo hi H Q=>∃a xs,x= .ref a/\SqT K H a xs/\
 ¬(HT.sIx xs.length 0 lo=0/\HT.sIx xs.length xs.length hi=xs.length)/\∀p,H p=none->Q (.ref p) (upd H p (.tup (cutV xs lo hi)))
theorem sl_tup:SlR X (rSlT X.K):=by
 intro pins s σ H x v vl vu lo hi sl Q I rx hs pl pu h
 obtain⟨a,xs,rfl,hx,hw,q⟩:=h
 cases rx
 obtain⟨its,r,ht,hz⟩:=I.tuple hx
 have hlen:its.toArray.size=xs.length:=by rw[zw];exact r.length.symm
 refine⟨"tuple",_,zai.lookup,ht.typeIs,?_⟩
 refine HT.q3f ht hs pl pu (by rw[hlen];exact hw) ?_ (by rw[hlen];exact hz)
 rw[hlen]
 refine⟨.ref s.heap.objs.size,_,I.laid (t':=s.toks) (o:= .tup (cutV xs lo hi)) (fun b ob q=>zo _ q) (zc _) ?_,rfl,q _ (I.hok.fresh (zc _))⟩
 exact⟨zab (q4e xs lo hi) hz,_,(r.drop (HT.sIx xs.length 0 lo)).take (HT.sIx xs.length xs.length hi - HT.sIx xs.length 0 lo),IsTup.new _ _⟩
def rCatT (K:W.Frag):R2:=fun x y H Q=>∃a b xs ys,x= .ref a/\y= .ref b/\SqT K H a xs/\SqT K H b ys/\xs≠[]/\xs.length+ys.length<=sizeLine/\
 (ys=[]->Q (.ref a) H)/\(ys≠[]->∀p,H p=none->Q (.ref p) (upd H p (.tup (xs++ys))))
theorem Vals.nil_iff {xs:List V}{us:List Value}(r:Vals xs us):us=[]↔xs=[]:=by
 cases r with
 |nil=>simp
 |cons _ _=>simp
theorem q8u:OpR X (binaryOp .Add) (rCatT X.K):=by
 intro pins s σ H x y v u Q I rx ry h
 obtain⟨a,b,xs,ys,rfl,rfl,ha,hb,hx,hz,q1,q2⟩:=h
 cases rx
 cases ry
 obtain⟨its,r1,p1,_⟩:=I.tuple ha
 obtain⟨its2,r2,p2,_⟩:=I.tuple hb
 refine HT.qcq p1 p2 (fun z=>hx (r1.nil_iff.mp z)) (fun z=>⟨.ref a,H,I,rfl,q1 (r2.nil_iff.mp z)⟩) (fun z=>?_) (by rw[<-r1.length,<-r2.length];exact hz)
 refine⟨.ref s.heap.objs.size,_,I.laid (t':=s.toks) (o:= .tup (xs++ys)) (fun b ob q=>zo _ q) (zc _) ?_,rfl,q2 (fun w=>z (r2.nil_iff.mpr w)) _ (I.hok.fresh (zc _))⟩
 exact⟨by rw[zk];exact hz,_,r1.append r2,IsTup.new _ _⟩
end
def ixN (n:Nat)(i:Int):Option Nat:=if 0<=i then(if i<n then some i.toNat else none) else if -(n:Int)<=i then some (i+n).toNat else none
def atI {α:Type}(xs:List α)(i:Int):Option α:=(ixN xs.length i).bind fun j=>xs[j]?
theorem q8F {n:Nat}{i:Int}{j:Nat}(h:ixN n i=some j):seqIndex? i n=some j/\j<n/\ -(n:Int)<=i/\i<n:=by
 unfold ixN at h
 by_cases h0:0<=i
 ·rw [zj h0] at h
  by_cases h1:i<n
  ·rw [zj h1] at h
   have e:i.toNat=j:=zD h
   exact⟨by rw[seqIndex_of h0 h1,e],by omega,by omega,h1⟩
  ·rw [zd h1] at h;cases h
 ·rw [zd h0] at h
  by_cases h1: -(n:Int)<=i
  ·rw [zj h1] at h
   have e:(i+n).toNat=j:=zD h
   exact⟨by rw[seqIndex_neg (by omega) h1,e],by omega,h1,by omega⟩
  ·rw [zd h1] at h;cases h
theorem q6I {α:Type}{xs:List α}{i:Int}{v:α}(h:atI xs i=some v):∃j,seqIndex? i xs.length=some j/\xs[j]? =some v/\j<xs.length/\ -(xs.length:Int)<=i/\i<xs.length:=by
 unfold atI at h
 cases e:ixN xs.length i with
 |none=>rw[e] at h;cases h
 |some j=>
  rw[e] at h
  obtain⟨h1,h2,h3,h4⟩:=q8F e
  exact⟨j,h1,h,h2,h3,h4⟩
theorem q0H {α:Type}{xs:List α}{j:Nat}{v:α}(h:xs[j]? =some v):atI xs (j:Int)=some v:=by
 have hj:j<xs.length:=(yA h).1
 have e:ixN xs.length (j:Int)=some j:=by
  unfold ixN
  rw[zj (by omega),zj (by omega)];simp
 unfold atI;rw[e];exact h
def qcv (b:Expr):Prop:=∀o i,subscripted b false o i=operate [o,i] (getItem o i)
def IxR (X:Cx)(r:R2):Prop:=
 ∀(value slice:Expr) (pins:List (Addr×Obj)) (s:Shared) (σ:St) (H:Hp) (x y:V) (v u:Value) (Q:VK),Inv X pins σ H s->RelV x v->RelV y u->r x y H Q->
  subscripted slice false v u=operate [v,u] (getItem v u)->wpAny (model X.prog X.w) X.A (subscriptTail value slice v u) (EP X pins σ Q) X.xe s
def MtR (X:Cx)(id:String)(r:V->List V->Hp->VK->Prop):Prop:=
 ∀(pins:List (Addr×Obj)) (s:Shared) (σ:St) (H:Hp) (x:V) (xs:List V) (v:Value) (us:List Value) (Q:VK),Inv X pins σ H s->RelV x v->Vals xs us->r x xs H Q->
  wpAny (model X.prog X.w) X.A (call (.builtin id) (v::us)) (EP X pins σ Q) X.xe s
section
variable {X:Cx}{a b:Expr}{ta tb:TE}{pos:Pos}
theorem qj {r:R2}(hr:IxR X r)(ha:PE X a ta)(hb:PE X b tb)(hs:qcv b):PE X (.Subscript a b pos) (tOp r ta tb):=by
 intro pins s σ H Q I h
 exact Subscript_ (binT ha hb I h fun v u s2 x y H2 I2 rx ry q=>hr a b pins s2 σ H2 x y v u Q I2 rx ry q (hs _ _))
def rIxL (K:W.Frag):R2:=fun x y H Q=>∃p xs i v,x= .ref p/\y= .int i/\SqL K H p xs/\atI xs i=some v/\Q v H
def rIxT (K:W.Frag):R2:=fun x y H Q=>∃p xs i v,x= .ref p/\y= .int i/\SqT K H p xs/\atI xs i=some v/\Q v H
theorem qc9:IxR X (rIxL X.K):=by
 intro value slice pins s σ H x y v u Q I rx ry h hs
 obtain⟨p,xs,i,z,rfl,rfl,hq,he,q⟩:=h
 cases rx
 obtain⟨t,rfl⟩:=ry
 obtain⟨its,r,pl,hz⟩:=I.list hq
 obtain⟨j,h1,h2,h3,h4,h5⟩:=q6I he
 obtain⟨w,ew,rw'⟩:=r.get h2
 have hl:=r.length
 have hn:=q5W
 have fin:EP X pins σ Q w s:=⟨z,H,I,rw',q⟩
 by_cases h0:0<=i
 ·have hj:i.toNat=j:=by
   rw[seqIndex_of h0 h5] at h1
   exact zD h1
  exact item_listR pl.isList h0 (by omega) (by rw[hj];simpa using ew) fin hs
 ·have hj:(i+(its.toArray.size:Int)).toNat=j:=by
   rw[seqIndex_neg (by omega) h4] at h1
   rw[zw,<-hl]
   exact zD h1
  exact subscriptTail_builtinR (x:=w) pl.isList.typeIs slot_list_getitem.lookup
   (wpAny_getItem_list_neg (Q:=fun r s'=>r=w/\EP X pins σ Q r s') pl.isList (by omega) (by rw[zw]<;>omega) (by omega) (by rw[hj];simpa using ew) ⟨rfl,fin⟩) hs
theorem ix_tup:IxR X (rIxT X.K):=by
 intro value slice pins s σ H x y v u Q I rx ry h hs
 obtain⟨p,xs,i,z,rfl,rfl,hq,he,q⟩:=h
 cases rx
 obtain⟨t,rfl⟩:=ry
 obtain⟨its,r,pl,hz⟩:=I.tuple hq
 obtain⟨j,h1,h2,h3,h4,h5⟩:=q6I he
 obtain⟨w,ew,rw'⟩:=r.get h2
 have hl:=r.length
 have hn:=q5W
 have fin:EP X pins σ Q w s:=⟨z,H,I,rw',q⟩
 exact subscriptTail_builtinR (x:=w) pl.typeIs slot_tuple_getitem.lookup
  (getItem_tuple (j:=j) (Q:=fun r s'=>r=w/\EP X pins σ Q r s') pl (by omega) (by omega) (by rw[zw,<-hl];exact h1) (by simpa using ew) ⟨rfl,fin⟩) hs
theorem q7H (its:List Value)(n j:Nat)(u:Value):Obj.mapSeq (·.setIfInBounds j u) {cls:= .type "list",data:= .seq its.toArray n}={cls:= .type "list",data:= .seq (its.set j u).toArray n}:=by
 simp[Obj.mapSeq]
theorem Inv.lst {pins:List (Addr×Obj)}{σ:St}{H:Hp}{s:Shared}{p:Addr}{xs:List V}(I:Inv X pins σ H s)(h:H p=some (.lst xs)):
  ∃(its:List Value) (n:Nat),Vals xs its/\s.heap.get? p=some {cls:= .type "list",data:= .seq its.toArray n}/\xs.length<=sizeLine:=by
 obtain⟨z,its,n,r,e⟩:=I.hok p _ h
 exact⟨its,n,r,e,z⟩
theorem Inv.lstUpd {pins:List (Addr×Obj)}{σ:St}{H:Hp}{s:Shared}{p:Addr}{xs ys:List V}{its its':List Value}{n n':Nat}{f:Obj->Obj}(I:Inv X pins σ H s)(h:H p=some (.lst xs))
  (ho:s.heap.get? p=some {cls:= .type "list",data:= .seq its.toArray n})(hf:f {cls:= .type "list",data:= .seq its.toArray n}={cls:= .type "list",data:= .seq its'.toArray n'})(r:Vals ys its')(hz:ys.length<=sizeLine)(t:Nat):
  Inv X pins σ (upd H p (.lst ys)) {s with heap:=s.heap.update p f,toks:=t}:=by
 have e:(s.heap.update p f).get? p=some {cls:= .type "list",data:= .seq its'.toArray n'}:=by
  rw[zbL f ho (by rw[hf]<;>rfl),hf]
 refine I.write (x:=p) (e:=p) (by rw[h];trivial) (.inl rfl) (fun b u hb q=>(Heap.get?_update_other _ _ (Ne.symm hb)).trans q) ⟨_,e⟩ ?_
 exact⟨hz,its',n',r,e⟩
def rSetL:V->V->V->Hp->(Hp->Prop)->Prop:=fun o i v H Q=>∃p xs k j,o= .ref p/\i= .int k/\H p=some (.lst xs)/\ixN xs.length k=some j/\Q (upd H p (.lst (xs.set j v)))
theorem q6R:PSet X rSetL:=by
 intro pins s σ H o i v ov iv u Q I ro ri rv h
 obtain⟨p,xs,k,j,rfl,rfl,hp,hj,q⟩:=h
 cases ro
 obtain⟨t,rfl⟩:=ri
 obtain⟨its,n,r,ho,hz⟩:=I.lst hp
 obtain⟨h1,h2,h3,h4⟩:=q8F hj
 have hl:=r.length
 have hn:=q5W
 have I':Inv X pins σ (upd H p (.lst (xs.set j v))) {s with heap:=s.heap.update p (Obj.mapSeq (·.setIfInBounds j u))}:=
  I.lstUpd hp ho (q7H its n j u) (r.set rv j) (by rw[List.length_set];exact hz) s.toks
 by_cases h0:0<=k
 ·have hk:k.toNat=j:=by
   rw[seqIndex_of h0 h4] at h1
   exact zD h1
  exact PySem.W.ki_setAt ho h0 (by omega) (by rw[zw,<-hl];exact h4) (by rw[hk];exact⟨_,I',q⟩)
 ·have hk:(k+(its.toArray.size:Int)).toNat=j:=by
   rw[seqIndex_neg (by omega) h3] at h1
   rw[zw,<-hl]
   exact zD h1
  exact PySem.W.ki_setBack ho (by omega) (by rw[zw,<-hl];exact h3) (by omega) (by rw[hk];exact⟨_,I',q⟩)
theorem q5s (lo hi:Option Int)(n:Nat):(sliceBounds lo hi none n).1=((HT.sIx n 0 lo:Nat):Int)/\(sliceBounds lo hi none n).2.1=((HT.sIx n n hi:Nat):Int)/\(sliceBounds lo hi none n).2.2=1:=by
 refine⟨?_,?_,rfl⟩
 ·cases lo with
  |none=>simp[sliceBounds,HT.sIx]
  |some i=>
   simp only[sliceBounds,HT.sIx,Option.getD_none,show(1:Int)>0 by decide,if_true]
   by_cases h:i<0
   ·simp only[h,if_true]<;>omega
   ·simp only[h,if_false]<;>omega
 ·cases hi with
  |none=>simp[sliceBounds,HT.sIx]
  |some i=>
   simp only[sliceBounds,HT.sIx,Option.getD_none,show(1:Int)>0 by decide,if_true]
   by_cases h:i<0
   ·simp only[h,if_true]<;>omega
   ·simp only[h,if_false]<;>omega
theorem q4M (its:List Value)(lo hi:Option Int):slicePick its.toArray lo hi none=((its.drop (HT.sIx its.length 0 lo)).take (HT.sIx its.length its.length hi - HT.sIx its.length 0 lo)).toArray:=by
 obtain⟨h1,h2,h3⟩:=q5s lo hi its.toArray.size
 unfold slicePick
 rw[h1,h2,h3]
 simp only[sliceRange_one,pick_run,List.size_toArray]<;>rfl
def rSlL (K:W.Frag):V->Option Int->Option Int->Hp->VK->Prop:=fun x lo hi H Q=>∃a xs,x= .ref a/\SqL K H a xs/\∀p,H p=none->Q (.ref p) (upd H p (.lst (cutV xs lo hi)))
theorem qbm:SlR X (rSlL X.K):=by
 intro pins s σ H x v vl vu lo hi sl Q I rx hs pl pu h
 obtain⟨a,xs,rfl,hx,q⟩:=h
 cases rx
 obtain⟨its,r,ht,hz⟩:=I.list hx
 have hlen:=r.length
 refine⟨"list",_,slot_list_getitem.lookup,ht.isList.typeIs,?_⟩
 refine wpAny_getItem_list_slice ht.isList hs pl pu .none (by simp) ?_ (by rw[List.size_toArray]<;>omega)
 rw[q4M,<-hlen]
 refine⟨.ref s.heap.objs.size,_,I.laid (t':=s.toks) (o:= .lst (cutV xs lo hi)) (fun b ob q=>zo _ q) (zc _) ?_,rfl,q _ (I.hok.fresh (zc _))⟩
 exact⟨zab (q4e xs lo hi) hz,_,0,(r.drop (HT.sIx xs.length 0 lo)).take (HT.sIx xs.length xs.length hi - HT.sIx xs.length 0 lo),zC _ rfl⟩
def q3i:V->Bool
 | .non=>true
 | .bl _=>true
 | .int _=>true
 | .str _=>true
 |_=>false
def eqV:V->V->Bool
 | .non,.non=>true
 | .bl a,.bl b=>a==b
 | .bl a,.int b=>(if a then 1 else 0)==b
 | .int a,.bl b=>a==(if b then 1 else 0)
 | .int a,.int b=>a==b
 | .str a,.str b=>a==b
 |_,_=>false
theorem q8V {A:Around}{s:Shared}{y x:V}{u v:Value}(ry:RelV y u)(rx:RelV x v)(fy:q3i y=true)(fx:q3i x=true):SeqAt.EqAt A s u v (eqV y x):=by
 cases y with
 |non=>
  cases ry
  cases x with
  |non=>cases rx;exact SeqAt.EqAt.same _
  |bl b=>cases rx;exact SeqAt.EqAt.none_bool b
  |int b=>obtain⟨t,rfl⟩:=rx;exact SeqAt.EqAt.none_int b t
  |str b=>obtain⟨t,rfl⟩:=rx;exact SeqAt.EqAt.none_str b t
  |_=>exact absurd (show false=true from fx) zp
 |bl a=>
  cases ry
  cases x with
  |non=>cases rx;exact SeqAt.EqAt.bool_none a
  |bl b=>cases rx;exact SeqAt.EqAt.bool_bool a b
  |int b=>obtain⟨t,rfl⟩:=rx;exact SeqAt.EqAt.bool_int a b t
  |str b=>obtain⟨t,rfl⟩:=rx;exact SeqAt.EqAt.bool_str a b t
  |_=>exact absurd (show false=true from fx) zp
 |int a=>
  obtain⟨t',rfl⟩:=ry
  cases x with
  |non=>cases rx;exact SeqAt.EqAt.int_none a t'
  |bl b=>cases rx;exact SeqAt.EqAt.int_bool a t' b
  |int b=>obtain⟨t,rfl⟩:=rx;exact SeqAt.EqAt.int_int a t' b t
  |str b=>obtain⟨t,rfl⟩:=rx;exact SeqAt.EqAt.int_str a t' b t
  |_=>exact absurd (show false=true from fx) zp
 |str a=>
  obtain⟨t',rfl⟩:=ry
  cases x with
  |non=>cases rx;exact SeqAt.EqAt.str_none a t'
  |bl b=>cases rx;exact SeqAt.EqAt.str_bool a t' b
  |int b=>obtain⟨t,rfl⟩:=rx;exact SeqAt.EqAt.str_int a t' b t
  |str b=>obtain⟨t,rfl⟩:=rx;exact SeqAt.EqAt.str_str a t' b t
  |_=>exact absurd (show false=true from fx) zp
 |_=>exact absurd (show false=true from fy) zp
theorem q67:q17 X (.builtin "len") (fun xs H Q=>∃p ys,xs=[.ref p]/\(SqL X.K H p ys\/SqT X.K H p ys)/\Q (.int ys.length) H):=by
 intro pins s σ H xs us Q I r h
 obtain⟨p,ys,rfl,hq,q⟩:=h
 obtain⟨u,rfl,rx⟩:=q2K r
 cases rx
 have hn:=q5W
 rcases hq with hq|hq
 ·obtain ⟨its,r',pl,hz⟩:=I.list hq
  have hlen:=r'.length
  exact Calls.call_len_list pl.isList (by simp only[List.size_toArray]<;>omega) ⟨.int ys.length,H,I.tok _,⟨s.toks+1,by rw[zw,hlen]⟩,q⟩
 ·obtain ⟨its,r',pl,hz⟩:=I.tuple hq
  have hlen:=r'.length
  exact len_tuple pl (by simp only[List.size_toArray]<;>omega) ⟨.int ys.length,H,I.tok _,⟨s.toks+1,by rw[zw,hlen]⟩,q⟩
theorem q66:q17 X (.type "list") (fun xs H Q=>∃p ys,xs=[.ref p]/\(SqL X.K H p ys\/SqT X.K H p ys)/\∀l,H l=none->Q (.ref l) (upd H l (.lst ys))):=by
 intro pins s σ H xs us Q I r h
 obtain⟨p,ys,rfl,hq,q⟩:=h
 obtain⟨u,rfl,rx⟩:=q2K r
 cases rx
 have fin:∀(its:List Value),Vals ys its->ys.length<=sizeLine->∀(h':Heap) (c':Nat),(∀b o',s.heap.get? b=some o'->h'.get? b=some o')->
   h'.get? s.heap.objs.size=some {cls:= .type "list",dict:=none,data:= .seq its.toArray c',slots:= #[]}->EP X pins σ Q (.ref s.heap.objs.size) {s with heap:=h'}:=fun its r' hz h' c' kp e=>
  ⟨.ref s.heap.objs.size,_,I.laid (t':=s.toks) kp (zc _) (show q0I X.prog X.w _ h' _ (.lst ys) from⟨hz,its,c',r',e⟩),rfl,q _ (I.hok.fresh (zc _))⟩
 rcases hq with hq|hq
 ·obtain ⟨its,r',pl,hz⟩:=I.list hq
  have hlen:=r'.length
  obtain⟨o,ho,hc,n,hd⟩:=pl.isList
  exact call_list_seq p (.inl rfl) ho hc hd (fun h' c' kp e=>fin its r' hz h' c' kp e) (by simp only[List.size_toArray]<;>omega)
 ·obtain ⟨its,r',pl,hz⟩:=I.tuple hq
  have hlen:=r'.length
  obtain⟨o,ho,hc,n,hd⟩:=pl
  exact call_list_seq p (.inr rfl) ho hc hd (fun h' c' kp e=>fin its r' hz h' c' kp e) (by simp only[List.size_toArray]<;>omega)
theorem q51:q17 X (.type "tuple") (fun xs H Q=>∃p ys,xs=[.ref p]/\((SqL X.K H p ys/\∀l,H l=none->Q (.ref l) (upd H l (.tup ys)))\/(SqT X.K H p ys/\Q (.ref p) H))):=by
 intro pins s σ H xs us Q I r h
 obtain⟨p,ys,rfl,h⟩:=h
 obtain⟨u,rfl,rx⟩:=q2K r
 cases rx
 rcases h with⟨hq,q⟩|⟨hq,q⟩
 ·obtain ⟨its,r',pl,hz⟩:=I.list hq
  have hlen:=r'.length
  refine call_tuple_list pl.isList (fun h' kp=>?_) (by simp only[List.size_toArray]<;>omega)
  have I1:Inv X pins σ H {s with heap:=h'}:=I.kept (t':=s.toks) kp
  have I2:Inv X pins σ (upd H h'.objs.size (.tup ys)) {s with heap:=h'.push {cls:= .type "tuple",data:= .seq its.toArray}}:=
   I1.laid (t':=s.toks) (fun b o e=>zo _ e) (zc _) (show q0I X.prog X.w _ _ _ (.tup ys) from⟨hz,its,r',IsTup.new _ _⟩)
  exact⟨.ref h'.objs.size,_,I2,rfl,q _ (I1.hok.fresh (zc _))⟩
 ·obtain ⟨its,r',pl,hz⟩:=I.tuple hq
  exact call_tuple_same pl ⟨.ref p,H,I,rfl,q⟩
def tyV (K:W.Frag)(T:String)(x:V)(H:Hp):Prop:=match x with
 | .str _=>T="str"
 | .int _=>T="int"
 | .ref p=>(T="list"/\∃xs,SqL K H p xs)\/(T="tuple"/\∃o,K.lookup p=some o/\o.cls= .type "tuple"/\o.dict=none)\/
   (T="dict"/\((∃kvs,H p=some (.dK kvs))\/∃kvs,H p=some (.dT kvs)))\/(T="set"/\∃S n,H p=some (.set S n))
 |_=>False
theorem qaI {pins:List (Addr×Obj)}{σ:St}{H:Hp}{s:Shared}{T:String}{x:V}{v:Value}(I:Inv X pins σ H s)(r:RelV x v)(ty:tyV X.K T x H):
  s.TypeIs v T/\∀a,v= .ref a->∃ob,s.heap.get? a=some ob/\ob.dict=none:=by
 cases x with
 |str z=>
  obtain⟨t,rfl⟩:=r
  cases(show T="str" from ty)
  exact⟨typeIs_str s z t,fun _ e=>nomatch e⟩
 |int i=>
  obtain⟨t,rfl⟩:=r
  cases(show T="int" from ty)
  exact⟨typeIs_int s i t,fun _ e=>nomatch e⟩
 |ref p=>
  cases r
  rcases ty with⟨rfl,xs,hq⟩|⟨rfl,o,hk,hc,hd⟩|⟨rfl,hk⟩|⟨rfl,S,n,hk⟩
  ·obtain ⟨its,_,pl,_⟩:=I.list hq
   refine⟨pl.isList.typeIs,fun a e=>?_⟩
   cases e
   obtain⟨o,n,e,c,hd,_⟩:=pl
   exact⟨o,e,hd⟩
  ·refine ⟨⟨o,I.kIn p o hk,hc⟩,fun a e=>?_⟩
   cases e
   exact⟨o,I.kIn _ o hk,hd⟩
  ·have z:∃o,s.heap.get? p=some o/\o.ExactDict:=by
    rcases hk with⟨kvs,hk⟩|⟨kvs,hk⟩
    ·obtain ⟨_,_,_,_,o,_,_,e,ex,_⟩:=I.hok p _ hk
     exact⟨o,e,ex⟩
    ·obtain ⟨_,_,_,_,o,_,_,e,ex,_⟩:=I.hok p _ hk
     exact⟨o,e,ex⟩
   obtain⟨o,e,ex⟩:=z
   refine⟨⟨o,e,ex.1⟩,fun a e2=>?_⟩
   cases e2
   exact⟨o,e,ex.2.1⟩
  ·obtain ⟨o,_,_,_,e,ex,_⟩:=I.hok p _ hk
   refine⟨⟨o,e,ex.1⟩,fun a e2=>?_⟩
   cases e2
   exact⟨o,e,ex.2.1⟩
 |_=>exact False.elim ty
def tBM0 (K:W.Frag)(T:String)(r:V->List V->Hp->VK->Prop)(to:TE):TE:=fun σ H Q=>to σ H fun x H1=>tyV K T x H1/\r x [] H1 Q
def tBM (K:W.Frag)(T:String)(r:V->List V->Hp->VK->Prop)(to:TE)(t:TA):TE:=fun σ H Q=>to σ H fun x H1=>tyV K T x H1/\t σ H1 fun xs H2=>r x xs H2 Q
variable {o e:Expr}{es:List Expr}{to:TE}{t:TA}{name:Str}{apos cpos:Pos}{T id:String}{r:V->List V->Hp->VK->Prop}
theorem pe_bm0 (pa:PlainAttrs T)(slot:Slot T name id)(hty:typeOf (.builtin id)=pure (.type "method_descriptor"))(hm:MtR X id r)(ho:PE X o to)
  (hbase:attributeBase o name X.env (eval o X.env)=eval o X.env:=by rfl)(hline:(apos.endLine==cpos.line)=true:=by rfl):PE X (.Call (.Attribute o name apos) [] [] cpos) (tBM0 X.K T r to):=by
 intro pins s σ H Q I h
 refine wpAny_Call_method0_late hbase hline (thn (ho pins s σ H _ I h) fun v s1 ⟨x,H1,I1,r1,ty,q1⟩=>?_)
 obtain⟨h1,h2⟩:=qaI I1 r1 ty
 exact⟨T,id,pa,slot,hty,h1,h2,zbH rfl (PySem.evalArgs_none (hm pins s1 σ H1 x [] v [] Q I1 r1 .nil q1))⟩
theorem q3Y (pa:PlainAttrs T)(slot:Slot T name id)(hty:typeOf (.builtin id)=pure (.type "method_descriptor"))(hm:MtR X id r)(ho:PE X o to)(ha:PA X (e::es) t)
  (hbase:attributeBase o name X.env (eval o X.env)=eval o X.env:=by rfl)
  (hfew:((backTo cpos (starEach (e::es) X.env)).all (fun x=> !x.1)&&(backToKw cpos (keywordEach [] X.env)).all (fun x=>x.1.isSome)
   &&decide ((e::es).length+([]:List Keyword).length+(if ([]:List Keyword).isEmpty then 0 else 1)<30))=true:=by rfl)
  (hline:(apos.endLine==cpos.line)=true:=by rfl)(hs:starEach (e::es) X.env=(false,eval e X.env)::starEach es X.env:=by rfl)(hplain:(backTo cpos (starEach es X.env)).any (·.1)=false:=by rfl):
  PE X (.Call (.Attribute o name apos) (e::es) [] cpos) (tBM X.K T r to t):=by
 intro pins s σ H Q I h
 refine wpAny_Call_method_late hbase hfew hline rfl (thn (ho pins s σ H _ I h) fun v s1 ⟨x,H1,I1,r1,ty,q1⟩=>?_)
 obtain⟨h1,h2⟩:=qaI I1 r1 ty
 refine⟨T,id,pa,slot,hty,h1,h2,?_⟩
 have hA:=ha cpos pins s1 σ H1 _ I1 q1
 rw[hs] at hA ⊢
 refine zbH (by show(false||(backTo cpos (starEach es X.env)).any (·.1))=false;rw[hplain]<;>rfl) (Calls.evalArgs_plain ?_)
 exact thn hA fun us s2 ⟨vs,H2,I2,r2,q2⟩=>hm pins s2 σ H2 x vs v us Q I2 r1 r2 q2
end
def MtM (X:Cx)(id:String)(r:V->List V->Hp->VK->Prop):Prop:=
 ∀(pins:List (Addr×Obj)) (s:Shared) (σ:St) (H:Hp) (x:V) (xs:List V) (v:Value) (us:List Value) (Q:VK),Inv X pins σ H s->RelV x v->Vals xs us->r x xs H Q->
  wpAny (model X.prog X.w) X.A (call (.builtin id) (v::us)) (EP X pins σ Q) X.xe s
theorem Vals.one:∀{x:V} {us:List Value},Vals [x] us->∃u,us=[u]/\RelV x u
 |_,_,.cons r .nil=>⟨_,rfl,r⟩
theorem Vals.zero:∀{us:List Value},Vals [] us->us=[]
 |_,.nil=>rfl
theorem Vals.dropLast {xs:List V}{us:List Value}(h:Vals xs us):Vals xs.dropLast us.dropLast:=by
 induction h with
 |nil=>exact .nil
 |cons r t ih=>
  cases t with
  |nil=>exact .nil
  |cons q t'=>exact .cons r ih
theorem Vals.rep {xs:List V}{us:List Value}(h:Vals xs us):∀k:Nat,Vals (List.replicate k xs).flatten (List.replicate k us).flatten
 |0=> .nil
 |k+1=>by
  rw[za7,za7,zbg,zbg]
  exact Vals.append h (Vals.rep h k)
theorem q7O {α:Type}(l:List α):l.eraseIdx (l.length - 1)=l.dropLast:=by
 induction l with
 |nil=>rfl
 |cons a r ih=>
  cases r with
  |nil=>rfl
  |cons b r=>
   have e:(a::b::r).length - 1=((b::r).length - 1)+1:=by
    have h1:(a::b::r).length=r.length+2:=rfl
    have h2:(b::r).length=r.length+1:=rfl
    omega
   rw[e,List.eraseIdx_cons_succ,ih]
   all_goals rfl
theorem q60 (its:List Value):∀(k:Nat) (acc:List Value),
  List.foldl (fun x1 x2=>x1++x2) acc.toArray (List.replicate k its.toArray)=(acc++(List.replicate k its).flatten).toArray
 |0,acc=>by simp
 |k+1,acc=>by
  have e:acc.toArray++its.toArray=(acc++its).toArray:=by simp
  have e2:(acc++its)++(List.replicate k its).flatten=acc++(List.replicate (k+1) its).flatten:=by
   rw[za7,zbg,zq]
  rw[<-e2,<-q60 its k (acc++its),<-e,za7,zcx]
section
variable {X:Cx}{pins:List (Addr×Obj)}{σ:St}{H:Hp}{s:Shared}{l b:Addr}{xs ys zs:List V}
theorem Inv.lset {its its':List Value}{n:Nat}{f:Array Value->Array Value}{t':Nat}(I:Inv X pins σ H s)(hH:H l=some (.lst xs))
  (e:s.heap.get? l=some {cls:= .type "list",data:= .seq its.toArray n})(hf:f its.toArray=its'.toArray)(hv:Vals ys its')(hz:ys.length<=sizeLine):
  Inv X pins σ (upd H l (.lst ys)) {s with heap:=s.heap.update l (Obj.mapSeq f),toks:=t'}:=by
 have q:=PySem.IsL.update e f
 rw[hf] at q
 refine I.write (x:=l) (e:=l) (by rw[hH];exact trivial) (.inl rfl) (fun b' u hb hu=>(Heap.get?_update_other s.heap (Obj.mapSeq f) (Ne.symm hb)).trans hu) ⟨_,q⟩ ?_
 exact⟨hz,its',_,hv,q⟩
theorem Inv.lnew {its:List Value}{t':Nat}(I:Inv X pins σ H s)(hv:Vals ys its)(hz:ys.length<=sizeLine):
  Inv X pins σ (upd H s.heap.objs.size (.lst ys)) {s with heap:=s.heap.push {cls:= .type "list",data:= .seq its.toArray},toks:=t'}:=
 I.laid (fun _ _ q=>zo _ q) (zc _) ⟨hz,its,0,hv,zC _ rfl⟩
theorem Inv.fresh (I:Inv X pins σ H s):H s.heap.objs.size=none:=I.hok.fresh (zc _)
theorem Inv.lstM (I:Inv X pins σ H s)(hH:H l=some (.lst xs)):xs.length<=sizeLine/\∃(its:List Value) (n:Nat),Vals xs its/\xs.length=its.length/\s.heap.get? l=some {cls:= .type "list",data:= .seq its.toArray n}:=by
 obtain⟨z,its,n,r,e⟩:=I.hok l _ hH
 exact⟨z,its,n,r,r.length,e⟩
theorem qad {n:Nat}(h:n<=sizeLine):Builtin.List.listTooLong n=false:=by
 unfold Builtin.List.listTooLong
 exact zf (by omega)
end
section
variable {X:Cx}
def q8k:V->List V->Hp->VK->Prop:=fun x vs H Q=>∃l xs y,x= .ref l/\vs=[y]/\H l=some (.lst xs)/\xs.length<sizeLine/\Q .non (upd H l (.lst (xs++[y])))
theorem q0l:MtM X "list.append" q8k:=by
 intro pins s σ H x vs v us Q I rx rv h
 obtain⟨l,xs,y,rfl,rfl,hH,hz,q⟩:=h
 cases rx
 obtain⟨u,rfl,ru⟩:=rv.one
 obtain⟨z,its,n,r,hl,e⟩:=I.lstM hH
 refine call_meets F.slot_list_append ⟨_,e,rfl⟩ F.entry_list_append (F.args_list_append_2 _ _) (PySem.list_append l its.toArray n u (by rw[zw];omega)) ⟨e,?_⟩
 refine⟨.non,_,I.lset (its':=its++[u]) hH e (by simp) (r.append (.cons ru .nil)) ?_,rfl,q⟩
 rw[zk,List.length_singleton]
 omega
def rPop:V->List V->Hp->VK->Prop:=fun x vs H Q=>∃l xs y,x= .ref l/\vs=[]/\H l=some (.lst xs)/\xs[xs.length - 1]? =some y/\Q y (upd H l (.lst xs.dropLast))
theorem mt_pop:MtM X "list.pop" rPop:=by
 intro pins s σ H x vs v us Q I rx rv h
 obtain⟨l,xs,y,rfl,rfl,hH,hy,q⟩:=h
 cases rx
 have hus:=rv.zero
 subst hus
 obtain⟨z,its,n,r,hl,e⟩:=I.lstM hH
 obtain⟨u,hu,ru⟩:=r.get hy
 have hy':its.toArray[its.toArray.size - 1]? =some u:=by
  show its.toArray[its.length - 1]? =some u
  rw[<-zaV,<-hl]
  exact hu
 refine call_meets F.slot_list_pop ⟨_,e,rfl⟩ F.entry_list_pop (F.args_list_pop_1 _) (MeetsSeq.list_pop_last l its.toArray n u hy' (by rw[zw];omega)) ⟨e,?_⟩
 refine⟨y,_,I.lset (its':=its.dropLast) hH e ?_ r.dropLast ?_,ru,q⟩
 ·show its.toArray.eraseIdxIfInBounds (its.toArray.size - 1)=its.dropLast.toArray
  rw[zw,List.eraseIdxIfInBounds_toArray,q7O]
 ·rw [List.length_dropLast]
  omega
def rCat:R2:=fun x y H Q=>∃l b xs zs,x= .ref l/\y= .ref b/\H l=some (.lst xs)/\H b=some (.lst zs)/\xs.length+zs.length<=sizeLine/\∀p,H p=none->Q (.ref p) (upd H p (.lst (xs++zs)))
theorem q19:OpR X (binaryOp .Add) rCat:=by
 intro pins s σ H x y v u Q I rx ry h
 obtain⟨l,b,xs,zs,rfl,rfl,hH,hB,hz,q⟩:=h
 cases rx
 cases ry
 obtain⟨z,its,n,r,hl,e⟩:=I.lstM hH
 obtain⟨z2,its2,n2,r2,hl2,e2⟩:=I.lstM hB
 refine PySem.P.add_list e e2 ?_ (by rw[zw,zw];omega)
 have ea:its.toArray++its2.toArray=(its++its2).toArray:=by simp
 rw[ea]
 exact⟨.ref _,_,I.lnew (t':=s.toks) (r.append r2) (by rw[zk];omega),rfl,q _ I.fresh⟩
def rRep:R2:=fun x y H Q=>∃l k xs,x= .ref l/\y= .int k/\H l=some (.lst xs)/\ -(2 ^ 63)<=k/\k<2 ^ 63/\xs.length*k.toNat<=sizeLine/\
 ∀p,H p=none->Q (.ref p) (upd H p (.lst (List.replicate k.toNat xs).flatten))
theorem qc4 {α:Type}(xs:List α)(k:Nat):(List.replicate k xs).flatten.length=k*xs.length:=by
 induction k with
 |zero=>simp
 |succ k ih=>rw[za7,zbg,zk,ih,Nat.succ_mul,Nat.add_comm]
theorem op_rep:OpR X (binaryOp .Mult) rRep:=by
 intro pins s σ H x y v u Q I rx ry h
 obtain⟨l,k,xs,rfl,rfl,hH,h1,h2,hz,q⟩:=h
 cases rx
 obtain⟨t,rfl⟩:=ry
 obtain⟨z,its,n,r,hl,e⟩:=I.lstM hH
 have hlen:its.toArray.size*k.toNat<=sizeLine:=by rw[zw,<-hl];exact hz
 have hcap:¬its.toArray.size*k.toNat>(2 ^ 63 - 1) / 8:=by
  have:(sizeLine:Nat)<=(2 ^ 63 - 1) / 8:=by decide
  omega
 have hfit:¬(!Builtin.List.listFitsIndex k)=true:=by
  rw[fitsIndex_both h1 h2]
  exact zp
 have hlong:¬Builtin.List.listTooLong (its.toArray.size*k.toNat)=true:=by
  rw[qad hlen]
  exact zp
 have hnew:List.foldl (fun x1 x2=>x1++x2) #[] (List.replicate (if its.toArray.isEmpty=true then 0 else k.toNat) its.toArray)=(List.replicate k.toNat its).flatten.toArray:=by
  have f0:∀m:Nat,List.foldl (fun x1 x2=>x1++x2) #[] (List.replicate m its.toArray)=(List.replicate m its).flatten.toArray:=fun m=>by
   have:=q60 its m []
   rw[zbR] at this
   exact this
  rw[f0]
  cases its with
  |nil=>simp
  |cons a r'=>rw[zd (by simp)]
 refine wpAny_binaryOp_repeat_ref (T:="list") (U:="int") (by decide) ⟨_,e,rfl⟩ (fun s'=>typeIs_int s' k t) noFill_list_mul F.fills_int_mul F.slot_int_rmul repeat_list F.slot_int_index.lookup
  (call_meets F.slot_int_rmul (typeIs_int s k t) F.entry_int_rmul (F.args_int_rmul_2 _ _) (int___rmul___int_list k t l its.toArray n)
   ⟨e,rfl,⟨_,e,rfl⟩,call_meets F.slot_list_mul ⟨_,e,rfl⟩ F.entry_list_mul (F.args_list_mul_2 _ _) (AutoListH.list___mul___list_int_3 l its.toArray n k t hfit hcap hlong) ⟨e,?_⟩⟩)
 rw[hnew]
 exact⟨.ref _,_,I.lnew (t':=s.toks) (r.rep k.toNat) (by rw[qc4,Nat.mul_comm];exact hz),rfl,q _ I.fresh⟩
end
end L2
namespace Att
open PySem PySem.W PySem.Calls PyProof.Rows
theorem q4a {P:Params}{h:Heap}:∀(ns:List Int) (vs:List Value),WellAll P h vs (ns.map WData.int)->IntsAre vs ns:=by
 intro ns
 induction ns with
 |nil=>
  intro vs w
  rw[zct] at w
  cases w
  exact .nil
 |cons n ns ih=>
  intro vs w
  rw[z8] at w
  cases w with
  |cons a b=>
   cases a
   exact .cons _ _ (ih _ b)
theorem q8f {l:OpenLaw}{n:Nat}(hn:l.most=some n){P:Params}{h:Heap}{args:List WData}{vals:List Value}
  (hpre:l.row.toRowW.claim.pre args=true)(hwl:WellAll P h vals args):
  ∃a vs ns,vals=[Value.ref a]/\args=[WData.list (ns.map WData.int)]/\h.get? a=some {cls:= .type "list",data:= .seq vs.toArray}/\IntsAre vs ns/\ns.length<=n:=by
 have hsh:WShape.hasAll [] args [.list .int]=true:=(pre_splitW hpre).1
 have hc:l.pre.holds [] {args:=args}=true:=(pre_splitW hpre).2
 obtain⟨d,r,rfl,h1,h2⟩:=hasAllW_cons hsh
 obtain rfl:=hasAllW_nil h2
 obtain⟨xs,rfl,h3⟩:=hasW_list h1
 obtain⟨ns,rfl⟩:=items_int h3
 have hlen:ns.length<=n:=by
  unfold OpenLaw.pre at hc
  have h4:(WTm.not (.lt (.lit (.int (n:Int))) (.len (.arg 0)))).holds [] {args:=[.list (ns.map .int)]}=true:=by
   have h4:=(holds_andW hc).1
   rw[hn] at h4
   exact h4
  have h5:=condW_of h4 (w_not (w_lt w_lit (w_len_list (w_arg rfl))))
  rw[yC] at h5
  refine Nat.le_of_not_lt fun q=>?_
  have q':(n:Int)<((ns.length:Nat):Int):=by omega
  first
   |(rw[ze q'] at h5;exact absurd h5 (by decide))
   |(simp at h5;omega)
 cases hwl with
 |cons w1 w2=>
  cases w2
  cases w1 with
  |list ho hall=>exact⟨_,_,ns,rfl,rfl,ho,q4a ns _ hall,hlen⟩
theorem q8n (l:OpenLaw)(args:List WData):l.row.toRowW.claim.post args (.bool true) args=true:=
 postW_of (r:=l.row.toRowW) (X:=(true==true))
  (show WShape.has [] (.bool true) .bool=true by first|rfl|decide|simp[WShape.has,WShape.arms,WShape.armsAll])
  (show(WTm.eq .res (.lit (.bool true))).value [] {args:=args,res:=some (.bool true),after:=args}=some (.bool (true==true)) from w_eq_bool (w_res rfl) w_lit) rfl
theorem q6H {l:OpenLaw}{n:Nat}{q:Program}{loose:List Str}{XP:(Str->Option Value)->Heap->Prop}{YP:World->Heap->Prop}{d:DefRec}
  (hn:l.most=some n)(hdf:d.params.defaults=[])
  (call:∀(w:World) (s₀ s₁:Shared) (mg mb:Str->Option Value) (fa:Addr) (o:Obj) (pm cd doc:Value) (a:Addr) (vs:List Value) (ns:List Int),
   Ground q loose [] XP w s₀ mg mb s₁.heap->YP w s₁.heap->
   s₁.heap.get? fa=some o->o.data= .func (docDef d.name d.params d.body d.scope pm cd doc)->s₁.heap.CodeRec cd d.name->mg d.name=some (.ref fa)->
   s₁.heap.get? a=some {cls:= .type "list",data:= .seq vs.toArray}->IntsAre vs ns->ns.length<=n->s₁.gens= #[]->
   codeAny (model l.prog w) callerA (.call (.ref fa) ⟨[.ref a],[]⟩) (fun r s'=>r= .ok (.ret (.bool true))/\OldK s₁.heap s'.heap/\s'.os=s₁.os/\AllBare s'.gens) s₁):
  WalkO q loose XP YP l.row.toRowW d [] (fun f vs=>PySem.call f vs):=by
 intro w s₀ s₁ mg mb G Y fa o pm cd doc dV kV ho hd hcd hD hmg hg args vals as hpre hlay hrd hwl hlo
 obtain rfl:dV= .none:=Dflts.none hD hdf
 obtain rfl:kV= .none:=Dflts.noKw hD
 obtain⟨a,vs,ns,rfl,rfl,hobj,hints,hlen⟩:=q8f hn hpre hwl
 refine enter_call (zcs (call w s₀ s₁ mg mb fa o pm cd doc a vs ns G Y ho (fd_plain hd) hcd hmg hobj hints hlen hg) fun r s' hq=>?_)
 obtain⟨rfl,h2,h3,h4⟩:=hq
 exact⟨.inl ⟨.bool true,.bool true,[],rfl,fun _=>rfl,.bool true,q8n l _,fun _=>⟨List.Pairwise.nil,fun _ hm=>(nomatch hm)⟩⟩,h2,h3,h4⟩
end Att
namespace L2
open PySem PySem.Spec PyProof.Rows
theorem q5l:∀{vs:List Value} {ns:List Int},IntsAre vs ns->Vals (ns.map V.int) vs
 |_,_,.nil=> .nil
 |_,_,.cons n t h=> .cons ⟨t,rfl⟩ (q5l h)
def Only (H:Hp):Prop:=∀b,H b=none\/∃o xs,H b=some (.frz o (.lst xs))
theorem qal {P:Program}{w:World}{K:W.Frag}{mg mb:Str->Option Value}{CX:CXT}{k:Nat}{fa a:Addr}{fd:FuncData}{x:Str}{sp:Sp}{s₁:Shared}{vs:List Value}{ns:List Int}
  (KX:K.In s₁.heap)(hns:s₁.heap.Ns mainGlobals mg)(hb:s₁.heap.Ns builtinsNs mb)(hbb:∀x:Str,x≠"__name__"->mb x=bootBuiltins x)(hlim:s₁.heap.NoLimit)(hg:s₁.gens= #[])
  (ha:s₁.heap.get? a=some {cls:= .type "list",data:= .seq vs.toArray})(hi:IntsAre vs ns)(hl:ns.length<=sizeLine)(hr:Room k callerA)
  (F:∀base:Heap,K.In base->base.Ns mainGlobals mg->FnOk P w K mg base CX k fa fd [x] sp)(hbind:∀(s:Shared) (u:Value),BindsTo s fd ⟨[u],[]⟩ [(x,u)])
  (hsp:∀H:Hp,Only H->SqL K H a (ns.map V.int)->sp [.ref a] H (fun v _=>v= .bl true) fun _ _ _=>False)
  (hCX:∀H e s',CX [] H s₁ (fun _ _ _=>False) e s'->False):
  codeAny (model P w) callerA (.call (.ref fa) ⟨[.ref a],[]⟩) (fun r s'=>r= .ok (.ret (.bool true))/\OldK s₁.heap s'.heap/\s'.os=s₁.os/\AllBare s'.gens) s₁:=by
 have rv:=q5l hi
 have lenV:=hi.length
 -- from an abstract heap in which nothing but the script may be tracked
 have core:∀H:Hp,Only H->SqL K H a (ns.map V.int)->HOk P w H s₁.heap->(∀b,H b≠none->b=a)->(H a≠none->K.lookup a=none)->
   codeAny (model P w) callerA (.call (.ref fa) ⟨[.ref a],[]⟩) (fun r s'=>r= .ok (.ret (.bool true))/\OldK s₁.heap s'.heap/\s'.os=s₁.os/\AllBare s'.gens) s₁:=by
  intro H hO hS hok hA hK
  have base_of:∀{b:Addr} {o:Obj},s₁.heap.get? b=some o->H b=none->(hidT s₁.heap H).get? b=some o:=fun e n=>qap e n
  have noA:∀{b:Addr} {o:Obj} {es:Array DictEntry} {ep:Nat},s₁.heap.get? b=some o->o.data= .dict es ep->H b=none:=fun {b o es ep} e d=>by
   cases q:H b with
   |none=>rfl
   |some u=>
    have e':b=a:=hA b (by rw[q];simp)
    subst e'
    rw[ha] at e;cases e
    have d':Data.seq vs.toArray _=Data.dict es ep:=d
    cases d'
  have nsK:∀{b:Addr} {m:Str->Option Value},s₁.heap.Ns b m->(hidT s₁.heap H).Ns b m:=fun {b m} ⟨o,es,ep,e,d,r⟩=>⟨o,es,ep,base_of e (noA e d),d,r⟩
  have hKb:K.In (hidT s₁.heap H):=fun b o e=>base_of (KX b o e) (by
   cases q:H b with
   |none=>rfl
   |some u=>
    have e':b=a:=hA b (by rw[q];simp)
    subst e'
    rw[hK (by rw[q];simp)] at e;cases e)
  have hM:Mod K mg (hidT s₁.heap H):=⟨hKb,nsK hns,⟨mb,nsK hb,hbb⟩,let ⟨mc,h1,h2⟩:=hlim;⟨mc,nsK h1,h2⟩⟩
  have e0:Env0 P w K mg (hidT s₁.heap H) callerA [] s₁ H:=⟨rfl,hM,fun b o e=>qbW e,Nat.le_of_eq (q8M _ _),trivial,fun b hb=>absurd (show b∈([]:List Addr) from hb) (by simp),hok,.of_eq hg⟩
  refine zcs ((F _ hKb (nsK hns)).run callerA [] s₁ H ⟨[.ref a],[]⟩ [.ref a] [.ref a] _ _ hr e0 (hbind s₁ (.ref a)) (.cons rfl .nil) (hsp H hO hS)) fun r s' h=>?_
  cases r with
  |error e=>exact(hCX H e s' h).elim
  |ok fl=>
   cases fl with
   |next=>exact False.elim h
   |brk=>exact False.elim h
   |cont=>exact False.elim h
   |ret u=>
    obtain⟨v,H',os,bare,un,hok',r',q⟩:=h
    have q':v= .bl true:=q
    subst q'
    obtain rfl:u=Value.bool true:=r'
    refine⟨rfl,OldK.of_keep fun b o e=>?_,os,bare⟩
    cases q:H b with
    |none=>exact un.keep b o e q (by intro z;exact absurd (show b∈([]:List Addr) from z) (by simp)) (by simp)
    |some u=>
     rcases hO b with z|⟨ob,xs,z⟩
     ·rw [q] at z;cases z
     ·have z2:=un.frzs b ob _ z
      obtain⟨e1,_⟩:=hok b _ z
      obtain⟨e2,_⟩:=hok' b _ z2
      rw[e] at e1;cases e1
      exact e2
 cases hk:K.lookup a with
 |some o=>
  -- the script is one of the module's own objects
  have e:=KX a o hk
  rw[ha] at e
  cases e
  refine core (fun _=>none) (fun _=> .inl rfl) (.inr ⟨_,vs.toArray,_,hk,rfl,rfl,rfl,by rw[zw,lenV];exact hl,by simpa using rv⟩) (fun b u z=>by have z':(none:Option HO)=some u:=z;cases z') (fun b z=>absurd rfl z) fun z=>absurd rfl z
 |none=>
  refine core (fun b=>if b=a then some (.frz {cls:= .type "list",data:= .seq vs.toArray} (.lst (ns.map V.int))) else none) (fun b=>?_) (.inl (.inr ⟨{cls:= .type "list",data:= .seq vs.toArray},zj rfl⟩)) (fun b u z=>?_) (fun b z=>?_) fun _=>hk
  ·by_cases hb:b=a
   ·exact .inr ⟨_,_,zj hb⟩
   ·exact .inl (zd hb)
  ·by_cases hb:b=a
   ·have z':=(zj hb).symm.trans z
    cases z'
    subst hb
    exact⟨ha,by rw[yC];exact hl,vs,_,rv,ha⟩
   ·have z':=(zd hb).symm.trans z
    cases z'
  ·by_cases hb:b=a
   ·exact hb
   ·exact absurd (zd hb) z
theorem qbc {l:PySem.W.OpenLaw}{n k:Nat}{q:Program}{loose:List Str}{XP:(Str->Option Value)->Heap->Prop}{YP:World->Heap->Prop}{d:DefRec}{K:Params->W.Frag}{CX:World->CXT}{sp:World->Sp}{x:Str}
  (hn:l.most=some n)(hn2:n<=sizeLine)(hdf:d.params.defaults=[])(hr:Room k callerA)
  (hY:∀(w:World) (h:Heap),YP w h->(K w.params).In h)
  (F:∀(w:World) (mg:Str->Option Value) (fa:Addr) (h:Heap),(K w.params).In h->h.Ns mainGlobals mg->mg d.name=some (.ref fa)->
   ∃fd:FuncData,(∀(s:Shared) (u:Value),BindsTo s fd ⟨[u],[]⟩ [(x,u)])/\
    ∀base:Heap,(K w.params).In base->base.Ns mainGlobals mg->FnOk l.prog w (K w.params) mg base (CX w) k fa fd [x] (sp w))
  (hsp:∀(w:World) (H:Hp) (a:Addr) (ns:List Int),ns.length<=n->Only H->SqL (K w.params) H a (ns.map V.int)->sp w [.ref a] H (fun v _=>v= .bl true) fun _ _ _=>False)
  (hCX:∀(w:World) (H:Hp) (s:Shared) (e:Value) (s':Shared),CX w [] H s (fun _ _ _=>False) e s'->False):
  PySem.W.WalkO q loose XP YP l.row.toRowW d [] (fun f vs=>PySem.call f vs):=by
 refine Att.q6H hn hdf fun w s₀ s₁ mg mb fa o pm cd doc a vs ns G Y ho hd hcd hmg hobj hints hlen hg=>?_
 have KX:=hY w _ Y
 obtain⟨fd,hb,hF⟩:=F w mg fa _ KX G.T.g hmg
 exact qal KX G.T.g G.T.b G.T.builtins G.T.nolimit hg hobj hints (zab hlen hn2) hr hF hb (fun H hO hS=>hsp w H a ns hlen hO hS) fun H e s'=>hCX w H s₁ e s'
def qK (s:Stmt)(j:Nat):Stmt:=match s with
 | .ClassDef _ _ _ body _ _ _ _ _ _ _=>body.getD j (.Pass ⟨0,0,0,0⟩)
 |_=> .Pass ⟨0,0,0,0⟩
def q0M (s:Stmt):Arguments:=match s with
 | .FunctionDef _ a _ _ _ _ _ _ _ _=>a
 |_=>{posonlyargs:=[],args:=[],vararg:=none,kwonlyargs:=[],kw_defaults:=[],kwarg:=none,defaults:=[]}
def q0k (s:Stmt):List Stmt:=match s with
 | .FunctionDef _ _ b _ _ _ _ _ _ _=>b
 |_=>[]
def qh (s:Stmt):Scope:=match s with
 | .FunctionDef _ _ _ _ _ _ sc _ _ _=>sc
 |_=>{kind:= .function,names:=[],isGenerator:=false,isCoroutine:=false}
abbrev CX0:CXT:=fun _ _ _ _ _ _=>False
abbrev E0:XK:=fun _ _ _=>False
theorem q7y {X:Cx}:q4F CX0 X E0:=fun _ _ _ _ _ _ _ h=>h.elim
structure Fun (K:W.Frag)(x qual:Str)(st:Stmt)(f:Addr)(fd:FuncData):Prop where
 ex:∃(oc:Value) (od:Option Addr) (kV doc pm:Value) (an:Option Addr) (cdv ct:Value) (osl:Array (Option Value)),
  fd=PySem.W.fnOf x qual (q0M st) (q0k st) (qh st) .none kV doc pm an cdv ct/\K.lookup f=some ⟨oc,od,.func fd,osl⟩/\PySem.W.codeIn K cdv qual=true
 kp:PySem.W.keepIn K (.ref f)=true
section
variable {P:Program}{w:World}{K:W.Frag}{mg:Str->Option Value}{base:Heap}
theorem Fun.ok {x qual:Str}{st:Stmt}{f:Addr}{fd:FuncData}{N ps:List Str}{k:Nat}{sp:Sp}(F:Fun K x qual st f fd)(S:FnScope N ps (qh st))(len:∀vs H Q E,sp vs H Q E->vs.length=ps.length)
  (hbody:∀(cdv:Value) (A:Around) (outer:List Env) (s:Shared) (H:Hp) (vs:List V) (Q:VK) (E:XK),Room k (A.deeper (envOfC qual (qh st) s.heap.objs.size f cdv))->sp vs H Q E->
   ∃t,PSs (cxOf CX0 P w K mg base N qual (qh st) f cdv A outer s H E).nox (q0k st) t/\t {nx:=fun _ H'=>Q .non H',rt:=Q} (start N vs) H):FnOk P w K mg base CX0 (k+1) f fd ps sp:=by
 obtain⟨oc,od,kV,doc,pm,an,cdv,ct,osl,rfl,lk,hcd⟩:=F.ex
 refine fn_of lk hcd S len fun A outer s H vs Q E hr hsp=>?_
 obtain⟨t,h,q⟩:=hbody cdv A outer s H vs Q E hr hsp
 exact⟨t,h.nox,q⟩
theorem Fun.binds {x qual:Str}{st:Stmt}{f:Addr}{fd:FuncData}{ps:List Str}(F:Fun K x qual st f fd)
  (h:∀(kV doc pm:Value) (an:Option Addr) (cdv ct:Value) (us:List Value),us.length=ps.length->bindArgs (PySem.W.fnOf x qual (q0M st) (q0k st) (qh st) .none kV doc pm an cdv ct) ⟨us,[]⟩=pure (ps.zip us)):q2y K fd ps []:=by
 obtain⟨oc,od,kV,doc,pm,an,cdv,ct,osl,rfl,lk,hcd⟩:=F.ex
 exact .all (h kV doc pm an cdv ct)
theorem q35 {x qual:Str}{st:Stmt}{f:Addr}{oc:Value}{od an:Option Addr}{osl:Array (Option Value)}{kV doc pm cdv ct:Value}(l:K.lookup f=some ⟨oc,od,.func (PySem.W.fnOf x qual (q0M st) (q0k st) (qh st) .none kV doc pm an cdv ct),osl⟩)
  (c:PySem.W.codeIn K cdv qual=true)(k:PySem.W.keepIn K (.ref f)=true):Fun K x qual st f (PySem.W.fnOf x qual (q0M st) (q0k st) (qh st) .none kV doc pm an cdv ct):=⟨⟨oc,od,kV,doc,pm,an,cdv,ct,osl,rfl,l,c⟩,k⟩
end
theorem qan {A:Around}{k:Nat}(hr:Room k A):A.units+1<cLine:=zb9 (Nat.add_le_add_left (by decide:1<=64) _) hr.units
section
variable {X:Cx}
theorem pv (i:Nat){x:Str}{pos:Pos}(hN:X.N[i]? =some x:=by rfl)(hv:Vis X.env.scope x:=by first|exact Or.inl rfl|exact Or.inr (Or.inl rfl)|exact Or.inr (Or.inr rfl))(hd:(x==("__debug__":Str))=false:=by decide)
  (hcd:(x==("__classdict__":Str))=false:=by decide):PE X (.Name x pos) (tVar i):=pe_var hN hv hd hcd
end
theorem iteF {A B:Prop}(h:B):if false=true then A else B:=by
 rw[zd zp]
 exact h
theorem iteT {A B:Prop}(h:A):if true=true then A else B:=by
 rw[zj rfl]
 exact h
theorem ite2 {c A B:Prop}[Decidable c](h1:c->A)(h2:¬c->B):if c then A else B:=by
 by_cases h:c
 ·rw [zj h]
  exact h1 h
 ·rw [zd h]
  exact h2 h
def Same (H H':Hp):Prop:=∀b o,H b=some o->H' b=some o
theorem Same.refl (H:Hp):Same H H:=fun _ _ h=>h
theorem Same.trans {H H1 H2:Hp}(a:Same H H1)(b:Same H1 H2):Same H H2:=fun c o h=>b c o (a c o h)
theorem Same.free {H H':Hp}(e:Same H H'){l:Addr}(h:H' l=Option.none):H l=Option.none:=by
 cases q:H l with
 |none=>rfl
 |some o=>
  rw[e l o q] at h
  cases h
theorem Same.seq {K:W.Frag}{H H':Hp}{a:Addr}{xs:List V}(e:Same H H')(h:SqL K H a xs):SqL K H' a xs:=by
 rcases h with(h|⟨o,h⟩)|h
 ·exact .inl (.inl (e _ _ h))
 ·exact .inl (.inr ⟨o,e _ _ h⟩)
 ·exact .inr h
end L2
set_option maxHeartbeats 4000000
namespace L2
open PySem PySem.Spec PyProof.Rows
theorem fls {α:Type}{M:Model}{A:Around}{t:Sem α}{Q:α->Shared->Prop}{E:Value->Shared->Prop}{s:Shared}(h:wpAny M A t Q (fun _ _=>False) s):wpAny M A t Q E s:=
 zak h (fun _ _ q=>q) fun _ _ z=>z.elim
section
variable {prog:Program}{w:World}{A:Around}{R:Result->Shared->Prop}{s:Shared}
theorem q64 {elt target iter:Expr}{ifs:List Expr}{scope:Scope}{pos:Pos}{it acc:Value}{env:Env}(J:Nat->Shared->Prop)
  (turn:∀n s,J n s->wpAny (model prog w) A (pyNext it) (fun r s₁=>match r with
   |none=>R (.ok .next) s₁
   | some v=>wpAny (model prog w) A (letOwnedTupleGo target it v) (fun _ s₂=>wpAny (model prog w) A (assign target env v) (fun _ s₃=>
     wpAny (model prog w) A (forIn ifs true fun c r=>if r=true then do let ok<-isTrue c env (eval c env);pure (ForInStep.yield ok) else pure (ForInStep.yield r)) (fun ok s₄=>
      if ok=true then wpAny (model prog w) A (eval elt env) (fun x s₅=>
       wpAny (model prog w) A (call (.builtin "list.append") [acc,x]) (fun _ s₆=>∃m,m<n/\J m s₆) (fun _ _=>False) s₅) (fun _ _=>False) s₄
      else∃m,m<n/\J m s₄) (fun _ _=>False) s₃) (fun _ _=>False) s₂) (fun _ _=>False) s₁) (fun _ _=>False) s)
  (n:Nat)(h:J n s):
  codeAny (model prog w) A (.compLoop (.ListComp elt [⟨target,iter,ifs,0⟩] scope pos) 0 it acc env) R s:=by
 refine codeAny_loop rfl J (fun n s hI=>?_) n h
 show wpAny _ A ((compTurn (.ListComp elt [⟨target,iter,ifs,0⟩] scope pos) 0 it acc env).onRaise (fun x=>do noteFrame x env;theTreesLotGoes x)) _ _ s
 refine wpAny_noted (fls ?_)
 rw[compTurn_list]
 refine yD (wpAny_standAt (yD (zak (turn n s hI) (fun r s₁ h₁=>?_) fun _ _ h'=>h')))
 cases r with
 |none=>exact zg h₁
 |some v=>
  refine yD (zak h₁ (fun _ s₂ h₂=>yD (zak h₂ (fun _ s₃ h₃=>yD (zak h₃ (fun ok s₄ h₄=>?_) fun _ _ h'=>h')) fun _ _ h'=>h')) fun _ _ h'=>h')
  cases ok with
  |false=>exact zg ⟨rfl,h₄⟩
  |true=>exact yD (yD (zak h₄ (fun x s₅ h₅=>yD (zak h₅ (fun _ s₆ h₆=>zg (zg ⟨rfl,h₆⟩)) fun _ _ h'=>h')) fun _ _ h'=>h'))
end
def clOf (scope:Scope)(env:Env):List (Str×Addr):=(scope.names.filter fun y=>y.2== .free).reverse.map fun y=>(y.1,(env.cells.lookup y.1).getD 0)
theorem q4f {scope:Scope}{env:Env}(h:∀y∈scope.names,y.2= .free->∃c,env.cells.lookup y.1=some c):closureFor scope env=pure (clOf scope env):=by
 unfold closureFor clOf
 have key:∀(l:List (Str×NameKind)) (cs:List (Str×Addr)),(∀y∈l,y.2= .free->∃c,env.cells.lookup y.1=some c)->
   (forIn l cs (fun x r=>match x with
    |(name,kind)=>if (kind==NameKind.free)=true then do let a<-cellOf env name;pure (ForInStep.yield ((name,a)::r)) else pure (ForInStep.yield r)):Sem (List (Str×Addr)))=
    pure ((l.filter fun y=>y.2== .free).reverse.map (fun y=>(y.1,(env.cells.lookup y.1).getD 0))++cs):=by
  intro l
  induction l with
  |nil=>intro cs _;rfl
  |cons y l ih=>
   intro cs hl
   obtain⟨n,k⟩:=y
   have ih':=fun cs=>ih cs fun y hy=>hl y (zX _ hy)
   rw[List.forIn_cons]
   by_cases hk:k= .free
   ·subst hk
    obtain⟨c,hc⟩:=hl (n,.free) zbc rfl
    have e:cellOf env n=pure c:=by unfold cellOf;rw[hc]
    simp only[beq_self_eq_true,if_true,e,pure_bind]
    rw[ih']
    rw[List.filter_cons_of_pos (by rfl),List.reverse_cons,zv,zq]
    simp[hc]
   ·have hb:(k==NameKind.free)=false:=by simpa using hk
    simp only[hb,Bool.false_eq_true,if_false,pure_bind]
    rw[ih',List.filter_cons_of_neg (by simp[hb])]
 have:=key scope.names [] h
 rw[zH] at this
 first
  |exact this
  |(rw[this];rfl)
  |(simp only[bind_pure];exact this)
theorem q2G {f:Str->Addr}{x:Str}{c:Addr}:∀{l:List (Str×NameKind)},(l.map fun y=>(y.1,f y.1)).lookup x=some c->c=f x/\∃k,(x,k)∈l
 |[],h=>by simp at h
 |(n,k)::l,h=>by
  rw[z8,zaq] at h
  cases e:x==n with
  |true=>
   rw[e] at h
   have e':x=n:=by simpa using e
   subst e'
   exact⟨(zD h).symm,k,zbc⟩
  |false=>
   rw[e] at h
   obtain⟨h1,k',h2⟩:=q2G h
   exact⟨h1,k',zX _ h2⟩
theorem q2H {f:Str->Addr}{x:Str}{k:NameKind}:∀{l:List (Str×NameKind)},(x,k)∈l->(l.map fun y=>(y.1,f y.1)).lookup x=some (f x)
 |[],h=>nomatch h
 |(n,k')::l,h=>by
  rw[z8,zaq]
  cases e:x==n with
  |true=>
   have e':x=n:=by simpa using e
   subst e'
   rfl
  |false=>
   rcases zU.mp h with q|q
   ·cases q
    simp at e
   ·exact q2H q
theorem q7f {scope:Scope}{env:Env}(h:∀y∈scope.names,y.2= .free->∃c,env.cells.lookup y.1=some c){x:Str}{c:Addr}(e:(clOf scope env).lookup x=some c):env.cells.lookup x=some c:=by
 obtain⟨h1,k,h2⟩:=q2G (f:=fun x=>(env.cells.lookup x).getD 0) e
 have h3:=zbb.mp (zag.mp h2)
 obtain⟨c',hc⟩:=h (x,k) h3.1 (by simpa using h3.2)
 have hc':env.cells.lookup x=some c':=hc
 rw[hc'] at h1 ⊢
 rw[h1]
 rfl
theorem q7g {scope:Scope}{env:Env}{x:Str}(h:(x,NameKind.free)∈scope.names):(clOf scope env).lookup x=some ((env.cells.lookup x).getD 0):=
 q2H (f:=fun x=>(env.cells.lookup x).getD 0) (k:= .free) (zag.mpr (zbb.mpr ⟨h,rfl⟩))
theorem q2z {scope:Scope}{env:Env}{x:Str}:(relabel scope env).names.lookup x=(scope.names.lookup x).map fun k=>if (k== .free&&env.scope.kind== .function&&env.kindOf x==some .cell)=true then .cell else k:=by
 unfold relabel
 show List.lookup x (scope.names.map _)=_
 induction scope.names with
 |nil=>rfl
 |cons y l ih=>
  obtain⟨n,k⟩:=y
  rw[z8]
  show List.lookup x ((if (k==NameKind.free&&env.scope.kind==ScopeKind.function&&env.kindOf n==some NameKind.cell)=true then(n,NameKind.cell) else(n,k))::_)=_
  cases e:x==n with
  |true=>
   have e':x=n:=by simpa using e
   subst e'
   by_cases hc:(k==NameKind.free&&env.scope.kind==ScopeKind.function&&env.kindOf x==some NameKind.cell)=true
   ·rw [zj hc,zaq,zaq,e]
    show some _=some (if _ then _ else _)
    rw[zj hc]
   ·rw [zd hc,zaq,zaq,e]
    show some _=some (if _ then _ else _)
    rw[zd hc]
  |false=>
   by_cases hc:(k==NameKind.free&&env.scope.kind==ScopeKind.function&&env.kindOf n==some NameKind.cell)=true
   ·rw [zj hc,zaq,zaq,e]
    exact ih
   ·rw [zd hc,zaq,zaq,e]
    exact ih
def q0J (X:Cx)(N:List Str)(scope:Scope)(C:Addr)(s:Shared)(H:Hp)(fp:List Addr):Cx where
 prog:=X.prog
 w:=X.w
 K:=X.K
 mg:=X.mg
 base:=X.base
 A:=X.A
 N:=N
 s₀:=s
 H₀:=H
 env:=compEnvC scope (clOf scope X.env) C X.env
 outer:=X.stack
 stack:=X.stack
 ex:=fp
 fn:=fun _=>false
 calm:=X.calm
 pn:=[]
 xe:=fun _ _=>False
def q3u (own:Nat)(caps:List Nat)(σ:St):St:=List.replicate own none++caps.map fun j=>(σ[j]?).getD none
structure CompOk (X:Cx)(N:List Str)(scope:Scope)(own:Nat)(caps:List Nat):Prop where
 kind:scope.kind= .function
 names:∀y∈scope.names,y.2= .local->scope.names.lookup y.1=some .local
 nocell:∀y∈scope.names,y.2≠ .cell
 free:∀y∈scope.names,y.2= .free->X.env.kindOf y.1=some .cell\/X.env.kindOf y.1=some .free
 len:N.length=own+caps.length
 cap:∀(i j:Nat) (x:Str),caps[i]? =some j->N[own+i]? =some x->X.N[j]? =some x/\scope.names.lookup x=some .free
theorem CompOk.cells {X:Cx}{N:List Str}{scope:Scope}{own:Nat}{caps:List Nat}(O:CompOk X N scope own caps)(ok:X.Ok):∀y∈scope.names,y.2= .free->∃c,X.env.cells.lookup y.1=some c:=
 fun y hy hf=>ok.has y.1 (O.free y hy hf)
section
variable {X:Cx}{pins:List (Addr×Obj)}{σ:St}{H:Hp}{s:Shared}{N:List Str}{scope:Scope}{own:Nat}{caps:List Nat}
theorem Inv.block {h₁:Heap}{tk:Nat}{fp:List Addr}(O:CompOk X N scope own caps)(I:Inv X pins σ H s)(hf:∀b∈fp,FpOk X pins H b)(hlt:∀b∈fp,b<s.heap.objs.size){m:Str->Option Value}(hns:h₁.Ns s.heap.objs.size m)
  (hk:∀b o,s.heap.get? b=some o->h₁.get? b=some o):Inv (q0J X N scope s.heap.objs.size s H fp) [] (q3u own caps σ) H {s with heap:=h₁,toks:=tk}:=by
 have hcl:=O.cells I.ok
 have sub:∀x c,(clOf scope X.env).lookup x=some c->X.env.cells.lookup x=some c:=fun x c e=>q7f hcl e
 have stk:∀b∈fp,b∉frs X.stack:=fun b hb z=>by
  obtain⟨_,f1,f2,_⟩:=hf b hb
  rcases zU.mp (I.stkSub b z) with q|q
  ·exact f1 q
  ·exact f2 q
 have nocl:∀x,(relabel scope X.env).names.lookup x=some .cell\/(relabel scope X.env).names.lookup x=some .free->(x,NameKind.free)∈scope.names:=fun x hx=>by
  rw[q2z] at hx
  cases e:scope.names.lookup x with
  |none=>rw[e] at hx;rcases hx with hx|hx<;>cases hx
  |some k=>
   have hm:=zaE e
   have hc:=O.nocell _ hm
   cases k with
   |free=>exact hm
   |cell=>exact absurd rfl hc
   |_=>rw[e] at hx;rcases hx with hx|hx<;>simp at hx
 have ok:(q0J X N scope s.heap.objs.size s H fp).Ok:=
  {mod:=I.ok.mod
   kind:=O.kind
   glob:=I.ok.glob
   blt:=I.ok.blt
   above:=zc _
   inj:=fun x y c h1 h2=>I.ok.inj x y c (sub x c h1) (sub y c h2)
   has:=fun x hx=>⟨_,q7g (nocl x hx)⟩
   cab:=fun x c h _=>by cases h
   hd:=I.ok.hd
   frames:=I.ok.frames
   stk:= .inl rfl
   exf:=fun b hb=>⟨zB (hlt b hb),fun x c e=>(hf b hb).2.2.2.2.1 x c (sub x c e)⟩
   bs:=I.bs
   bsz:=zab I.ok.bsz I.sz
   noex:=fun b o e hb=>by
    rcases(hf b hb).2.2.2.1 with z|z
    ·exact I.ok.noex b o e z
    ·exact absurd (zK (zt e) (zab I.ok.bsz z)) (zaW _)
   exfs:=stk
   funs:=I.stack
   frf:=I.stkFree}
 have hC:H s.heap.objs.size=none:=I.hok.fresh (zc _)
 refine⟨ok,rfl,I.bare,Un.kept hk,⟨m,hns,fun i x v h1 h2 h3=>?_⟩,fun x c e=>?_,hC,fun x c e=>I.freeC x c (sub x c e),fun p hp=>absurd (show p∈([]:List (Addr×Obj)) from hp) (by simp),I.hok.kept hk,?_⟩
 ·-- a name of the def
  have hi:own<=i:=by
   by_cases q:own<=i
   ·exact q
   ·unfold q3u at h2
    rw[zI (by simp;omega),List.getElem?_replicate] at h2
    split at h2<;>cases h2
  obtain⟨k,rfl⟩:∃k,i=own+k:=⟨i - own,by omega⟩
  unfold q3u at h2
  rw[zF (by simp),zbK,Nat.add_sub_cancel_left,zT] at h2
  cases e:caps[k]? with
  |none=>rw[e] at h2;cases h2
  |some j=>
   rw[e] at h2
   have h2':(σ[j]?).getD none=some v:=zD h2
   obtain⟨e1,e2⟩:=O.cap k j x e h1
   have e3:=zaE e2
   have hkd:=O.free _ e3 rfl
   have h4:σ[j]? =some (some v):=by
    cases q:σ[j]? with
    |none=>rw[q] at h2';cases h2'
    |some o=>rw[q] at h2';rw[show o=some v from h2']
   have hvis:Vis X.env.scope x:= .inr hkd
   obtain⟨mo,_,hl⟩:=I.loc
   obtain⟨u,r,l⟩:=hl j x v e1 h4 hvis
   refine⟨u,r,.inr ⟨?_,?_⟩⟩
   ·show (relabel scope X.env).names.lookup x=some .cell\/(relabel scope X.env).names.lookup x=some .free
    rw[q2z,e2]
    show some (if _ then NameKind.cell else NameKind.free)=_\/some (if _ then NameKind.cell else NameKind.free)=_
    split
    ·exact .inl rfl
    ·exact .inr rfl
   ·rcases l with⟨q,_⟩|⟨_,c,hc,z⟩
    ·have hkd':X.env.kindOf x=some .cell\/X.env.kindOf x=some .free:=hkd
     rw[q] at hkd'
     rcases hkd' with hkd'|hkd'<;>cases hkd'
    ·refine ⟨c,?_,z.keeps hk⟩
     show(clOf scope X.env).lookup x=some c
     rw[q7g e3,hc]
     rfl
 ·obtain ⟨v,z⟩:=I.cell x c (sub x c e)
  exact⟨v,z.keeps hk⟩
 ·show (q3u own caps σ).length=N.length
  unfold q3u
  rw[zk,zbK,yC,O.len]
theorem Inv.blockEnd {fp:List Addr}{σ':St}{H':Hp}{s':Shared}(I:Inv X pins σ H s)(hf:∀b∈fp,FpOk X pins H b)(J:Inv (q0J X N scope s.heap.objs.size s H fp) [] σ' H' s'):Inv X pins σ H' s':=
 I.call' (ch:=fp) J.os J.base J.hok J.bare fun b hb=>⟨(hf b hb).2.2.2.1,(hf b hb).2.1,(hf b hb).2.2.2.2.1,(hf b hb).2.2.2.2.2⟩
theorem Inv.off {h':Heap}{C:Addr}(I:Inv X pins σ H s)(hC:H C=none)(hL:C≠X.env.locals)(h1:X.s₀.heap.objs.size<=C)(h2:∀x c,X.env.cells.lookup x=some c->c≠C)(h3:∀p∈X.pn++pins,p.1≠C)(sb:Heap.SameBut C s.heap h'):
  Inv X pins σ H {s with heap:=h'}:=
 I.turned (t':=s.toks) (it:=C) (fun b o hb e=>(sb.2 b hb).trans e) hC hL (.inr h1) h2 h3
end
def PIfs (X:Cx)(ifs:List Expr)(t:TT):Prop:=
 ∀(pins:List (Addr×Obj)) (s:Shared) (σ:St) (H:Hp) (Q:Bool->Hp->Prop),Inv X pins σ H s->t σ H Q->
  wpAny (model X.prog X.w) X.A (forIn ifs true fun c r=>if r=true then do let ok<-isTrue c X.env (eval c X.env);pure (ForInStep.yield ok) else pure (ForInStep.yield r)) (TP X pins σ Q) X.xe s
def tYes:TT:=fun _ H Q=>Q true H
theorem q18 {X:Cx}:PIfs X [] tYes:=fun _ _ _ H _ I h=>wpAny_tests_nil ⟨H,I,h⟩
theorem q3p {X:Cx}{c:Expr}{t:TT}(h:PT X c t):PIfs X [c] t:=fun pins s σ H Q I hw=>wpAny_tests_one (h pins s σ H Q I hw)
def q9y (wi:TI)(g:TG)(tc:TT)(te:TE)(own:Nat)(caps:List Nat):TE:=fun σ H Q=>wi σ H fun J H1=>∀D,H1 D=none->∃W:Nat->Nat->St->Hp->Prop,(∃m,W 0 m (q3u own caps σ) (upd H1 D (.lst [])))/\∀i m σ' H',W i m σ' H'->
 (J.stop i H'/\Q (.ref D) H')\/(J.go i H'/\∃N:St->Hp->Prop,(∀σ'' H'',N σ'' H''->∃m',m'<m/\W (i+1) m' σ'' H'')/\∀x H2,J.yld i H' x H2->g x σ' H2 fun σ3 H3=>tc σ3 H3 fun b H4=>
  if b=true then te σ3 H4 fun y H5=>∃ys,H5 D=some (.lst ys)/\ys.length<sizeLine/\N σ3 (upd H5 D (.lst (ys++[y]))) else N σ3 H4)
section
variable {X:Cx}{N:List Str}{scope:Scope}{own:Nat}{caps:List Nat}{tg iter elt:Expr}{ifs:List Expr}{wi:TI}{g:TG}{tc:TT}{te:TE}{pos:Pos}
theorem q7d {use:Option (Value->Sem Unit)}{QQ:Value->Shared->Prop}(O:CompOk X N scope own caps)(hc:X.calm=true)(hi:PI X tg iter wi)(hg:∀C s H fp,PG (q0J X N scope C s H fp) tg g)(ht:∀C s H fp,PIfs (q0J X N scope C s H fp) ifs tc)
  (he:∀C s H fp,PE (q0J X N scope C s H fp) elt te)(hs:∀x,foldedSetIterable iter X.env x=pure x)
  {pins:List (Addr×Obj)}{s:Shared}{σ:St}{H:Hp}{Q:VK}(I:Inv X pins σ H s)(h:q9y wi g tc te own caps σ H Q)
  (fin:∀D C H' s' m,Inv X pins σ H' s'->Q (.ref D) H'->s'.heap.Ns C m->H' C=none->C≠X.env.locals->X.s₀.heap.objs.size<=C->(∀x c,X.env.cells.lookup x=some c->c≠C)->(∀p∈X.pn++pins,p.1≠C)->
   compPost (model X.prog X.w) X.A X.xe use QQ (.ref D) C (.ok .next) s'):
  wpAny (model X.prog X.w) X.A (comprehension (.ListComp elt [⟨tg,iter,ifs,0⟩] scope pos) scope X.env (firstIterPos [⟨tg,iter,ifs,0⟩] pos) (newList []) false (eval iter X.env) use) QQ X.xe s:=by
 refine wpAny_comprehension_free (use:=use) rfl hs (q4f (O.cells I.ok)) O.kind O.names (thn (hi pins s σ H _ I h) fun v s1 h1=>thn h1 fun itv s2 h2=>?_)
 obtain⟨it,fp,tn,J,H2,e,I2,T,st2,f2,q⟩:=h2
 subst e
 refine zal (wpAny_newFunctionEnv O.nocell (by intro y hy;simp at hy) (fun h₁ hns hsb=>?_) O.kind)
 dsimp only at hns hsb ⊢
 have hD:H2 s2.heap.objs.size=none:=I2.hok.fresh (zc _)
 obtain⟨W,⟨m0,w0⟩,turn⟩:=q s2.heap.objs.size hD
 have I3:Inv X pins σ (upd H2 s2.heap.objs.size (.lst [])) {s2 with heap:=s2.heap.push {cls:= .type "list",dict:=none,data:= .seq ([]:List Value).toArray}}:=
  I2.lnew (its:=[]) (t':=s2.toks) .nil (zan _)
 generalize hs3:({s2 with heap:=s2.heap.push {cls:= .type "list",dict:=none,data:= .seq ([]:List Value).toArray}}:Shared)=s3 at I3
 have hsz3:s3.heap.objs.size=s2.heap.objs.size+1:=by rw[<-hs3];exact zbk ..
 have hns':h₁.Ns s3.heap.objs.size (fun x=>([]:List (Str×Value)).reverse.lookup x):=by rw[<-hs3];exact hns
 have hk:∀b o,s3.heap.get? b=some o->h₁.get? b=some o:=fun b o e=>by
  rw[<-hs3] at e
  exact hsb.extBut b o (zB (zt e)) (zo _ e)
 have f3:∀b∈fp,FpOk X pins (upd H2 s2.heap.objs.size (.lst [])) b:=fun b hb=>by
  obtain⟨o,ho,_⟩:=T.obj _ _ st2 b hb
  exact⟨by rw[qw (zB (zt ho))];exact(f2 b hb).1,(f2 b hb).2⟩
 have hlt:∀b∈fp,b<s3.heap.objs.size:=fun b hb=>by
  obtain⟨o,ho,_⟩:=T.obj _ _ st2 b hb
  rw[hsz3]
  exact zbh (zt ho)
 have st3:tn 0 h₁:=T.keep _ _ _ st2 fun b hb o e=>hk b o (by rw[<-hs3];exact zo _ e)
 have C3:∀tk,Inv (q0J X N scope s3.heap.objs.size s3 (upd H2 s2.heap.objs.size (.lst [])) fp) [] (q3u own caps σ) (upd H2 s2.heap.objs.size (.lst [])) {s3 with heap:=h₁,toks:=tk}:=fun tk=>I3.block O f3 hlt hns' hk
 have nf3:∀b∈fp,(upd H2 s2.heap.objs.size (.lst [])) b=none:=fun b hb=>(f3 b hb).1
 have hCL:s3.heap.objs.size≠X.env.locals:=Nat.ne_of_gt I3.lt
 have hC1:X.s₀.heap.objs.size<=s3.heap.objs.size:=I3.sz
 have hC2:∀x c,X.env.cells.lookup x=some c->c≠s3.heap.objs.size:=fun x c e=>by
  obtain⟨v,z⟩:=I3.cell x c e
  exact zB z.lt
 have hC3:∀p∈X.pn++pins,p.1≠s3.heap.objs.size:=fun p hp=>zB (zt (I3.pin p hp).1)
 have hst:∀{H':Hp},(∀b∈fp,H' b=none)->∀b∈fp,FpOk (q0J X N scope s3.heap.objs.size s3 (upd H2 s2.heap.objs.size (.lst [])) fp) [] H' b:=fun hn b hb=>by
  refine⟨hn b hb,zB (hlt b hb),fun z=>?_,.inl hb,fun x c e=>(f3 b hb).2.2.2.2.1 x c (q7f (O.cells I.ok) e),fun p hp=>absurd (show p∈([]:List (Addr×Obj)) from hp) (by simp)⟩
  exact(C3 0).ok.exfs b hb z
 have loop:∀s4:Shared,(∃tk,s4={s3 with heap:=h₁,toks:=tk})->
   codeAny (model X.prog X.w) X.A (.compLoop (.ListComp elt [⟨tg,iter,ifs,0⟩] scope pos) 0 (.ref it) (.ref s2.heap.objs.size) (compEnvC scope (clOf scope X.env) s3.heap.objs.size X.env))
    (compPost (model X.prog X.w) X.A X.xe use QQ (.ref s2.heap.objs.size) s3.heap.objs.size) s4:=by
  rintro s4 ⟨tk,rfl⟩
  refine q64 (fun n s'=>∃i σ' H',Inv (q0J X N scope s3.heap.objs.size s3 (upd H2 s2.heap.objs.size (.lst [])) fp) [] σ' H' s'/\tn i s'.heap/\(∀b∈fp,H' b=none)/\W i n σ' H') ?_ m0 ⟨0,_,_,C3 tk,st3,nf3,w0⟩
  rintro n s5 ⟨i,σ5,H5,I5,st5,fr5,w5⟩
  rcases turn i n σ5 H5 w5 with⟨stop,qn⟩|⟨go,NN,hN,step⟩
  ·refine thn (T.done (q0J X N scope s3.heap.objs.size s3 (upd H2 s2.heap.objs.size (.lst [])) fp) rfl rfl rfl hc i [] s5 σ5 H5 _ I5 (hst fr5) st5 stop) fun r s6 ⟨hr,I6⟩=>?_
   subst hr
   obtain⟨m6,hn6,_⟩:=id I6.loc
   exact fin _ _ H5 s6 m6 (I3.blockEnd f3 I6) qn hn6 I6.free hCL hC1 hC2 hC3
  ·refine thn (T.item (q0J X N scope s3.heap.objs.size s3 (upd H2 s2.heap.objs.size (.lst [])) fp) rfl rfl rfl hc i [] s5 σ5 H5 _ I5 (hst fr5) st5 go) fun r s6 ⟨u,hr,h6⟩=>?_
   subst hr
   refine thn h6 fun _ s7 ⟨x,H7,I7,r7,y7,st7,fr7⟩=>?_
   have I7':=I7.pinned (hst fr7) (T.obj _ _ st7)
   refine thn (hg _ _ _ _ _ s7 σ5 H7 x u _ I7' r7 (step x H7 y7)) fun _ s8 ⟨σ8,H8,I8,q8⟩=>?_
   refine thn (ht _ _ _ _ _ s8 σ8 H8 _ I8 q8) fun ok s9 ⟨H9,I9,q9⟩=>?_
   have again:∀{s10:Shared} {σ10:St} {H10:Hp},Inv (q0J X N scope s3.heap.objs.size s3 (upd H2 s2.heap.objs.size (.lst [])) fp) ([]++q5P fp s7.heap) σ10 H10 s10->NN σ10 H10->
     ∃m,m<n/\∃i σ' H',Inv (q0J X N scope s3.heap.objs.size s3 (upd H2 s2.heap.objs.size (.lst [])) fp) [] σ' H' s10/\tn i s10.heap/\(∀b∈fp,H' b=none)/\W i m σ' H':=fun {s10 σ10 H10} I10 n10=>by
    obtain⟨m',hm,w10⟩:=hN σ10 H10 n10
    refine⟨m',hm,i+1,σ10,H10,I10.unpinned,T.keep _ _ _ st7 fun b hb o e=>(I10.pin (b,o) (z9 _ (z9 _ (q2r hb e)))).1,fun b hb=>?_,w10⟩
    obtain⟨o,e,d⟩:=T.obj _ _ st7 b hb
    exact(I10.pin (b,o) (z9 _ (z9 _ (q2r hb e)))).2.1
   cases ok with
   |false=>
    rw[zd zp] at q9 ⊢
    exact again I9 q9
   |true=>
    rw[zj rfl] at q9 ⊢
    refine thn (he _ _ _ _ _ s9 σ8 H9 _ I9 q9) fun y s10 ⟨vy,H10,I10,r10,ys,hys,hyl,q10⟩=>?_
    refine thn (q0l (X:=q0J X N scope s3.heap.objs.size s3 (upd H2 s2.heap.objs.size (.lst [])) fp) _ s10 σ8 H10 (.ref s2.heap.objs.size) [vy] (.ref s2.heap.objs.size) [y] (fun _ H11=>NN σ8 H11) I10 rfl (.cons r10 .nil) ⟨_,ys,vy,rfl,rfl,hys,hyl,q10⟩) fun _ s11 ⟨_,H11,I11,_,q11⟩=>?_
    exact again I11 q11
 subst hs3
 exact codeAny_compStart_list (loop _ ⟨_,rfl⟩) (T.self _ _ _ _ _ st3 (loop _ ⟨_,rfl⟩))
theorem q0C (O:CompOk X N scope own caps)(hc:X.calm=true)(hi:PI X tg iter wi)(hg:∀C s H fp,PG (q0J X N scope C s H fp) tg g)(ht:∀C s H fp,PIfs (q0J X N scope C s H fp) ifs tc)
  (he:∀C s H fp,PE (q0J X N scope C s H fp) elt te)(hs:∀x,foldedSetIterable iter X.env x=pure x:=by intro _;rfl):PE X (.ListComp elt [⟨tg,iter,ifs,0⟩] scope pos) (q9y wi g tc te own caps):=by
 intro pins s σ H Q I h
 rw[eval_ListComp]
 refine q7d (use:=none) O hc hi hg ht he hs I h fun D C H' s' m I' q hn h0 h1 h2 h3 h4=>?_
 exact⟨m,hn,fun h' sb=>⟨.ref D,H',I'.off h0 h1 h2 h3 h4 sb,rfl,q⟩⟩
theorem q2g {i:Nat}{y:Str}{py spos:Pos}(hN:X.N.Nodup)(hi':X.N[i]? =some y)(hy:X.env.scope.names.lookup y=some .local)(O:CompOk X N scope own caps)(hc:X.calm=true)(hi:PI X tg iter wi)(hg:∀C s H fp,PG (q0J X N scope C s H fp) tg g)
  (ht:∀C s H fp,PIfs (q0J X N scope C s H fp) ifs tc)(he:∀C s H fp,PE (q0J X N scope C s H fp) elt te)
  (hsw:swapsWith (.ListComp elt [⟨tg,iter,ifs,0⟩] scope pos) (some (.Name y py)) spos.line X.env=pure true:=by rfl)(hs:∀x,foldedSetIterable iter X.env x=pure x:=by intro _;rfl):
  PS X (.Assign [.Name y py] (.ListComp elt [⟨tg,iter,ifs,0⟩] scope pos) spos) (tAsg (q9y wi g tc te own caps) (qat i)):=by
 intro pins s σ H D I h
 rw[exec_Assign_Name_used _ _ _ _ hsw]
 refine yD (wpAny_standAt (yD ?_))
 show wpAny _ _ (do let _<-comprehension (.ListComp elt [⟨tg,iter,ifs,0⟩] scope pos) scope X.env _ (newList []) false (eval iter X.env) (some (assign (.Name y py) X.env))) _ _ s
 refine yD (zak (q7d (use:=some (assign (.Name y py) X.env)) (QQ:=fun _ s'=>SP X pins D .next s') O hc hi hg ht he hs I h fun L C H' s' m I' q hn h0 h1 h2 h3 h4=>?_) (fun _ s' hq=>zg (zg hq)) fun _ _ e=>e)
 refine wpAny_assign_Name (q5p I' hN hi' (.inl hy) (v:= .ref L) rfl (fun s2 I2 ⟨a,sb,ha⟩=>?_) (.inr hy))
 have hac:C≠a:=by
  rcases ha with ha|ha
  ·rw [ha];exact h1
  ·exact (h3 _ _ ha).symm
 exact⟨m,hn.sameBut sb hac,fun h' sb'=>⟨_,H',I2.off h0 h1 h2 h3 h4 sb',q⟩⟩
end
end L2
namespace PySem
open Sem (wp)
section
variable {prog:Program}{w:World}{A:Around}{E:Value->Shared->Prop}{s:Shared}
theorem q7F {I T:Addr}{k:Nat}{vals:Array Value}{y:Value}{Q:Value->Shared->Prop}(st:s.heap.IsTupleIter I T k)(tp:s.heap.IsTuple T vals)(hy:vals[k]? =some y)
  (hQ:∀h',h'.IsTupleIter I T (k+1)->Heap.SameBut I s.heap h'->Q y {s with heap:=h'}):wpAny (model prog w) A (Builtin.SmallTypes.nextOf (.ref I)) Q E s:=by
 obtain⟨oI,eI,cI,dI⟩:=id st
 obtain⟨oT,eT,_,nT,dT⟩:=tp
 unfold Builtin.SmallTypes.nextOf
 refine yD (zap (name:=Str.ofString "__next__") st.typeIs zaY (zaH zaY st.typeIs zca ?_ (zb0 _)))
 show wpAny _ _ (field (.ref I) 0 >>= _) _ _ s
 refine yD (zbr eI dI (x:= .ref T) rfl ?_)
 show wpAny _ _ (if (Value.ref T==Value.none)=true then _ else _) _ _ s
 rw[zd (show¬((Value.ref T==Value.none)=true) from zp)]
 show wpAny _ _ (field (.ref I) 1 >>= _) _ _ s
 refine yD (zbr eI dI (x:= .int k 0) rfl ?_)
 show wpAny _ _ (seqItems? (.ref T) >>= _) _ _ s
 refine yD (wpAny_seqItems eT dT ?_)
 simp only[Int.toNat_natCast,hy]
 refine yD (zb1 eI dI (by simp) (zg ⟨y,rfl,zg (hQ _ ?_ (za8 ..))⟩))
 exact⟨_,zbL _ eI (Obj.isFreed_of_fields (zby dI _)),(Obj.cls_mapFields ..).trans cI,by rw[zby dI];simp[rawInt]⟩
theorem q2F {I T:Addr}{k:Nat}{vals:Array Value}{Q:Value->Shared->Prop}(hh:A.handled=none)(st:s.heap.IsTupleIter I T k)(tp:s.heap.IsTuple T vals)(hy:vals[k]? =none)
  (hE:∀h' e,Heap.ExtBut I s.heap h'->(∃o,h'.get? e=some o/\o.cls= .type "StopIteration")->E (.ref e) {s with heap:=h'}):wpAny (model prog w) A (Builtin.SmallTypes.nextOf (.ref I)) Q E s:=by
 obtain⟨oI,eI,cI,dI⟩:=id st
 obtain⟨oT,eT,_,nT,dT⟩:=tp
 unfold Builtin.SmallTypes.nextOf
 refine yD (zap (name:=Str.ofString "__next__") st.typeIs zaY (zaH zaY st.typeIs zca ?_ (zb0 _)))
 show wpAny _ _ (field (.ref I) 0 >>= _) _ _ s
 refine yD (zbr eI dI (x:= .ref T) rfl ?_)
 show wpAny _ _ (if (Value.ref T==Value.none)=true then _ else _) _ _ s
 rw[zd (show¬((Value.ref T==Value.none)=true) from zp)]
 show wpAny _ _ (field (.ref I) 1 >>= _) _ _ s
 refine yD (zbr eI dI (x:= .int k 0) rfl ?_)
 show wpAny _ _ (seqItems? (.ref T) >>= _) _ _ s
 refine yD (wpAny_seqItems eT dT ?_)
 simp only[Int.toNat_natCast,hy]
 refine yD (za1 (yD (zb1 eI dI (by simp) ?_)))
 show wpAny _ _ (newExc (.type "StopIteration") [] >>= _) _ _ _
 refine yD ?_
 simp only[newExc,newTuple]
 refine yD (zal ?_ (by size_fits))
 refine yD (m:=firstArgMember _ _) (wpAny_of_eq (a:=Value.none) (by first|rfl|(simp only[firstArgMember];rfl)) ?_)
 refine zal ?_ (by size_fits)
 simp only[raiseNew]
 refine yD (wpAny_handled ?_)
 first|rw[show A.in1.handled=none from hh]|rw[hh]
 refine yD (zg (wpAny_throw ?_))
 exact hE _ _ (((za8 ..).extBut.push _).push _) ⟨_,zC _ rfl,rfl⟩
end
theorem Heap.IsTuple.at2 {h h':Heap}{a:Addr}{vals:Array Value}(x:h.IsTuple a vals)(e:∀o,h.get? a=some o->h'.get? a=some o):h'.IsTuple a vals:=let ⟨o,q,r⟩:=x;⟨o,e o q,r⟩
theorem Heap.IsTupleIter.at2 {h h':Heap}{a t:Addr}{i:Nat}(x:h.IsTupleIter a t i)(e:∀o,h.get? a=some o->h'.get? a=some o):h'.IsTupleIter a t i:=let ⟨o,q,r⟩:=x;⟨o,e o q,r⟩
theorem Draws.tup {prog:Program}{w:World}{A:Around}(hh:A.handled=none)(I T:Addr)(hne:T≠I)(vals:Array Value):
  Draws prog w A I [I,T] vals.size (fun i v=>vals[i]? =some v) (fun i h=>h.IsTupleIter I T i/\h.IsTuple T vals) where
 live:=fun _ _ st=>let ⟨o,ho,_⟩:=st.1;⟨o,ho⟩
 frame:=fun _ _ _ st hk=>⟨st.1.at2 fun o e=>hk I (by simp) o e,st.2.at2 fun o e=>hk T (by simp) o e⟩
 item:=fun i s Q E hi st hQ=>q7F st.1 st.2 (y:=vals[i]) (by simp[hi]) fun h' st' sb=>hQ _ h' s.toks (by simp[hi]) ⟨st',st.2.extBut sb.extBut hne⟩ sb
 done:=fun s Q E st hE=>q2F hh st.1 st.2 (by simp) hE
section
open AutoSeq1 (wpAny_loadPart')
theorem q43 (l:Addr)(items:Array Value)(n:Nat)(dct:Option Addr)(sl:Array (Option Value)):
  Meets (Builtin.«enumerate.__new__» ⟨[.type "enumerate",.ref l],[]⟩) (fun _ R s=>s.heap.get? l=some {cls:= .type "tuple",dict:=dct,data:= .seq items n,slots:=sl}/\
   R (.ok (.ret (.ref (s.heap.push {cls:= .type "tuple_iterator",data:= .fields #[.ref l,.int 0 0]}).objs.size)))
    {s with heap:=(s.heap.push {cls:= .type "tuple_iterator",data:= .fields #[.ref l,.int 0 0]}).push {cls:= .type "enumerate",data:= .fields #[.none,.bool false,.ref s.heap.objs.size,rawInt 0,.none,.none]}}):=
 .of_wp fun prog w A R s h=>by
  obtain⟨hp,g,d,tk,os⟩:=s;obtain⟨hl,h⟩:=h
  have hsub:=sub_enumerate
  have hL:Heap.IsTuple (Shared.heap ⟨hp,g,d,tk,os⟩) l items:=⟨_,hl,rfl,n,rfl⟩
  wp_walk using zbS hl
  refine wpAny_stack_any fun st=>zg ?_
  split
  ·rename_i c _ _ _ _ _
   cases(c==Value.type "enumerate")
   ·wp_walk using zbS hl,zbd hL
    exact⟨_,rfl,h⟩
   ·wp_walk using zbS hl,zbd hL
    exact⟨_,rfl,h⟩
  ·wp_walk using zbS hl,zbd hL
   exact⟨_,rfl,h⟩
variable {prog:Program}{w:World}{A:Around}{E:Value->Shared->Prop}{s:Shared}
theorem q4h {l:Addr}{items:Array Value}{Q:Value->Shared->Prop}(hL:s.heap.IsTuple l items)
  (h:∀h',IsEnum h' (s.heap.objs.size+1) s.heap.objs.size 0 .none->h'.IsTupleIter s.heap.objs.size l 0->h'.objs.size=s.heap.objs.size+2->
   (∀b o,s.heap.get? b=some o->h'.get? b=some o)->Q (.ref (s.heap.objs.size+1)) {s with heap:=h'}):
  wpAny (model prog w) A (call (.type "enumerate") [.ref l]) Q E s:=by
 obtain⟨⟨c,dct,dt,sl⟩,hl,hc,n,hd⟩:=hL
 replace hc:c= .type "tuple":=hc
 replace hd:dt= .seq items n:=hd
 subst hc hd
 refine callType_new F.called_enumerate (by decide) (F.typeCall_enumerate_1 _) (F.newCall_enumerate_1 _) (fun obj=>F.args_object_init_2 obj _) F.entry_enumerate_new (q43 l items n dct sl) ⟨hl,?_⟩
 have hz:(s.heap.push {cls:= .type "tuple_iterator",data:= .fields #[.ref l,.int 0 0]}).objs.size=s.heap.objs.size+1:=zbk ..
 show _/\_
 rw[hz]
 have he:IsEnum ((s.heap.push {cls:= .type "tuple_iterator",data:= .fields #[.ref l,.int 0 0]}).push
   {cls:= .type "enumerate",data:= .fields #[.none,.bool false,.ref s.heap.objs.size,rawInt 0,.none,.none]}) (s.heap.objs.size+1) s.heap.objs.size 0 .none:=by
  have q:=zC (s.heap.push {cls:= .type "tuple_iterator",data:= .fields #[.ref l,.int 0 0]})
   (o:={cls:= .type "enumerate",data:= .fields #[.none,.bool false,.ref s.heap.objs.size,rawInt 0,.none,.none]}) rfl
  rw[hz] at q;exact q
 refine⟨⟨_,he,rfl⟩,h _ he ⟨_,zo _ (zC _ rfl),rfl,rfl⟩ (by rw[zbk,hz]) fun b o x=>zo _ (zo _ x)⟩
end
end PySem
namespace L2
open PySem PySem.Spec PyProof.Rows
section
variable {X:Cx}{pins:List (Addr×Obj)}{σ:St}{H:Hp}{s:Shared}
theorem Inv.turnedL {h':Heap}{t':Nat}{ch:List Addr}(I:Inv X pins σ H s)(hf:∀b∈ch,FpOk X pins H b)(k:∀b o,b∉ch->s.heap.get? b=some o->h'.get? b=some o):Inv X pins σ H {s with heap:=h',toks:=t'}:=by
 have nit:∀b u,H b=some u->b∉ch:=fun b u e z=>by rw[(hf b z).1] at e;cases e
 refine I.step (g':=s.gens) (d':=s.drawn) (ch:=ch) (fun b hb=>⟨(hf b hb).2.2.2.1,(hf b hb).2.1,(hf b hb).2.2.2.2.1,(hf b hb).2.2.2.2.2⟩) (fun b o _ _ hc e _=>k b o hc e) (fun b o _ _ hc e _=>⟨o.slots,k b o hc e⟩) (fun _ _ _ _ n=>n)
  (fun b o hc e=>⟨o,k b o hc e⟩) (fun _ _ e=>e) (fun _ _ _ e=>e) (fun b ps e=>⟨#[],by rw[e];simp⟩) (fun m hm=>?_) (fun b u e=>?_) I.bare
 ·obtain ⟨o,es,ep,ho,r⟩:=hm
  exact⟨o,es,ep,k _ o (fun z=>(hf _ z).2.1 rfl) ho,r⟩
 ·refine (I.hok b u e).stay (fun c v hc q=>k c v ?_ q) (fun _ q=>q) fun _ _ q=>q
  rcases hc with z|z
  ·rw [z];exact nit b u e
  ·exact nit c _ z
theorem Inv.track {a:Addr}{o:HO}(I:Inv X pins σ H s)(ha:X.s₀.heap.objs.size<=a)(hn:H a=none)(hL:a≠X.env.locals)(hc:∀x c,X.env.cells.lookup x=some c->c≠a)(hp:∀p∈X.pn++pins,p.1≠a)
  (new:q0I X.prog X.w (upd H a o) s.heap a o):Inv X pins σ (upd H a o) s:=by
 have ne:∀b ob,X.s₀.heap.get? b=some ob->b≠a:=fun b ob e=>zB (zK (zt e) ha)
 refine⟨I.ok,I.os,I.bare,⟨I.base.keep,I.base.slot,fun b ob e n hx=>by rw[qw (ne b ob e)];exact I.base.free b ob e n hx,I.base.there,fun b xs e=>?_,fun b ob u e=>?_,fun b ps e=>?_⟩,I.loc,I.cell,by rw[qw hL.symm];exact I.free,
  fun x c e=>by rw[qw (hc x c e)];exact I.freeC x c e,fun p hpp=>?_,fun b u e=>?_,I.len⟩
 ·have q:=I.base.tups b xs e
  rw[qw (qy q hn)];exact q
 ·have q:=I.base.frzs b ob u e
  rw[qw (qy q hn)];exact q
 ·obtain ⟨more,q⟩:=I.base.tbls b ps e
  exact⟨more,by rw[qw (qy q hn)];exact q⟩
 ·obtain ⟨e1,n1,r⟩:=I.pin p hpp
  exact⟨e1,by rw[qw (hp p hpp)];exact n1,r⟩
 ·by_cases hb:b=a
  ·subst hb;rw[qc] at e;cases e;exact new
  ·rw [qw hb] at e
   exact(I.hok b u e).stay (fun c v _ q=>q) (fun c q=>by rw[qw (qy q hn)];exact q) fun c xs q=>by rw[qw (qy q hn)];exact q
theorem Inv.yields {h':Heap}{t':Nat}{ch:List Addr}{T:Addr}{xs:List V}{vals:List Value}(I:Inv X pins σ H s)(hf:∀b∈ch,FpOk X pins H b)(k:∀b o,b∉ch->s.heap.get? b=some o->h'.get? b=some o)
  (hT:s.heap.objs.size<=T)(tp:h'.IsTuple T vals.toArray)(r:Vals xs vals)(hz:xs.length<=sizeLine):Inv X pins σ (upd H T (.tup xs)) {s with heap:=h',toks:=t'}:=by
 have f:FpOk X pins H T:=I.fpOk hT (I.hok.fresh hT)
 have I1:Inv X pins σ H {s with heap:=h',toks:=t'}:=I.turnedL hf k
 exact I1.track (zab I.sz hT) f.1 f.2.1 f.2.2.2.2.1 f.2.2.2.2.2 ⟨hz,vals,r,tp⟩
theorem qb3 {ch:List Addr}{T:Addr}{o:HO}(hf:∀b∈ch,FpOk X pins H b)(hT:∀b∈ch,b≠T):∀b∈ch,FpOk X pins (upd H T o) b:=fun b hb=>⟨by rw[qw (hT b hb)];exact(hf b hb).1,(hf b hb).2⟩
end
def Ite (Sq:Hp->List V->Prop):It:=
 ⟨fun i H=>∃xs x,Sq H xs/\xs[i]? =some x,fun i H y H'=>∃T,H T=none/\y= .ref T/\∀xs x,Sq H xs->xs[i]? =some x->H'=upd H T (.tup [.int i,x]),fun i H=>∃xs,Sq H xs/\xs.length<=i⟩
theorem q7r {P:Program}{w:World}{K:W.Frag}{elts:List Expr}{k:Nat}{tp:Pos}(a e it:Addr)(hei:e≠it):Turn P w K (.Tuple elts k tp) (Ite fun H xs=>SqL K H a xs) [e,it] e (fun i h=>(∃old,IsEnum h e it i old)/\h.IsListIter it a i) where
 mem:=by simp
 obj:=fun i h st b hb=>by
  obtain⟨⟨old,q⟩,o,q2,c,d⟩:=st
  rcases zU.mp hb with rfl|hb
  ·exact ⟨_,q,fun v z=>by cases z⟩
  ·rw [zu.mp hb]
   exact⟨o,q2,fun v z=>by rw[d] at z;cases z⟩
 keep:=fun i h h' st kk=>⟨⟨st.1.choose,kk e (by simp) _ st.1.choose_spec⟩,st.2.at fun o q=>kk it (by simp) o q⟩
 item:=by
  intro X hP hw hK hc i pins s σ H E I hf st hg
  subst hP hw hK
  obtain⟨xs,x,hq,hx⟩:=hg
  obtain⟨⟨old,he⟩,hit⟩:=st
  obtain⟨its,rv,p,hz⟩:=I.list hq
  obtain⟨u,hu,ru⟩:=rv.get hx
  have hlen:=rv.length
  have hi:i<its.toArray.size:=by rw[zw];exact(yA hu).1
  have hai:a≠it:=fun z=>by
   obtain⟨o,q,c,d⟩:=hit
   obtain⟨o',q',c',_⟩:=p.isList
   rw[z] at q';rw[q] at q';cases q';rw[c] at c';simp at c'
  have hae:e≠a:=fun z=>by
   obtain⟨o',q',c',_⟩:=p.isList
   rw[<-z,he] at q';cases q';simp at c'
  refine wpAny_pyNext_enum_itemD (Draws.list (A:=X.A.in1) (I.ok.hd hc) it a hai its.toArray) he ⟨hit,p.isList⟩ hi hei (by simp[hei,hae]) fun y h' tk hy ho st' hT hsz hk=>?_
  have hyu:y=u:=by
   have:its[i]? =some y:=by simpa using hy
   rw[hu] at this;exact(zD this).symm
  subst hyu
  have ne:∀b∈[e,it],b≠s.heap.objs.size:=fun b hb=>by
   rcases zU.mp hb with rfl|hb
   ·exact zB (zt he)
   ·rw [zu.mp hb];obtain⟨o,q,_⟩:=hit;exact zB (zt q)
  have kk:∀b o,b∉[e,it]->s.heap.get? b=some o->h'.get? b=some o:=fun b o hb q=>hk b o (fun z=>hb (by simp[z])) (fun z=>hb (by simp[z])) q
  have I1:Inv X pins σ (upd H s.heap.objs.size (.tup [.int i,x])) {s with heap:=h',toks:=tk+1}:=I.yields (vals:=[.int i tk,y]) hf kk (zc _) ⟨_,hT,rfl,_,rfl⟩ (.cons ⟨tk,rfl⟩ (.cons ru .nil)) (by show 2<=sizeLine;decide)
  have hf1:=qb3 (o:= .tup [.int i,x]) hf ne
  refine⟨_,rfl,zcg ho fun h'' he'' sb=>?_⟩
  have I2:Inv X pins σ (upd H s.heap.objs.size (.tup [.int i,x])) {s with heap:=h'',toks:=tk+1}:=I1.turnedL (t':=tk+1) hf1 fun b o hb q=>(sb.2 b fun z=>hb (by simp[z])).trans q
  refine⟨.ref s.heap.objs.size,_,I2,rfl,⟨_,I.hok.fresh (zc _),rfl,fun ys y' hy' hx'=>?_⟩,⟨⟨_,by simpa using he''⟩,st'.1.at fun o q=>(sb.2 it hei.symm).trans q⟩,fun b hb=>(hf1 b hb).1⟩
  have:=I.list_inj hy' hq
  subst this
  rw[hx] at hx'
  rw[zD hx']
 done:=by
  intro X hP hw hK hc i pins s σ H E I hf st hg
  subst hP hw hK
  obtain⟨xs,hq,hx⟩:=hg
  obtain⟨⟨old,he⟩,hit⟩:=st
  obtain⟨its,rv,p,hz⟩:=I.list hq
  have hlen:=rv.length
  have hai:a≠it:=fun z=>by
   obtain⟨o,q,c,d⟩:=hit
   obtain⟨o',q',c',_⟩:=p.isList
   rw[z] at q';rw[q] at q';cases q';rw[c] at c';simp at c'
  have D:Draws X.prog X.w X.A.in1 it [it,a] i (fun _ _=>False) (fun k h=>k=i/\h.IsListIter it a i/\h.IsList a its.toArray):=
   {live:=fun _ _ st=>let ⟨o,ho,_⟩:=st.2.1;⟨o,ho⟩
    frame:=fun _ _ _ st hk=>⟨st.1,st.2.1.at fun o q=>hk it (by simp) o q,st.2.2.at fun o q=>hk a (by simp) o q⟩
    item:=fun k s Q E hk st _=>absurd st.1 (zB hk)
    done:=fun s Q E st hE=>wpAny_nextOf_list_end (I.ok.hd hc) st.2.1 st.2.2 (by simp;omega) hE}
  refine wpAny_pyNext_enum_endD D he ⟨rfl,hit,p.isList⟩ fun h' eb=>⟨rfl,I.turnedL (t':=s.toks) (ch:=[e,it]) hf fun b o hb q=>eb b o (fun z=>hb (by simp[z])) q⟩
 self:=fun _ _ _ _ _ st h=>zbC st.1.choose_spec h
theorem q7q {P:Program}{w:World}{K:W.Frag}{elts:List Expr}{k:Nat}{tp:Pos}(a e it:Addr)(hei:e≠it):Turn P w K (.Tuple elts k tp) (Ite fun H xs=>SqT K H a xs) [e,it] e (fun i h=>(∃old,IsEnum h e it i old)/\h.IsTupleIter it a i) where
 mem:=by simp
 obj:=fun i h st b hb=>by
  obtain⟨⟨old,q⟩,o,q2,c,d⟩:=st
  rcases zU.mp hb with rfl|hb
  ·exact ⟨_,q,fun v z=>by cases z⟩
  ·rw [zu.mp hb]
   exact⟨o,q2,fun v z=>by rw[d] at z;cases z⟩
 keep:=fun i h h' st kk=>⟨⟨st.1.choose,kk e (by simp) _ st.1.choose_spec⟩,st.2.at2 fun o q=>kk it (by simp) o q⟩
 item:=by
  intro X hP hw hK hc i pins s σ H E I hf st hg
  subst hP hw hK
  obtain⟨xs,x,hq,hx⟩:=hg
  obtain⟨⟨old,he⟩,hit⟩:=st
  obtain⟨its,rv,p,hz⟩:=I.tuple hq
  have p:s.heap.IsTuple a its.toArray:=p
  obtain⟨u,hu,ru⟩:=rv.get hx
  have hlen:=rv.length
  have hi:i<its.toArray.size:=by rw[zw];exact(yA hu).1
  have hai:a≠it:=fun z=>by
   obtain⟨o,q,c,d⟩:=hit
   obtain⟨o',q',c',_⟩:=p
   rw[z] at q';rw[q] at q';cases q';rw[c] at c';simp at c'
  have hae:e≠a:=fun z=>by
   obtain⟨o',q',c',_⟩:=p
   rw[<-z,he] at q';cases q';simp at c'
  refine wpAny_pyNext_enum_itemD (Draws.tup (A:=X.A.in1) (I.ok.hd hc) it a hai its.toArray) he ⟨hit,p⟩ hi hei (by simp[hei,hae]) fun y h' tk hy ho st' hT hsz hk=>?_
  have hyu:y=u:=by
   have:its[i]? =some y:=by simpa using hy
   rw[hu] at this;exact(zD this).symm
  subst hyu
  have ne:∀b∈[e,it],b≠s.heap.objs.size:=fun b hb=>by
   rcases zU.mp hb with rfl|hb
   ·exact zB (zt he)
   ·rw [zu.mp hb];obtain⟨o,q,_⟩:=hit;exact zB (zt q)
  have kk:∀b o,b∉[e,it]->s.heap.get? b=some o->h'.get? b=some o:=fun b o hb q=>hk b o (fun z=>hb (by simp[z])) (fun z=>hb (by simp[z])) q
  have I1:Inv X pins σ (upd H s.heap.objs.size (.tup [.int i,x])) {s with heap:=h',toks:=tk+1}:=I.yields (vals:=[.int i tk,y]) hf kk (zc _) ⟨_,hT,rfl,_,rfl⟩ (.cons ⟨tk,rfl⟩ (.cons ru .nil)) (by show 2<=sizeLine;decide)
  have hf1:=qb3 (o:= .tup [.int i,x]) hf ne
  refine⟨_,rfl,zcg ho fun h'' he'' sb=>?_⟩
  have I2:Inv X pins σ (upd H s.heap.objs.size (.tup [.int i,x])) {s with heap:=h'',toks:=tk+1}:=I1.turnedL (t':=tk+1) hf1 fun b o hb q=>(sb.2 b fun z=>hb (by simp[z])).trans q
  refine⟨.ref s.heap.objs.size,_,I2,rfl,⟨_,I.hok.fresh (zc _),rfl,fun ys y' hy' hx'=>?_⟩,⟨⟨_,by simpa using he''⟩,st'.1.at2 fun o q=>(sb.2 it hei.symm).trans q⟩,fun b hb=>(hf1 b hb).1⟩
  have:=I.tuple_inj hy' hq
  subst this
  rw[hx] at hx'
  rw[zD hx']
 done:=by
  intro X hP hw hK hc i pins s σ H E I hf st hg
  subst hP hw hK
  obtain⟨xs,hq,hx⟩:=hg
  obtain⟨⟨old,he⟩,hit⟩:=st
  obtain⟨its,rv,p,hz⟩:=I.tuple hq
  have p:s.heap.IsTuple a its.toArray:=p
  have hlen:=rv.length
  have D:Draws X.prog X.w X.A.in1 it [it,a] i (fun _ _=>False) (fun k h=>k=i/\h.IsTupleIter it a i/\h.IsTuple a its.toArray):=
   {live:=fun _ _ st=>let ⟨o,ho,_⟩:=st.2.1;⟨o,ho⟩
    frame:=fun _ _ _ st hk=>⟨st.1,st.2.1.at2 fun o q=>hk it (by simp) o q,st.2.2.at2 fun o q=>hk a (by simp) o q⟩
    item:=fun k s Q E hk st _=>absurd st.1 (zB hk)
    done:=fun s Q E st hE=>q2F (I.ok.hd hc) st.2.1 st.2.2 (by simp;omega) hE}
  refine wpAny_pyNext_enum_endD D he ⟨rfl,hit,p⟩ fun h' eb=>⟨rfl,I.turnedL (t':=s.toks) (ch:=[e,it]) hf fun b o hb q=>eb b o (fun z=>hb (by simp[z])) q⟩
 self:=fun _ _ _ _ _ st h=>zbC st.1.choose_spec h
theorem q2J:bootBuiltins "enumerate"=some (.type "enumerate"):=by walk_at "k"
section
variable {X:Cx}{elts:List Expr}{k:Nat}{tp:Pos}
def q8J (K:W.Frag)(ta:TA):TI:=fun σ H R=>ta σ H fun vs H1=>∃a,vs=[.ref a]/\(∃xs,SqL K H1 a xs)/\R (Ite fun H xs=>SqL K H a xs) H1
def q8I (K:W.Frag)(ta:TA):TI:=fun σ H R=>ta σ H fun vs H1=>∃a,vs=[.ref a]/\(∃xs,SqT K H1 a xs)/\R (Ite fun H xs=>SqT K H a xs) H1
theorem q9P {a:Expr}{ta:TA}{p pos:Pos}(hg:Gl X "enumerate")(hm:X.mg "enumerate"=none)(ha:PA X [a] ta)(hs:starEach [a] X.env=[(false,eval a X.env)]:=by rfl):PI X (.Tuple elts k tp) (.Call (.Name "enumerate" p) [a] [] pos) (q8J X.K ta):=by
 intro pins s σ H R I h
 refine Call_ (q47 I hg hm q2J (zaC (thn (ha pos pins s σ H _ I h) fun us s1 ⟨vs,H1,I1,r1,q1⟩=>?_) hs rfl))
 obtain⟨l,e,⟨xs,hq⟩,q⟩:=q1
 subst e
 obtain⟨u,rfl,rx⟩:=q2K r1
 cases rx
 obtain⟨its,rv,pl,hz⟩:=I1.list hq
 refine call_enumerate_list pl.isList fun h' he hit hsz hk=>zbC he ?_
 refine⟨_,[s1.heap.objs.size+1,s1.heap.objs.size],_,_,H1,rfl,I1.kept (t':=s1.toks) hk,q7r l _ _ (Nat.succ_ne_self _),⟨⟨_,he⟩,hit⟩,fun b hb=>?_,q⟩
 rcases zU.mp hb with rfl|hb
 ·exact I1.fpOk (zbq _) (I1.hok.fresh (zbq _))
 ·rw [zu.mp hb];exact I1.fpOk (zc _) (I1.hok.fresh (zc _))
theorem q9O {a:Expr}{ta:TA}{p pos:Pos}(hg:Gl X "enumerate")(hm:X.mg "enumerate"=none)(ha:PA X [a] ta)(hs:starEach [a] X.env=[(false,eval a X.env)]:=by rfl):PI X (.Tuple elts k tp) (.Call (.Name "enumerate" p) [a] [] pos) (q8I X.K ta):=by
 intro pins s σ H R I h
 refine Call_ (q47 I hg hm q2J (zaC (thn (ha pos pins s σ H _ I h) fun us s1 ⟨vs,H1,I1,r1,q1⟩=>?_) hs rfl))
 obtain⟨l,e,⟨xs,hq⟩,q⟩:=q1
 subst e
 obtain⟨u,rfl,rx⟩:=q2K r1
 cases rx
 obtain⟨its,rv,pl,hz⟩:=I1.tuple hq
 refine q4h (show s1.heap.IsTuple l its.toArray from pl) fun h' he hit hsz hk=>zbC he ?_
 refine⟨_,[s1.heap.objs.size+1,s1.heap.objs.size],_,_,H1,rfl,I1.kept (t':=s1.toks) hk,q7q l _ _ (Nat.succ_ne_self _),⟨⟨_,he⟩,hit⟩,fun b hb=>?_,q⟩
 rcases zU.mp hb with rfl|hb
 ·exact I1.fpOk (zbq _) (I1.hok.fresh (zbq _))
 ·rw [zu.mp hb];exact I1.fpOk (zc _) (I1.hok.fresh (zc _))
end
end L2
namespace PySem
open Sem (wp)
end PySem
namespace L2
open PySem PySem.Spec PyProof.Rows
section
variable {X:Cx}
def rIsiT (K:W.Frag):List V->Hp->VK->Prop:=fun xs H Q=>∃x n t b,xs=[x,.ty n]/\TyOf K H x t/\PySem.W.kitOne K t (.type n)=some b/\Q (.bl b) H
theorem q9i:q17 X (.builtin "isinstance") (rIsiT X.K):=by
 intro pins s σ H xs us Q I r h
 obtain⟨x,n,t,b,rfl,ty,e,q⟩:=h
 obtain⟨u,v,rfl,rx,ry⟩:=qbe r
 cases ry
 exact q8G I rx ty e fun tk=>⟨.bl b,H,I.tok _,rfl,q⟩
theorem q6L {bs:List Bool}:∀{us:List Value},Vals (bs.map V.bl) us->us=bs.map Value.bool:=by
 induction bs with
 |nil=>intro us r;cases r;rfl
 |cons b bs ih=>
  intro us r
  rw[z8] at r
  cases r with
  |cons r1 r2=>
   cases(show _=Value.bool b from r1)
   rw[ih r2]
   rfl
theorem q55 (bs:List Bool):((List.range bs.length).all fun i=>bs.getD i true)=bs.all id:=by
 rw[zY]
 simp only[List.all_eq_true,List.mem_range,id]
 constructor
 ·intro h x hx
  obtain⟨i,hi,rfl⟩:=zbo.mp hx
  have:=h i hi
  simpa[List.getD,hi] using this
 ·intro h i hi
  have:=h bs[i] (zx hi)
  simpa[List.getD,hi] using this
def rAll (K:W.Frag):List V->Hp->VK->Prop:=fun xs H Q=>∃(p:Addr) (bs:List Bool),xs=[.ref p]/\SqL K H p (bs.map V.bl)/\Q (.bl (bs.all id)) H
theorem qaD (hc:X.calm=true):q17 X (.builtin "all") (rAll X.K):=by
 intro pins s σ H xs us Q I r h
 obtain⟨p,bs,rfl,hq,q⟩:=h
 obtain⟨u,rfl,rx⟩:=q2K r
 cases rx
 obtain⟨its,rv,pl,hz⟩:=I.list hq
 have hits:=q6L rv
 have hl:=pl.isList
 have hlt:p<s.heap.objs.size:=by obtain⟨o,e,_⟩:=hl;exact zt e
 have hh:X.A.in1.handled=none:=I.ok.hd hc
 refine call_all_walk (zck hl ?_)
 refine⟨s.heap.objs.size,_,_,_,_,_,fun i=>bs.getD i true,rfl,Walks.list hh s.heap.objs.size p (zB hlt) its.toArray,⟨⟨_,zC _ rfl,rfl,rfl⟩,hl.push _⟩,?_,fun h' tk hk=>?_⟩
 ·intro i v s' Q' E' hv hQ
  have e:v= .bool (bs.getD i true):=by
   have hv':its[i]? =some v:=by simpa using hv
   rw[hits,zT] at hv'
   cases e:bs[i]? with
   |none=>rw[e] at hv';cases hv'
   |some b=>rw[e] at hv';simp[List.getD,e];exact(zD hv').symm
  subst e
  first
   |exact zg hQ
   |exact hQ
 ·have e:its.toArray.size=bs.length:=by rw[hits];simp
  have I1:Inv X pins σ H {s with heap:=s.heap.push {cls:= .type "list_iterator",data:= .fields #[.ref p,.int 0 0]}}:=I.kept (t':=s.toks) fun b o e=>zo _ e
  have f:∀b∈[s.heap.objs.size],FpOk X pins H b:=fun b hb=>by rw[zu.mp hb];exact I.fpOk (zc _) (I.hok.fresh (zc _))
  refine⟨.bl (bs.all id),H,I1.turnedL (t':=tk) (ch:=[s.heap.objs.size]) f fun b o hb e=>hk b o hb e,?_,q⟩
  show Value.bool _=Value.bool _
  rw[e,q55]
end
end L2
namespace HT
open PySem PyProof.Rows
section
variable {prog:Program}{w:World}{A:Around}{E:Value->Shared->Prop}{s:Shared}
theorem q3g {t sl:Addr}{items:Array Value}{vl vu:Value}{lo hi:Option Int}{Q:Value->Shared->Prop}(ht:IsTup s.heap t items)(hs:s.heap.IsSliceOf sl vl vu .none)(pl:IsPart vl lo)(pu:IsPart vu hi)
  (hw:sIx items.size 0 lo=0/\sIx items.size items.size hi=items.size)(h:Q (.ref t) s):wpAny (model prog w) A (getItem (.ref t) (.ref sl)) Q E s:=by
 obtain⟨os,hos,hcs,hds⟩:=id hs
 have hTs:s.TypeIs (.ref sl) "slice":=⟨os,hos,hcs⟩
 unfold getItem
 try with_reducible refine zaX ?_
 first|refine yD (zg ?_)|skip
 refine yD (wpAny_sequenceKey ht.typeIs (by decide) ?_)
 refine yD (zap (name:=Str.ofString "__getitem__") ht.typeIs zai (zaH zai ht.typeIs entry_tuple_getitem ?_ (args_tuple_getitem _ _)))
 show wpAny _ _ (Builtin.Tuple.tupleItemsOf (.ref t) >>= _) _ _ s
 refine yD (tupleItemsOf_ ht (yD (wpAny_typeOf hTs ?_)))
 rw[zj (by decide)]
 refine yD (q26 hs pl pu ?_)
 have yes:(((sIx items.size 0 lo:Nat):Int)==0&&(1:Int)==1&&(sIx items.size items.size hi - sIx items.size 0 lo)==items.size)=true:=by
  rw[hw.1,hw.2];simp
 show wpAny _ _ (if (((sIx items.size 0 lo:Nat):Int)==0&&(1:Int)==1&&(sIx items.size items.size hi - sIx items.size 0 lo)==items.size)=true then _ else _) _ _ s
 rw[zj yes]
 refine yD (m:=Builtin.Tuple.tupleIsExact _) ?_
 unfold Builtin.Tuple.tupleIsExact
 refine yD (wpAny_typeOf ht.typeIs (zg ?_))
 simp only[beq_self_eq_true,if_true]
 first
  |exact yD (za1 (zg ⟨_,rfl,zg h⟩))
  |exact yD (za1 (yD (zg (zg ⟨_,rfl,zg h⟩))))
  |exact yD (za1 (yD (zg ⟨_,rfl,zg h⟩)))
  |(trace_state;fail)
end
end HT
namespace L2
open PySem PySem.Spec PyProof.Rows
section
variable {X:Cx}
def qbx (K:W.Frag):V->Option Int->Option Int->Hp->VK->Prop:=fun x lo hi H Q=>∃a xs,x= .ref a/\SqT K H a xs/\(cutV xs lo hi=xs->Q (.ref a) H)/\∀p,H p=none->Q (.ref p) (upd H p (.tup (cutV xs lo hi)))
theorem qbl:SlR X (qbx X.K):=by
 intro pins s σ H x v vl vu lo hi sl Q I rx hs pl pu h
 obtain⟨a,xs,rfl,hx,h1,h2⟩:=h
 by_cases hw:HT.sIx xs.length 0 lo=0/\HT.sIx xs.length xs.length hi=xs.length
 ·have e:cutV xs lo hi=xs:=by unfold cutV;rw[hw.1,hw.2];simp
  cases rx
  obtain⟨its,r,ht,hz⟩:=I.tuple hx
  have hlen:its.toArray.size=xs.length:=by rw[zw];exact r.length.symm
  exact⟨"tuple",_,zai.lookup,ht.typeIs,HT.q3g ht hs pl pu (by rw[hlen];exact hw) ⟨.ref a,H,I,rfl,h1 e⟩⟩
 ·exact sl_tup pins s σ H (.ref a) v vl vu lo hi sl Q I rx hs pl pu ⟨a,xs,rfl,hx,hw,h2⟩
end
theorem q50 {J:It}{g:TG}{tc:TT}{te:TE}{R:Hp->Prop}{σ:St}{H:Hp}{D:Addr}(n:Nat)(Pv:Nat->St->Hp->Prop)(h0:Pv 0 σ H)
  (go:∀i σ H,i<n->Pv i σ H->J.go i H/\∀x H',J.yld i H x H'->g x σ H' fun σ3 H3=>tc σ3 H3 fun b H4=>
   if b=true then te σ3 H4 fun y H5=>∃ys,H5 D=some (.lst ys)/\ys.length<sizeLine/\Pv (i+1) σ3 (upd H5 D (.lst (ys++[y]))) else Pv (i+1) σ3 H4)(stop:∀σ H,Pv n σ H->J.stop n H/\R H):
  ∃W:Nat->Nat->St->Hp->Prop,(∃m,W 0 m σ H)/\∀i m σ H,W i m σ H->
   (J.stop i H/\R H)\/(J.go i H/\∃N:St->Hp->Prop,(∀σ' H',N σ' H'->∃m',m'<m/\W (i+1) m' σ' H')/\∀x H',J.yld i H x H'->g x σ H' fun σ3 H3=>tc σ3 H3 fun b H4=>
    if b=true then te σ3 H4 fun y H5=>∃ys,H5 D=some (.lst ys)/\ys.length<sizeLine/\N σ3 (upd H5 D (.lst (ys++[y]))) else N σ3 H4):=by
 refine⟨fun i m σ H=>m=n - i/\i<=n/\Pv i σ H,⟨n,by simp,zan _,h0⟩,?_⟩
 rintro i m σ H ⟨rfl,hi,p⟩
 by_cases hlt:i<n
 ·obtain ⟨q1,q2⟩:=go i σ H hlt p
  exact .inr ⟨q1,Pv (i+1),fun σ' H' p'=>⟨n - (i+1),by omega,rfl,hlt,p'⟩,q2⟩
 ·have e:i=n:=by omega
  subst e
  exact .inl (stop σ H p)
theorem Same.upd {H:Hp}{a:Addr}{o:HO}(h:H a=none):Same H (upd H a o):=fun b u e=>by rw[qw (qy e h)];exact e
theorem Same.put {H H':Hp}{a:Addr}{o:HO}(e:Same H H')(h:H a=none):Same H (L2.upd H' a o):=fun b u q=>by rw[qw (qy q h)];exact e b u q
def isFun:ScopeKind->Bool
 | .function=>true
 |_=>false
theorem qam {k:ScopeKind}(h:isFun k=true):k= .function:=by
 cases k<;>first|rfl|cases h
def q96 (Nx:List Str)(scx:Scope)(N:List Str)(scope:Scope)(own:Nat)(caps:List Nat):Bool:=
 isFun scope.kind&&scope.names.all (fun y=>(y.2 != .local||scope.names.lookup y.1==some .local)&&y.2 != .cell&&(y.2 != .free||scx.names.lookup y.1==some .cell||scx.names.lookup y.1==some .free))&&
  N.length==own+caps.length&&(caps.zip (N.drop own)).all fun p=>decide (Nx[p.1]? =some p.2)&&scope.names.lookup p.2==some .free
theorem q0p {X:Cx}{N:List Str}{scope:Scope}{own:Nat}{caps:List Nat}(Nx:List Str)(scx:Scope)(h:q96 Nx scx N scope own caps=true)(hN:X.N=Nx:=by rfl)(hs:X.env.scope=scx:=by rfl):CompOk X N scope own caps:=by
 unfold q96 at h
 simp only[Bool.and_eq_true,List.all_eq_true] at h
 obtain⟨⟨⟨h1,h2⟩,h3⟩,h4⟩:=h
 refine⟨qam h1,fun y hy hl=>?_,fun y hy hc=>?_,fun y hy hf=>?_,by simpa using h3,fun i j x e1 e2=>?_⟩
 ·have:=(h2 y hy).1.1
  simpa[hl] using this
 ·have:=(h2 y hy).1.2
  simp[hc] at this
 ·have:=(h2 y hy).2
  show X.env.scope.names.lookup y.1=some .cell\/X.env.scope.names.lookup y.1=some .free
  rw[hs]
  simpa[hf] using this
 ·have hm:(j,x)∈caps.zip (N.drop own):=by
   have e3:(N.drop own)[i]? =some x:=by rw[zcb];exact e2
   exact List.mem_iff_getElem?.mpr ⟨i,by rw[List.getElem?_zip_eq_some];exact⟨e1,e3⟩⟩
  have:=h4 _ hm
  rw[hN]
  exact⟨zaN this.1,by simpa using this.2⟩
structure Cal (P:Program)(w:World)(K:W.Frag)(mg:Str->Option Value)(base:Heap)(k:Nat)(x:Str)(ps:List Str)(sp:Sp):Prop where
 ex:∃f fd,FnOk P w K mg base CX0 k f fd ps sp/\mg x=some (.ref f)/\PySem.W.keepIn K (.ref f)=true/\q2y K fd ps []
structure Laid (K:W.Frag)(mg:Str->Option Value)(x:Str)(st:Stmt)(ps:List Str):Prop where
 ex:∃f fd,Fun K x x st f fd/\mg x=some (.ref f)/\q2y K fd ps []
section
variable {P:Program}{w:World}{K:W.Frag}{mg:Str->Option Value}{base:Heap}
theorem Laid.cal {x:Str}{st:Stmt}{N ps:List Str}{k:Nat}{sp:Sp}(L:Laid K mg x st ps)(S:FnScope N ps (qh st))(len:∀vs H Q E,sp vs H Q E->vs.length=ps.length)
  (hbody:∀(f:Addr) (cdv:Value) (A:Around) (outer:List Env) (s:Shared) (H:Hp) (vs:List V) (Q:VK) (E:XK),Room k (A.deeper (envOfC x (qh st) s.heap.objs.size f cdv))->sp vs H Q E->
   ∃t,PSs (cxOf CX0 P w K mg base N x (qh st) f cdv A outer s H E).nox (q0k st) t/\t {nx:=fun _ H'=>Q .non H',rt:=Q} (start N vs) H):Cal P w K mg base (k+1) x ps sp:=by
 obtain⟨f,fd,F,m,b⟩:=L.ex
 exact⟨f,fd,F.ok S len (fun cdv A outer s H vs Q E hr h=>hbody f cdv A outer s H vs Q E hr h),m,F.kp,b⟩
theorem qc6 {h:Heap}{x:Str}{st:Stmt}{ps:List Str}{f:Addr}{oc:Value}{od an:Option Addr}{osl:Array (Option Value)}{kV doc pm cdv ct:Value}(X:K.In h)(G:h.Ns mainGlobals mg)(a:PySem.W.nsIn K mainGlobals x=some (some (.ref f)))
  (l:K.lookup f=some ⟨oc,od,.func (PySem.W.fnOf x x (q0M st) (q0k st) (qh st) .none kV doc pm an cdv ct),osl⟩)(c:PySem.W.codeIn K cdv x=true)(k:PySem.W.keepIn K (.ref f)=true)
  (hb:∀(kV doc pm:Value) (an:Option Addr) (cdv ct:Value) (us:List Value),us.length=ps.length->bindArgs (PySem.W.fnOf x x (q0M st) (q0k st) (qh st) .none kV doc pm an cdv ct) ⟨us,[]⟩=pure (ps.zip us)):Laid K mg x st ps:=
 ⟨f,_,q35 l c k,PySem.W.mg_of X G a,(q35 l c k).binds hb⟩
end
section
variable {X:Cx}{k k':Nat}{x:Str}{ps:List Str}{sp:Sp}{p pos:Pos}{e:Expr}{es:List Expr}{t:TA}
theorem qz (c:Cal X.prog X.w X.K X.mg X.base k x ps sp)(hr:Room k' X.A)(hk:k<=k')(hg:Gl X x)(ha:PA X (e::es) t)(hdb:(x==("__debug__":Str))=false:=by decide)(he:starEach (e::es) X.env=(false,eval e X.env)::starEach es X.env:=by rfl)
  (hpl:(backTo pos (starEach es X.env)).any (·.1)=false:=by rfl):PE X (.Call (.Name x p) (e::es) [] pos) (q9z sp [] E0 t):=by
 obtain⟨f,fd,F,m,kp,b⟩:=c.ex
 exact qbG F (hr.mono hk) hg m kp b .nil q7y ha hdb he hpl
end
def tyS (H:Hp):V->Option String
 | .non=>some "NoneType"
 | .bl _=>some "bool"
 | .int _=>some "int"
 | .str _=>some "str"
 | .ref p=>match H p with
  |some (.lst _)=>some "list"
  |some (.tup _)=>some "tuple"
  |some (.frz _ (.lst _))=>some "list"
  |_=>none
 |_=>none
def subS (a n:String):Bool:=a==n||(a=="bool"&&n=="int")
def q8C (n:String):Bool:=n=="bool"||n=="int"||n=="str"||n=="list"||n=="tuple"
theorem qc7 (K:W.Frag):∀a∈["NoneType","bool","int","str","list","tuple"],∀n∈["bool","int","str","list","tuple"],PySem.W.kitOne K (.type a) (.type n)=some (subS a n):=by
 intro a ha n hn
 simp only[List.mem_cons,List.not_mem_nil,or_false] at ha hn
 rcases ha with rfl|rfl|rfl|rfl|rfl|rfl<;>rcases hn with rfl|rfl|rfl|rfl|rfl<;>kernel_rfl
theorem tyS_ty {K:W.Frag}{H:Hp}{x:V}{a:String}(h:tyS H x=some a):TyOf K H x (.type a)/\a∈["NoneType","bool","int","str","list","tuple"]:=by
 unfold tyS at h
 split at h
 ·cases h;exact⟨.non,by simp⟩
 ·cases h;exact⟨.bl _,by simp⟩
 ·cases h;exact⟨.int _,by simp⟩
 ·cases h;exact⟨.str _,by simp⟩
 ·split at h
  ·rename_i e;cases h;exact⟨.lst e,by simp⟩
  ·rename_i e;cases h;exact⟨.tup e,by simp⟩
  ·rename_i e;cases h;exact⟨.frz e,by simp⟩
  ·cases h
 ·cases h
section
variable {X:Cx}
def q8j:List V->Hp->VK->Prop:=fun xs H Q=>∃x n a,xs=[x,.ty n]/\tyS H x=some a/\q8C n=true/\Q (.bl (subS a n)) H
theorem q4g:q17 X (.builtin "isinstance") q8j:=by
 intro pins s σ H xs us Q I r h
 obtain⟨x,n,a,rfl,ty,kn,q⟩:=h
 obtain⟨t1,t2⟩:=tyS_ty (K:=X.K) ty
 refine q9i pins s σ H _ us Q I r ⟨x,n,_,_,rfl,t1,qc7 X.K a t2 n ?_,q⟩
 unfold q8C at kn
 simp only[Bool.or_eq_true,beq_iff_eq] at kn
 simp only[List.mem_cons,List.not_mem_nil,or_false]
 rcases kn with(((kn|kn)|kn)|kn)|kn<;>simp[kn]
end
theorem q25:bootBuiltins "isinstance"=some (.builtin "isinstance"):=by walk_at "k"
theorem q02:bootBuiltins "len"=some (.builtin "len"):=by walk_at "k"
theorem bt_all:bootBuiltins "all"=some (.builtin "all"):=by walk_at "k"
theorem qb7:bootBuiltins "any"=some (.builtin "any"):=by walk_at "k"
theorem qb6:bootBuiltins "max"=some (.builtin "max"):=by walk_at "k"
theorem q9l:bootBuiltins "min"=some (.builtin "min"):=by walk_at "k"
theorem bt_sum:bootBuiltins "sum"=some (.builtin "sum"):=by walk_at "k"
theorem q68:bootBuiltins "sorted"=some (.builtin "sorted"):=by walk_at "k"
theorem q9n:bootBuiltins "int"=some (.type "int"):=by walk_at "k"
theorem q9o:bootBuiltins "bool"=some (.type "bool"):=by walk_at "k"
theorem q9m:bootBuiltins "list"=some (.type "list"):=by walk_at "k"
theorem q38:bootBuiltins "tuple"=some (.type "tuple"):=by walk_at "k"
structure VMeth (P:Program)(w:World)(K:W.Frag)(mg:Str->Option Value)(base:Heap)(k:Nat)(C:Addr)(m:Str)(ps:List Str)(sp:Sp):Prop where
 cl:Cls K C
 ex:∃f fd,Meth K C m f/\FnOk P w K mg base CX0 k f fd ps sp/\q2y K fd ps []
def tVM (P:Program)(w:World)(K:W.Frag)(mg:Str->Option Value)(base:Heap)(k:Nat)(m:Str)(ta:TE)(t:TA):TE:=fun σ H Q=>ta σ H fun x H1=>∃a C dx fs ps sp,x= .ref a/\H1 a=some (.ins C dx fs)/\VMeth P w K mg base k C m ps sp/\fs.lookup m=none/\
 t σ H1 fun vs H2=>sp (x::vs) H2 Q E0
structure CMeth (K:W.Frag)(C:Addr)(m:Str)(f:Addr):Prop where
 rd:PySem.W.readsIn K C (.type "type")=true
 fc:PySem.W.findCls K (.ref C) (.type "type") m=some (.val (.ref f))
 sg:PySem.W.specialIn K (.ref C) "__getattribute__"=some (some (.builtin "type.__getattribute__"))
 kp:PySem.W.keepIn K (.ref f)=true
structure CCal (P:Program)(w:World)(K:W.Frag)(mg:Str->Option Value)(base:Heap)(k:Nat)(x m:Str)(ps:List Str)(sp:Sp):Prop where
 ex:∃C f fd,mg x=some (.ref C)/\CMeth K C m f/\FnOk P w K mg base CX0 k f fd ps sp/\q2y K fd ps []
structure Makes (P:Program)(w:World)(K:W.Frag)(mg:Str->Option Value)(base:Heap)(k:Nat)(x:Str)(C:Addr)(ps:List Str)(sp:Sp):Prop where
 ex:∃f fd,Mk K C f/\FnOk P w K mg base CX0 k f fd ps sp/\q2y K fd ps []
 at_:mg x=some (.ref C)
section
variable {X:Cx}{k k':Nat}{C:Addr}{ps:List Str}{sp:Sp}{x m:Str}{p pos apos:Pos}{e o:Expr}{es:List Expr}{ta:TE}{t:TA}
theorem q3V {pl:Sem Bool}(hr:Room k X.A)(he:PE X o ta)(ha:PA X (e::es) t)(hst:starEach (e::es) X.env=(false,eval e X.env)::starEach es X.env:=by rfl)(hpl:(backTo pos (starEach es X.env)).any (·.1)=false:=by rfl)
  (ht:eval (.Call (.Attribute o m apos) (e::es) [] pos) X.env=(do
   let ov<-eval o X.env
   standAt apos.atName
   let (f,first)<-holding [ov] (getMethod ov m pl)
   callWith pos f first (backTo pos (starEach (e::es) X.env)) (backToKw pos (keywordEach [] X.env))):=by rfl):
  PE X (.Call (.Attribute o m apos) (e::es) [] pos) (tVM X.prog X.w X.K X.mg X.base k m ta t):=by
 intro pins s σ H Q I h
 refine zbM (pl:=pl) (thn (he pins s σ H _ I h) fun u s1 ⟨x,H1,I1,rx,a,C,dx,fs,ps,sp,ex,ea,vm,l,q⟩=>?_) ht
 subst ex
 obtain rfl:u=Value.ref a:=rx
 obtain⟨f,fd,hm,F,hb⟩:=vm.ex
 refine q4C I1 ea vm.cl hm l ?_
 refine zbw (first:=[.ref a]) (h₀:=X.base) I.ok.mod.kin hm.kp (thn (ha pos pins s1 σ H1 _ I1 q) fun us s2 ⟨vs,H2,I2,r,q2⟩=>⟨I2.kIn,?_⟩) hst hpl
 exact q6X (us:= .ref a::us) (vs:= .ref a::vs) (ds:=[]) (dvs:=[]) F hr hb .nil q7y I2 (.cons rfl r) (by rw[zH];exact q2)
theorem pe_vm0 {pl:Sem Bool}(hr:Room k X.A)(he:PE X o ta)
  (ht:eval (.Call (.Attribute o m apos) [] [] pos) X.env=(do
   let ov<-eval o X.env
   standAt apos.atName
   let (f,first)<-holding [ov] (getMethod ov m pl)
   callWith pos f first (backTo pos (starEach [] X.env)) (backToKw pos (keywordEach [] X.env))):=by rfl):
  PE X (.Call (.Attribute o m apos) [] [] pos) (tVM X.prog X.w X.K X.mg X.base k m ta tNil):=by
 intro pins s σ H Q I h
 refine zbM (pl:=pl) (thn (he pins s σ H _ I h) fun u s1 ⟨x,H1,I1,rx,a,C,dx,fs,ps,sp,ex,ea,vm,l,q⟩=>?_) ht
 subst ex
 obtain rfl:u=Value.ref a:=rx
 obtain⟨f,fd,hm,F,hb⟩:=vm.ex
 refine q4C I1 ea vm.cl hm l ?_
 exact PySem.W.callWith_K0 (first:=[.ref a]) I1.kIn hm.kp (q6X (us:=[.ref a]) (vs:=[.ref a]) (ds:=[]) (dvs:=[]) F hr hb .nil q7y I1 (.cons rfl .nil) q)
theorem q3X {pl:Sem Bool}{op:Pos}(c:CCal X.prog X.w X.K X.mg X.base k x m ps sp)(hr:Room k' X.A)(hk:k<=k')(hg:Gl X x)(ha:PA X (e::es) t)(hdb:(x==("__debug__":Str))=false:=by decide)
  (hst:starEach (e::es) X.env=(false,eval e X.env)::starEach es X.env:=by rfl)(hpl:(backTo pos (starEach es X.env)).any (·.1)=false:=by rfl)
  (ht:eval (.Call (.Attribute (.Name x op) m apos) (e::es) [] pos) X.env=(do
   let ov<-eval (.Name x op) X.env
   standAt apos.atName
   let (f,first)<-holding [ov] (getMethod ov m pl)
   callWith pos f first (backTo pos (starEach (e::es) X.env)) (backToKw pos (keywordEach [] X.env))):=by rfl):
  PE X (.Call (.Attribute (.Name x op) m apos) (e::es) [] pos) (q9z sp [] E0 t):=by
 intro pins s σ H Q I h
 obtain⟨C,f,fd,hm,cm,F,hb⟩:=c.ex
 refine zbM (pl:=pl) (q46 I hg hm ?_ hdb) ht
 refine PySem.W.method_cls I.kIn cm.sg (PySem.W.cls_value I.kIn cm.rd cm.fc rfl ?_)
 have I1:=I.tok (s.toks+1)
 refine zbw (first:=[]) (h₀:=X.base) I.ok.mod.kin cm.kp (thn (ha pos pins _ σ H _ I1 h) fun us s2 ⟨vs,H2,I2,r,q2⟩=>⟨I2.kIn,?_⟩) hst hpl
 exact q6X F (hr.mono hk) hb .nil q7y I2 r q2
theorem q2E (c:Makes X.prog X.w X.K X.mg X.base k x C ps sp)(hr:Room k' X.A)(hk:k+1<=k')(hg:Gl X x)(ha:PA X (e::es) t)(hdb:(x==("__debug__":Str))=false:=by decide)(he:starEach (e::es) X.env=(false,eval e X.env)::starEach es X.env:=by rfl)
  (hpl:(backTo pos (starEach es X.env)).any (·.1)=false:=by rfl):PE X (.Call (.Name x p) (e::es) [] pos) (q7Z C sp [] E0 t):=by
 obtain⟨f,fd,M,F,b⟩:=c.ex
 exact qbE M F (hr.mono hk) hg c.at_ b .nil q7y ha hdb he hpl
theorem qbF (c:Makes X.prog X.w X.K X.mg X.base k x C ps sp)(hr:Room k' X.A)(hk:k+1<=k')(hg:Gl X x)(hdb:(x==("__debug__":Str))=false:=by decide):PE X (.Call (.Name x p) [] [] pos) (q7Z C sp [] E0 tNil):=by
 obtain⟨f,fd,M,F,b⟩:=c.ex
 exact q9R M F (hr.mono hk) hg c.at_ b .nil q7y hdb
def eqVs (xs ys:List V):Bool:=xs.length==ys.length&&(List.zipWith eqV xs ys).all id
theorem q39 (xs ys:List V):((List.range (min xs.length ys.length)).all fun j=>eqV (xs.getD j .non) (ys.getD j .non))=(List.zipWith eqV xs ys).all id:=by
 rw[zY]
 simp only[List.all_eq_true,List.mem_range,id]
 constructor
 ·intro h b hb
  obtain⟨i,hi,rfl⟩:=zbo.mp hb
  rw[List.length_zipWith] at hi
  have:=h i hi
  simpa[List.getD,show i<xs.length by omega,show i<ys.length by omega] using this
 ·intro h i hi
  have:=h _ (zbo.mpr ⟨i,by rw[List.length_zipWith];exact hi,rfl⟩)
  simpa[List.getD,show i<xs.length by omega,show i<ys.length by omega] using this
theorem q0K {xs:List V}{us:List Value}(r:Vals xs us){j:Nat}(h:j<us.toArray.size):RelV (xs.getD j .non) us.toArray[j]:=by
 have hj:j<us.length:=by simpa using h
 have hx:j<xs.length:=by rw[r.length];exact hj
 obtain⟨u,hu,ru⟩:=r.get (i:=j) (x:=xs[j]) (by simp[hx])
 have e1:us.toArray[j]=u:=by
  have:us[j]? =some us[j]:=by simp[hj]
  rw[this] at hu
  simpa using zD hu
 rw[e1]
 simpa[List.getD,hx] using ru
theorem q4Y {xs:List V}(h:xs.all q3i=true)(j:Nat):q3i (xs.getD j .non)=true:=by
 by_cases hj:j<xs.length
 ·rw [zav] at h
  have:=h xs[j] (zx hj)
  simpa[List.getD,hj] using this
 ·simp [List.getD,show xs.length<=j by omega,q3i]
def rEqLs (K:W.Frag):R2:=fun x y H Q=>∃p q xs ys,x= .ref p/\y= .ref q/\SqL K H p xs/\SqL K H q ys/\xs.all q3i=true/\ys.all q3i=true/\Q (.bl (eqVs xs ys)) H
theorem op_eqL (hu:X.A.units<cLine):OpR X (compareOp .Eq) (rEqLs X.K):=by
 intro pins s σ H x y v u Q I rx ry h
 obtain⟨p,q,xs,ys,rfl,rfl,hp,hq,fx,fy,k⟩:=h
 cases rx
 cases ry
 obtain⟨ia,ra,pa,_⟩:=I.list hp
 obtain⟨ib,rb,pb,_⟩:=I.list hq
 have la:=ra.length
 have lb:=rb.length
 by_cases hl:xs.length=ys.length
 ·refine SeqAt.eq_listAt (e:=fun j=>eqV (xs.getD j .non) (ys.getD j .non)) pa.isList pb.isList (by simp;omega) hu (fun j h1 h2=>q8V (q0K ra h1) (q0K rb h2) (q4Y fx j) (q4Y fy j)) ⟨.bl (eqVs xs ys),H,I,?_,k⟩
  show Value.bool _=Value.bool _
  unfold eqVs
  rw[<-q39,show ia.toArray.size=min xs.length ys.length by simp;omega]
  simp[hl]
 ·refine SeqAt.eq_list_lengthsAt pa.isList pb.isList (by simp;omega) hu ⟨.bl (eqVs xs ys),H,I,?_,k⟩
  show Value.bool _=Value.bool _
  unfold eqVs
  simp[hl]
def qby (K:W.Frag):R2:=fun x y H Q=>∃p q xs ys,x= .ref p/\y= .ref q/\SqT K H p xs/\SqT K H q ys/\xs.all q3i=true/\ys.all q3i=true/\Q (.bl (eqVs xs ys)) H
theorem qb2 (hu:X.A.units<cLine):OpR X (compareOp .Eq) (qby X.K):=by
 intro pins s σ H x y v u Q I rx ry h
 obtain⟨p,q,xs,ys,rfl,rfl,hp,hq,fx,fy,k⟩:=h
 cases rx
 cases ry
 obtain⟨ia,ra,pa,_⟩:=I.tuple hp
 obtain⟨ib,rb,pb,_⟩:=I.tuple hq
 have la:=ra.length
 have lb:=rb.length
 refine SeqAt.eq_tupleAt (e:=fun j=>eqV (xs.getD j .non) (ys.getD j .non)) (show s.heap.IsTuple p ia.toArray from pa) (show s.heap.IsTuple q ib.toArray from pb) hu (fun j h1 h2=>q8V (q0K ra h1) (q0K rb h2) (q4Y fx j) (q4Y fy j)) ⟨.bl (eqVs xs ys),H,I,?_,k⟩
 show Value.bool _=Value.bool _
 unfold eqVs
 rw[<-q39,Bool.and_comm]
 simp[la,lb]
end
section
variable {X:Cx}{e o:Expr}{es:List Expr}{ta:TE}{t:TA}{pos apos:Pos}{m f:Str}
theorem qM (K:W.Frag)(h:X.K=K:=by rfl):IxR X (rIxL K):=by subst h;exact qc9
theorem qf (K:W.Frag)(h:X.K=K:=by rfl):IxR X (rIxT K):=by subst h;exact ix_tup
theorem q0R (K:W.Frag)(h:X.K=K:=by rfl):SlR X (rSlL K):=by subst h;exact qbm
theorem q0Q (K:W.Frag)(h:X.K=K:=by rfl):SlR X (qbx K):=by subst h;exact qbl
theorem q73 (K:W.Frag)(h:X.K=K:=by rfl):OpR X (binaryOp .Add) (rCatT K):=by subst h;exact q8u
theorem qbI (K:W.Frag)(hu:X.A.units<cLine)(h:X.K=K:=by rfl):OpR X (compareOp .Eq) (qby K):=by subst h;exact qb2 hu
theorem qbJ (K:W.Frag)(hu:X.A.units<cLine)(h:X.K=K:=by rfl):OpR X (compareOp .Eq) (rEqLs K):=by subst h;exact op_eqL hu
theorem q0g {k:Nat}{g:TGs}{n:Nat}(K:W.Frag)(hc:X.calm=true)(h:PGs X es g)(hK:X.K=K:=by rfl)(hn:(assignEach es X.env).length=n:=by rfl)(hst:(assignEach es X.env).findIdx? (·.1)=none:=by rfl):PG X (.Tuple es k pos) (gTup K n g):=by
 subst hK
 exact pg_tup hc h hn hst
theorem q0B (K:W.Frag)(he:PE X e ta)(hb:attributeBase e f X.env (eval e X.env)=eval e X.env)(hK:X.K=K:=by rfl):PE X (.Attribute e f pos) (tFld K ta f):=by
 subst hK
 exact pe_fld he hb
end
section
variable {X:Cx}{pos:Pos}
theorem qas:PGet X (rIxL X.K):=by
 intro pins s σ H o i ov iv Q I ro ri h
 obtain⟨p,xs,i,z,rfl,rfl,hq,he,q⟩:=h
 cases ro
 obtain⟨t,rfl⟩:=ri
 obtain⟨its,r,pl,hz⟩:=I.list hq
 obtain⟨j,h1,h2,h3,h4,h5⟩:=q6I he
 obtain⟨w,ew,rw'⟩:=r.get h2
 have hl:=r.length
 have hn:=q5W
 have fin:EP X pins σ Q w s:=⟨z,H,I,rw',q⟩
 by_cases h0:0<=i
 ·have hj:i.toNat=j:=by
   rw[seqIndex_of h0 h5] at h1
   exact zD h1
  exact wpAny_getItem_list pl.isList h0 (by omega) (by rw[hj];simpa using ew) fin
 ·have hj:(i+(its.toArray.size:Int)).toNat=j:=by
   rw[seqIndex_neg (by omega) h4] at h1
   rw[zw,<-hl]
   exact zD h1
  exact wpAny_getItem_list_neg pl.isList (by omega) (by rw[zw]<;>omega) (by omega) (by rw[hj];simpa using ew) fin
end
def rLen (K:W.Frag):List V->Hp->VK->Prop:=fun xs H Q=>∃p ys,xs=[.ref p]/\(SqL K H p ys\/SqT K H p ys)/\Q (.int ys.length) H
def qaY (K:W.Frag):List V->Hp->VK->Prop:=fun xs H Q=>∃p ys,xs=[.ref p]/\((SqL K H p ys/\∀l,H l=none->Q (.ref l) (upd H l (.tup ys)))\/(SqT K H p ys/\Q (.ref p) H))
def rLstOf (K:W.Frag):List V->Hp->VK->Prop:=fun xs H Q=>∃p ys,xs=[.ref p]/\(SqL K H p ys\/SqT K H p ys)/\∀l,H l=none->Q (.ref l) (upd H l (.lst ys))
def rMax2:List V->Hp->VK->Prop:=fun xs H Q=>∃i j,xs=[.int i,.int j]/\Q (.int (if j>i then j else i)) H
def rMin2:List V->Hp->VK->Prop:=fun xs H Q=>∃i j,xs=[.int i,.int j]/\Q (.int (if j<i then j else i)) H
def rInt1:List V->Hp->VK->Prop:=fun xs H Q=>(∃i,xs=[.int i]/\Q (.int i) H)\/∃k,xs=[.bl k]/\Q (.int (if k then 1 else 0)) H
section
variable {X:Cx}
theorem lenK (K:W.Frag)(h:X.K=K:=by rfl):q17 X (.builtin "len") (rLen K):=by subst h;exact q67
theorem q5m (K:W.Frag)(h:X.K=K:=by rfl):q17 X (.type "tuple") (qaY K):=by subst h;exact q51
theorem lstOfK (K:W.Frag)(h:X.K=K:=by rfl):q17 X (.type "list") (rLstOf K):=by subst h;exact q66
theorem max2 (hc:X.calm=true):q17 X (.builtin "max") rMax2:=q9h hc
theorem min2 (hc:X.calm=true):q17 X (.builtin "min") rMin2:=q9g hc
theorem int1:q17 X (.type "int") rInt1:=q9j
end
section
variable {σ:St}{H:Hp}{Q:VK}{B:Bool->Hp->Prop}{L:List V->Hp->Prop}{ta tb:TE}{t:TA}{c d:TT}{nx bk ct:St->Hp->Prop}{rt:VK}{g:TG}{K:W.Frag}
theorem r_var {i:Nat}{v:V}(h:σ[i]? =some (some v))(q:Q v H):tVar i σ H Q:=⟨v,h,q⟩
theorem r_c {v:V}(q:Q v H):tC v σ H Q:=q
theorem r_op {r:R2}(q:ta σ H fun x H1=>tb σ H1 fun y H2=>r x y H2 Q):tOp r ta tb σ H Q:=q
theorem r_un {r:V->Hp->VK->Prop}(q:ta σ H fun x H1=>r x H1 Q):tUn r ta σ H Q:=q
theorem r_I0 {f:Int->Int->V}{i j:Int}(q:Q (f i j) H):rI0 f (.int i) (.int j) H Q:=⟨i,j,rfl,rfl,q⟩
theorem r_I {C:Int->Int->Prop}{f:Int->Int->V}{i j:Int}(h:C i j)(q:Q (f i j) H):rI C f (.int i) (.int j) H Q:=⟨i,j,rfl,rfl,h,q⟩
theorem r_U {f:Int->V}{i:Int}(q:Q (f i) H):rU f (.int i) H Q:=⟨i,rfl,q⟩
theorem r_isN (q:ta σ H fun x H1=>Q (.bl (decide (x= .non))) H1):tIsN ta σ H Q:=q
theorem r_notN (q:ta σ H fun x H1=>Q (.bl (!decide (x= .non))) H1):tNotN ta σ H Q:=q
theorem r_B (q:ta σ H fun x H1=>∃k,x= .bl k/\B k H1):tB ta σ H B:=q
theorem r_test (q:ta σ H fun x H1=>∃k,x= .bl k/\B k H1):tTest ta σ H B:=q
theorem r_bl {b:Bool}{P:Bool->Prop}(q:P b):∃k,V.bl b=V.bl k/\P k:=⟨b,rfl,q⟩
theorem r_and (q:c σ H fun k H1=>if k=true then d σ H1 B else B false H1):tAnd c d σ H B:=q
theorem r_or (q:c σ H fun k H1=>if k=true then B true H1 else d σ H1 B):tOr c d σ H B:=q
theorem r_not (q:c σ H fun k H1=>B (!k) H1):tNot c σ H B:=q
theorem r_andV (q:ta σ H fun x H1=>∃k,x= .bl k/\if k=true then tb σ H1 Q else Q (.bl false) H1):tAndV ta tb σ H Q:=q
theorem r_orV (q:ta σ H fun x H1=>∃k,x= .bl k/\if k=true then Q (.bl true) H1 else tb σ H1 Q):tOrV ta tb σ H Q:=q
theorem r_notV (q:ta σ H fun x H1=>∃k,x= .bl k/\Q (.bl (!k)) H1):tNotV ta σ H Q:=q
theorem r_if (q:c σ H fun k H1=>if k=true then ta σ H1 Q else tb σ H1 Q):tIf c ta tb σ H Q:=q
theorem r_cons (q:ta σ H fun x H1=>t σ H1 fun xs H2=>L (x::xs) H2):tCons ta t σ H L:=q
theorem r_nil (q:L [] H):tNil σ H L:=q
theorem r_tup (q:t σ H fun xs H1=>xs.length<=sizeLine/\∀p,H1 p=none->Q (.ref p) (upd H1 p (.tup xs))):tTup t σ H Q:=q
theorem r_lst (q:t σ H fun xs H1=>xs.length<=sizeLine/\∀p,H1 p=none->Q (.ref p) (upd H1 p (.lst xs))):tLst t σ H Q:=q
theorem r_al {n:Nat}{P:Prop}(h:Nat.ble n sizeLine=true)(q:P):n<=sizeLine/\P:=⟨Nat.le_of_ble_eq_true h,q⟩
theorem r_call {sp:Sp}{E:XK}(q:t σ H fun vs H1=>sp (vs++[]) H1 Q E):q9z sp [] E t σ H Q:=q
theorem r_cb {r:List V->Hp->VK->Prop}(q:t σ H fun vs H1=>r vs H1 Q):tCB r t σ H Q:=q
theorem r_bm {T:String}{r:V->List V->Hp->VK->Prop}(q:ta σ H fun x H1=>tyV K T x H1/\t σ H1 fun xs H2=>r x xs H2 Q):tBM K T r ta t σ H Q:=q
theorem r_sl {r:V->Option Int->Option Int->Hp->VK->Prop}{tl th:TO}(q:ta σ H fun x H1=>tl σ H1 fun l H2=>th σ H2 fun u H3=>r x l u H3 Q):tSl r ta tl th σ H Q:=q
theorem r_np {P:Option Int->Hp->Prop}(q:P none H):q7Y σ H P:=q
theorem r_pt {P:Option Int->Hp->Prop}(q:ta σ H fun x H1=>∃i,x= .int i/\P (some i) H1):tPart ta σ H P:=q
theorem r_int {i:Int}{P:Int->Prop}(q:P i):∃k,V.int i=V.int k/\P k:=⟨i,rfl,q⟩
theorem r_eqI {i j:Int}(q:Q (.bl (decide (i=j))) H):rEq (.int i) (.int j) H Q:=⟨rfl,by rw[show decide (V.int i=V.int j)=decide (i=j) by simp];exact q⟩
theorem r_eqS {i j:Str}(q:Q (.bl (decide (i=j))) H):rEq (.str i) (.str j) H Q:=⟨rfl,by rw[show decide (V.str i=V.str j)=decide (i=j) by simp];exact q⟩
theorem r_eqB {i j:Bool}(q:Q (.bl (decide (i=j))) H):rEq (.bl i) (.bl j) H Q:=⟨rfl,by rw[show decide (V.bl i=V.bl j)=decide (i=j) by simp];exact q⟩
theorem r_neI {i j:Int}(q:Q (.bl (!decide (i=j))) H):rNe (.int i) (.int j) H Q:=⟨rfl,by rw[show decide (V.int i=V.int j)=decide (i=j) by simp];exact q⟩
theorem r_neS {i j:Str}(q:Q (.bl (!decide (i=j))) H):rNe (.str i) (.str j) H Q:=⟨rfl,by rw[show decide (V.str i=V.str j)=decide (i=j) by simp];exact q⟩
theorem q3x {p:Addr}{xs:List V}{i:Int}{v:V}(h:SqT K H p xs)(e:atI xs i=some v)(q:Q v H):rIxT K (.ref p) (.int i) H Q:=⟨p,xs,i,v,rfl,rfl,h,e,q⟩
theorem q2d {p:Addr}{xs:List V}{i:Int}{v:V}(h:SqL K H p xs)(e:atI xs i=some v)(q:Q v H):rIxL K (.ref p) (.int i) H Q:=⟨p,xs,i,v,rfl,rfl,h,e,q⟩
theorem r_lenT {p:Addr}{xs:List V}(h:SqT K H p xs)(q:Q (.int xs.length) H):rLen K [.ref p] H Q:=⟨p,xs,rfl,.inr h,q⟩
theorem r_lenL {p:Addr}{xs:List V}(h:SqL K H p xs)(q:Q (.int xs.length) H):rLen K [.ref p] H Q:=⟨p,xs,rfl,.inl h,q⟩
theorem atI0 {v:V}{l:List V}:atI (v::l) 0=some v:=q0H (j:=0) rfl
theorem qct {xs:List V}{j:Nat}{v:V}(h:xs[j]? =some v):atI xs (0+(j:Int))=some v:=by rw[zas];exact q0H h
theorem q7X {α β:Type}(f:α->β)(xs:List α){i:Nat}(hi:i<xs.length):(xs.take i).map f++[f xs[i]]=(xs.take (i+1)).map f:=by rw[zn hi,zv];rfl
theorem qbt {x:V}{n a:String}{b:Bool}(h:tyS H x=some a)(k:q8C n=true)(e:subS a n=b)(q:Q (.bl b) H):q8j [x,.ty n] H Q:=⟨x,n,a,rfl,h,k,by rw[e];exact q⟩
theorem q9H {i:Int}(q:Q (.bl false) H):q8j [.int i,.ty "bool"] H Q:=qbt rfl (by walk_at "k") (by walk_at "k") q
theorem q9G {i:Int}(q:Q (.bl true) H):q8j [.int i,.ty "int"] H Q:=qbt rfl (by walk_at "k") (by walk_at "k") q
theorem q9I {i:Bool}(q:Q (.bl true) H):q8j [.bl i,.ty "bool"] H Q:=qbt rfl (by walk_at "k") (by walk_at "k") q
theorem r_asg (q:ta σ H fun x H1=>g x σ H1 nx):tAsg ta g ⟨nx,rt,bk,ct⟩ σ H:=q
theorem r_name {i:Nat}{v:V}{N:St->Hp->Prop}(q:N (σ.set i (some v)) H):qat i v σ H N:=q
theorem r_ifS {t u:TS}{D:Ends}(q:c σ H fun k H1=>if k=true then t D σ H1 else u D σ H1):tIfS c t u D σ H:=q
theorem r_ret (q:ta σ H rt):tRet ta ⟨nx,rt,bk,ct⟩ σ H:=q
theorem r_next (q:nx σ H):tNext ⟨nx,rt,bk,ct⟩ σ H:=q
theorem r_drop (q:ta σ H fun _ H1=>nx σ H1):tDrop ta ⟨nx,rt,bk,ct⟩ σ H:=q
theorem r_augS {to ti te:TE}{tget:V->V->Hp->VK->Prop}{tip:TIp}{tset:TSet}(q:to σ H fun o H1=>ti σ H1 fun i H2=>tget o i H2 fun x H3=>te σ H3 fun y H4=>tip x y H4 fun z H5=>tset o i z H5 fun H6=>nx σ H6):tAugS to ti te tget tip tset ⟨nx,rt,bk,ct⟩ σ H:=q
theorem r_ipI {f:Int->Int->Int}{i j:Int}(q:Q (.int (f i j)) H):ipI f (.int i) (.int j) H Q:=⟨i,j,rfl,rfl,q⟩
theorem qaW {p:Addr}{xs:List V}{k:Int}{j:Nat}{v:V}{R:Hp->Prop}(h:H p=some (.lst xs))(e:ixN xs.length k=some j)(q:R (upd H p (.lst (xs.set j v)))):rSetL (.ref p) (.int k) v H R:=⟨p,xs,k,j,rfl,rfl,h,e,q⟩
theorem r_gT {n:Nat}{gs:TGs}{p:Addr}{xs:List V}{N:St->Hp->Prop}(h:SqT K H p xs)(e:xs.length=n)(q:gs xs σ H N):gTup K n gs (.ref p) σ H N:=⟨p,xs,rfl,h,e,q⟩
theorem r_gc {gs:TGs}{v:V}{vs:List V}{N:St->Hp->Prop}(q:g v σ H fun σ' H'=>gs vs σ' H' N):gCons g gs (v::vs) σ H N:=⟨v,vs,rfl,q⟩
theorem r_gn {N:St->Hp->Prop}(q:N σ H):gNil [] σ H N:=⟨rfl,q⟩
theorem q3U {p:Addr}{xs:List V}{y:V}(h:H p=some (.lst xs))(hz:xs.length<sizeLine)(q:Q .non (upd H p (.lst (xs++[y])))):q8k (.ref p) [y] H Q:=⟨p,xs,y,rfl,rfl,h,hz,q⟩
theorem r_tyL {p:Addr}{xs:List V}{P:Prop}(h:H p=some (.lst xs))(q:P):tyV K "list" (.ref p) H/\P:=⟨.inl ⟨rfl,_,SqL.of h⟩,q⟩
theorem ifd {p:Prop}[Decidable p]{A B:Prop}(h1:p->A)(h2:¬p->B):if decide p=true then A else B:=by
 by_cases h:p
 ·rw [zj (ze h)];exact h1 h
 ·rw [zd (by simp[h])];exact h2 h
theorem ifn {p:Prop}[Decidable p]{A B:Prop}(h1:¬p->A)(h2:p->B):if (!decide p)=true then A else B:=by
 by_cases h:p
 ·rw [zd (by simp[h])];exact h2 h
 ·rw [zj (by simp[h])];exact h1 h
theorem r_max2 {x y:Int}(q:Q (.int (if y>x then y else x)) H):rMax2 [.int x,.int y] H Q:=⟨x,y,rfl,q⟩
theorem r_min2 {x y:Int}(q:Q (.int (if y<x then y else x)) H):rMin2 [.int x,.int y] H Q:=⟨x,y,rfl,q⟩
theorem r_intb {x:Bool}(q:Q (.int (if x then 1 else 0)) H):rInt1 [.bl x] H Q:= .inr ⟨x,rfl,q⟩
theorem q8i {p:Addr}{ys:List V}(h:SqL K H p ys)(q:∀l,H l=none->Q (.ref l) (upd H l (.tup ys))):qaY K [.ref p] H Q:=⟨p,ys,rfl,.inl ⟨h,q⟩⟩
theorem ifnT {A B:Prop}(h:B):if (!true)=true then A else B:=iteF h
theorem ifnF {A B:Prop}(h:A):if (!false)=true then A else B:=iteT h
theorem q1k {a b:Addr}{o u:HO}(h:H b=some u)(n:H a=none):upd H a o b=some u:=by rw[qw (qy h n)];exact h
theorem up_oth {a b:Addr}{o u:HO}(h:H b=some u)(n:b≠a):upd H a o b=some u:=by rw[qw n];exact h
end
section
variable {σ:St}{H:Hp}{g:TG}{tb:TS}{nx bk ct:St->Hp->Prop}{rt:VK}{t:TA}{wi:TI}
theorem r_for (q:wi σ H fun J H1=>∃W:Nat->Nat->St->Hp->Prop,(∃m,W 0 m σ H1)/\∀i m σ H,W i m σ H->
  (J.stop i H/\nx σ H)\/(J.go i H/\∃N:St->Hp->Prop,(∀σ' H',N σ' H'->∃m',m'<m/\W (i+1) m' σ' H')/\∀x H',J.yld i H x H'->g x σ H' fun σ2 H2=>tb ⟨N,rt,nx,N⟩ σ2 H2)):tFor wi g tb ⟨nx,rt,bk,ct⟩ σ H:=q
def rRg (R:It->Hp->Prop):List V->Hp->Prop:=fun vs H1=>∃j:Int,vs=[.int j]/\ -(2 ^ 62)<=j/\j<2 ^ 62/\R (Itr 0 j.toNat) H1
def rRg2 (R:It->Hp->Prop):List V->Hp->Prop:=fun vs H1=>∃i j:Int,vs=[.int i,.int j]/\(-(2 ^ 62)<=i/\i<2 ^ 62/\ -(2 ^ 62)<=j/\j<2 ^ 62)/\R (Itr i (j - i).toNat) H1
theorem r_rng1 {R:It->Hp->Prop}(q:t σ H (rRg R)):iRng1 t σ H R:=q
theorem r_rng2 {R:It->Hp->Prop}(q:t σ H (rRg2 R)):iRng2 t σ H R:=q
theorem r_comp {tc:TT}{te:TE}{own:Nat}{caps:List Nat}{Q:VK}(q:wi σ H fun J H1=>∀D,H1 D=none->∃W:Nat->Nat->St->Hp->Prop,(∃m,W 0 m (q3u own caps σ) (upd H1 D (.lst [])))/\∀i m σ' H',W i m σ' H'->
  (J.stop i H'/\Q (.ref D) H')\/(J.go i H'/\∃N:St->Hp->Prop,(∀σ'' H'',N σ'' H''->∃m',m'<m/\W (i+1) m' σ'' H'')/\∀x H2,J.yld i H' x H2->g x σ' H2 fun σ3 H3=>tc σ3 H3 fun b H4=>
   if b=true then te σ3 H4 fun y H5=>∃ys,H5 D=some (.lst ys)/\ys.length<sizeLine/\N σ3 (upd H5 D (.lst (ys++[y]))) else N σ3 H4)):q9y wi g tc te own caps σ H Q:=q
theorem r_yes {B:Bool->Hp->Prop}(q:B true H):tYes σ H B:=q
theorem r_iL {K:W.Frag}{tl:TE}{R:It->Hp->Prop}(q:tl σ H fun x H1=>∃a,x= .ref a/\(∃xs,SqL K H1 a xs)/\R (Itl K a) H1):qca K tl σ H R:=q
theorem r_iT {K:W.Frag}{tl:TE}{R:It->Hp->Prop}(q:tl σ H fun x H1=>∃a,x= .ref a/\(∃xs,SqT K H1 a xs)/\R (Itt K a) H1):iTup K tl σ H R:=q
theorem r_eL {K:W.Frag}{R:It->Hp->Prop}(q:t σ H fun vs H1=>∃a,vs=[.ref a]/\(∃xs,SqL K H1 a xs)/\R (Ite fun H xs=>SqL K H a xs) H1):q8J K t σ H R:=q
theorem r_eT {K:W.Frag}{R:It->Hp->Prop}(q:t σ H fun vs H1=>∃a,vs=[.ref a]/\(∃xs,SqT K H1 a xs)/\R (Ite fun H xs=>SqT K H a xs) H1):q8I K t σ H R:=q
theorem r_refL {K:W.Frag}{p:Addr}{xs:List V}{R:Addr->Prop}(h:SqL K H p xs)(q:R p):∃a,V.ref p= .ref a/\(∃xs,SqL K H a xs)/\R a:=⟨p,rfl,⟨xs,h⟩,q⟩
theorem r_refT {K:W.Frag}{p:Addr}{xs:List V}{R:Addr->Prop}(h:SqT K H p xs)(q:R p):∃a,V.ref p= .ref a/\(∃xs,SqT K H a xs)/\R a:=⟨p,rfl,⟨xs,h⟩,q⟩
theorem qbs {K:W.Frag}{p:Addr}{xs:List V}{R:Addr->Prop}(h:SqL K H p xs)(q:R p):∃a,[V.ref p]=[.ref a]/\(∃xs,SqL K H a xs)/\R a:=⟨p,rfl,⟨xs,h⟩,q⟩
theorem qbr {K:W.Frag}{p:Addr}{xs:List V}{R:Addr->Prop}(h:SqT K H p xs)(q:R p):∃a,[V.ref p]=[.ref a]/\(∃xs,SqT K H a xs)/\R a:=⟨p,rfl,⟨xs,h⟩,q⟩
theorem r_rg {j:Int}{R:It->Hp->Prop}(h: -1000000<=j/\j<=1000000)(q:R (Itr 0 j.toNat) H):rRg R [.int j] H:=⟨j,rfl,by omega,by omega,q⟩
theorem r_rg2 {i j:Int}{R:It->Hp->Prop}(h:(-1000000<=i/\i<=1000000)/\ -1000000<=j/\j<=1000000)(q:R (Itr i (j - i).toNat) H):rRg2 R [.int i,.int j] H:=⟨i,j,rfl,by omega,q⟩
end
section
variable {J:It}{g:TG}{tb:TS}{nx:St->Hp->Prop}{rt:VK}{σ:St}{H:Hp}{K:W.Frag}{a:Addr}{xs:List V}{tc:TT}{te:TE}{R:Hp->Prop}{D:Addr}
abbrev ForG (J:It)(g:TG)(tb:TS)(nx:St->Hp->Prop)(rt:VK)(σ:St)(H:Hp):Prop:=∃W:Nat->Nat->St->Hp->Prop,(∃m,W 0 m σ H)/\∀i m σ H,W i m σ H->
  (J.stop i H/\nx σ H)\/(J.go i H/\∃N:St->Hp->Prop,(∀σ' H',N σ' H'->∃m',m'<m/\W (i+1) m' σ' H')/\∀x H',J.yld i H x H'->g x σ H' fun σ2 H2=>tb ⟨N,rt,nx,N⟩ σ2 H2)
theorem q6x (n:Nat)(Pv:Nat->St->Hp->Prop)(h0:Pv 0 σ H)
  (go:∀i σ H,i<n->Pv i σ H->J.go i H/\∀x H',J.yld i H x H'->g x σ H' fun σ2 H2=>tb ⟨Pv (i+1),rt,nx,Pv (i+1)⟩ σ2 H2)(stop:∀σ H,Pv n σ H->J.stop n H/\nx σ H):ForG J g tb nx rt σ H:=by
 refine⟨fun i m σ H=>m=n - i/\i<=n/\Pv i σ H,⟨n,by simp,zan _,h0⟩,?_⟩
 rintro i m σ H ⟨rfl,hi,p⟩
 by_cases hlt:i<n
 ·obtain ⟨q1,q2⟩:=go i σ H hlt p
  exact .inr ⟨q1,Pv (i+1),fun σ' H' p'=>⟨n - (i+1),by omega,rfl,hlt,p'⟩,q2⟩
 ·have e:i=n:=by omega
  subst e
  exact .inl (stop σ H p)
theorem q4b {lo:Int}{n:Nat}(Pv:Nat->St->Hp->Prop)(h0:Pv 0 σ H)(go:∀i σ H,i<n->Pv i σ H->g (.int (lo+(i:Nat))) σ H fun σ2 H2=>tb ⟨Pv (i+1),rt,nx,Pv (i+1)⟩ σ2 H2)(stop:∀σ H,Pv n σ H->nx σ H):ForG (Itr lo n) g tb nx rt σ H:=
 q6x n Pv h0 (fun i σ H hi p=>⟨hi,fun x H' ⟨e1,e2⟩=>by subst e1 e2;exact go i σ _ hi p⟩) fun σ H p=>⟨zc _,stop σ H p⟩
theorem q8O (xs:List V)(Pv:Nat->St->Hp->Prop)(h0:Pv 0 σ H)(hl:∀i σ H,Pv i σ H->SqL K H a xs)(go:∀i x σ H,xs[i]? =some x->Pv i σ H->g x σ H fun σ2 H2=>tb ⟨Pv (i+1),rt,nx,Pv (i+1)⟩ σ2 H2)(stop:∀σ H,Pv xs.length σ H->nx σ H):ForG (Itl K a) g tb nx rt σ H:=
 q6x xs.length Pv h0 (fun i σ H hi p=>⟨⟨xs,xs[i],hl i σ H p,by simp[hi]⟩,fun x H' ⟨e1,e2⟩=>by subst e1;exact go i x σ _ (e2 xs (hl i σ _ p)) p⟩) fun σ H p=>⟨⟨xs,hl _ σ H p,zc _⟩,stop σ H p⟩
theorem q8P {Sq:Hp->List V->Prop}(xs:List V)(Pv:Nat->St->Hp->Prop)(h0:Pv 0 σ H)(hl:∀i σ H,Pv i σ H->Sq H xs)(go:∀i x σ H T,xs[i]? =some x->Pv i σ H->H T=none->g (.ref T) σ (upd H T (.tup [.int (i:Nat),x])) fun σ2 H2=>tb ⟨Pv (i+1),rt,nx,Pv (i+1)⟩ σ2 H2)
  (stop:∀σ H,Pv xs.length σ H->nx σ H):ForG (Ite Sq) g tb nx rt σ H:=
 q6x xs.length Pv h0 (fun i σ H hi p=>⟨⟨xs,xs[i],hl i σ H p,by simp[hi]⟩,fun x H' ⟨T,hT,e1,e2⟩=>by
  have hx:xs[i]? =some xs[i]:=by simp[hi]
  have e3:=e2 xs xs[i] (hl i σ _ p) hx
  subst e1 e3
  exact go i _ σ _ T hx p hT⟩) fun σ H p=>⟨⟨xs,hl _ σ H p,zc _⟩,stop σ H p⟩
abbrev qaG (J:It)(g:TG)(tc:TT)(te:TE)(R:Hp->Prop)(D:Addr)(σ:St)(H:Hp):Prop:=∃W:Nat->Nat->St->Hp->Prop,(∃m,W 0 m σ H)/\∀i m σ H,W i m σ H->
   (J.stop i H/\R H)\/(J.go i H/\∃N:St->Hp->Prop,(∀σ' H',N σ' H'->∃m',m'<m/\W (i+1) m' σ' H')/\∀x H',J.yld i H x H'->g x σ H' fun σ3 H3=>tc σ3 H3 fun b H4=>
    if b=true then te σ3 H4 fun y H5=>∃ys,H5 D=some (.lst ys)/\ys.length<sizeLine/\N σ3 (upd H5 D (.lst (ys++[y]))) else N σ3 H4)
theorem q2w {lo:Int}{n:Nat}(Pv:Nat->St->Hp->Prop)(h0:Pv 0 σ H)(go:∀i σ H,i<n->Pv i σ H->g (.int (lo+(i:Nat))) σ H fun σ3 H3=>tc σ3 H3 fun b H4=>
   if b=true then te σ3 H4 fun y H5=>∃ys,H5 D=some (.lst ys)/\ys.length<sizeLine/\Pv (i+1) σ3 (upd H5 D (.lst (ys++[y]))) else Pv (i+1) σ3 H4)(stop:∀σ H,Pv n σ H->R H):qaG (Itr lo n) g tc te R D σ H:=
 q50 n Pv h0 (fun i σ H hi p=>⟨hi,fun x H' ⟨e1,e2⟩=>by subst e1 e2;exact go i σ _ hi p⟩) fun σ H p=>⟨zc _,stop σ H p⟩
theorem q0c (xs:List V)(Pv:Nat->St->Hp->Prop)(h0:Pv 0 σ H)(hl:∀i σ H,Pv i σ H->SqL K H a xs)(go:∀i x σ H,xs[i]? =some x->Pv i σ H->g x σ H fun σ3 H3=>tc σ3 H3 fun b H4=>
   if b=true then te σ3 H4 fun y H5=>∃ys,H5 D=some (.lst ys)/\ys.length<sizeLine/\Pv (i+1) σ3 (upd H5 D (.lst (ys++[y]))) else Pv (i+1) σ3 H4)(stop:∀σ H,Pv xs.length σ H->R H):qaG (Itl K a) g tc te R D σ H:=
 q50 xs.length Pv h0 (fun i σ H hi p=>⟨⟨xs,xs[i],hl i σ H p,by simp[hi]⟩,fun x H' ⟨e1,e2⟩=>by subst e1;exact go i x σ _ (e2 xs (hl i σ _ p)) p⟩) fun σ H p=>⟨⟨xs,hl _ σ H p,zc _⟩,stop σ H p⟩
theorem qaA (xs:List V)(Pv:Nat->St->Hp->Prop)(h0:Pv 0 σ H)(hl:∀i σ H,Pv i σ H->SqT K H a xs)(go:∀i x σ H,xs[i]? =some x->Pv i σ H->g x σ H fun σ3 H3=>tc σ3 H3 fun b H4=>
   if b=true then te σ3 H4 fun y H5=>∃ys,H5 D=some (.lst ys)/\ys.length<sizeLine/\Pv (i+1) σ3 (upd H5 D (.lst (ys++[y]))) else Pv (i+1) σ3 H4)(stop:∀σ H,Pv xs.length σ H->R H):qaG (Itt K a) g tc te R D σ H:=
 q50 xs.length Pv h0 (fun i σ H hi p=>⟨⟨xs,xs[i],hl i σ H p,by simp[hi]⟩,fun x H' ⟨e1,e2⟩=>by subst e1;exact go i x σ _ (e2 xs (hl i σ _ p)) p⟩) fun σ H p=>⟨⟨xs,hl _ σ H p,zc _⟩,stop σ H p⟩
theorem qaB {Sq:Hp->List V->Prop}(xs:List V)(Pv:Nat->St->Hp->Prop)(h0:Pv 0 σ H)(hl:∀i σ H,Pv i σ H->Sq H xs)(go:∀i x σ H T,xs[i]? =some x->Pv i σ H->H T=none->g (.ref T) σ (upd H T (.tup [.int (i:Nat),x])) fun σ3 H3=>tc σ3 H3 fun b H4=>
   if b=true then te σ3 H4 fun y H5=>∃ys,H5 D=some (.lst ys)/\ys.length<sizeLine/\Pv (i+1) σ3 (upd H5 D (.lst (ys++[y]))) else Pv (i+1) σ3 H4)(stop:∀σ H,Pv xs.length σ H->R H):qaG (Ite Sq) g tc te R D σ H:=
 q50 xs.length Pv h0 (fun i σ H hi p=>⟨⟨xs,xs[i],hl i σ H p,by simp[hi]⟩,fun x H' ⟨T,hT,e1,e2⟩=>by
  have hx:xs[i]? =some xs[i]:=by simp[hi]
  have e3:=e2 xs xs[i] (hl i σ _ p) hx
  subst e1 e3
  exact go i _ σ _ T hx p hT⟩) fun σ H p=>⟨⟨xs,hl _ σ H p,zc _⟩,stop σ H p⟩
end
section
variable {X:Cx}{pos:Pos}{tg:Expr}{es:List Expr}{e o l:Expr}{ta te tl:TE}{t:TA}{K:W.Frag}
theorem q5Z (K:W.Frag)(h:X.K=K:=by rfl):PGet X (rIxL K):=by subst h;exact qas
theorem qO (K:W.Frag)(hl:PE X l tl)(h:X.K=K:=by rfl):PI X tg l (qca K tl):=by subst h;exact qbC hl
theorem qbB (K:W.Frag)(hl:PE X l tl)(h:X.K=K:=by rfl):PI X tg l (iTup K tl):=by subst h;exact pi_tup hl
theorem q5R {elts:List Expr}{k:Nat}{tp:Pos}{a:Expr}{p pos:Pos}(K:W.Frag)(hg:Gl X "enumerate")(hm:X.mg "enumerate"=none)(ha:PA X [a] t)(h:X.K=K:=by rfl)(hs:starEach [a] X.env=[(false,eval a X.env)]:=by rfl):PI X (.Tuple elts k tp) (.Call (.Name "enumerate" p) [a] [] pos) (q8J K t):=by subst h;exact q9P hg hm ha hs
theorem q8o {elts:List Expr}{k:Nat}{tp:Pos}{a:Expr}{p pos:Pos}(K:W.Frag)(hg:Gl X "enumerate")(hm:X.mg "enumerate"=none)(ha:PA X [a] t)(h:X.K=K:=by rfl)(hs:starEach [a] X.env=[(false,eval a X.env)]:=by rfl):PI X (.Tuple elts k tp) (.Call (.Name "enumerate" p) [a] [] pos) (q8I K t):=by subst h;exact q9O hg hm ha hs
theorem q9k (K:W.Frag)(hc:X.calm=true)(h:X.K=K:=by rfl):q17 X (.builtin "all") (rAll K):=by subst h;exact qaD hc
theorem qE:1000000<sizeLine:=by decide
end
def q0o (H H':Hp):Prop:=∀p xs,H p=some (.tup xs)->H' p=some (.tup xs)
theorem q0o.trans {H H1 H2:Hp}(a:q0o H H1)(b:q0o H1 H2):q0o H H2:=fun p xs h=>b p xs (a p xs h)
theorem Same.ts {H H':Hp}(s:Same H H'):q0o H H':=fun p _ h=>s p _ h
theorem q0o.lst {H:Hp}{a:Addr}{ys:List V}{o:HO}(h:H a=some (.lst ys)):q0o H (upd H a o):=fun p xs e=>by rw[qw (q4V e h (by intro z;cases z))];exact e
end L2
namespace Ce
open PySem L2
def bit (x:Int)(t:Nat):Bool:=decide (x / 2 ^ t % 2=1)
def cnt (P:Nat->Bool):Nat->Nat
 |0=>0
 |n+1=>cnt P n+(if P n=true then 1 else 0)
theorem q98 {P:Nat->Bool}:∀{n:Nat},(∀i,i<n->P i=false)->cnt P n=0
 |0,_=>rfl
 |n+1,h=>by
  show cnt P n+_=0
  rw[q98 fun i hi=>h i (zbh hi),h n (zbm n)]
  rfl
theorem q0V (w:Nat):(0:Int)<2 ^ w:=Int.pow_pos (by decide)
theorem q52 (t:Nat):bit 0 t=false:=by simp[bit]
theorem q9q {x:Int}{w t:Nat}(h0:0<=x)(h:x<2 ^ w)(ht:w<=t):bit x t=false:=by
 have h2:(2:Int) ^ w<=2 ^ t:=by
  have:(2:Int) ^ t=2 ^ w*2 ^ (t - w):=by rw[<-Int.pow_add];congr 1;omega
  rw[this]
  have:=q0V (t - w)
  have h3:=q0V w
  calc (2:Int) ^ w=2 ^ w*1:=by omega
   _<=2 ^ w*2 ^ (t - w):=Int.mul_le_mul_of_nonneg_left (by omega) (by omega)
 have:x / 2 ^ t=0:=Int.ediv_eq_zero_of_lt h0 (by omega)
 simp[bit,this]
theorem q7Q {x:Int}{w t:Nat}(ht:t<w):bit (x+2 ^ w) t=bit x t:=by
 have e:(2:Int) ^ w=2 ^ (w - t - 1)*2*2 ^ t:=by
  rw[Int.mul_assoc,<-Int.pow_succ',<-Int.pow_add];congr 1;omega
 have e2:(x+2 ^ w) / 2 ^ t=x / 2 ^ t+2 ^ (w - t - 1)*2:=by
  rw[e,Int.add_mul_ediv_right _ _ (by have:=q0V t;omega)]
 unfold bit
 rw[e2]
 congr 1
 simp only[eq_iff_iff]
 omega
theorem q7R {x:Int}{w:Nat}(h0:0<=x)(h:x<2 ^ w):bit (x+2 ^ w) w=true:=by
 have e2:(x+2 ^ w) / 2 ^ w=x / 2 ^ w+1:=by
  have:=Int.add_mul_ediv_right x 1 (c:=2 ^ w) (by have:=q0V w;omega)
  rw[zaF] at this
  exact this
 have:x / 2 ^ w=0:=Int.ediv_eq_zero_of_lt h0 h
 unfold bit
 rw[e2,this]
 decide
theorem set_map {α:Type}(f:Nat->α)(n j:Nat)(v:α):((List.range n).map f).set j v=(List.range n).map fun k=>if k=j then v else f k:=by
 apply zbi
 intro i
 rw[List.getElem?_set]
 simp only[List.getElem?_map,yC,List.length_range]
 by_cases h:j=i
 ·subst h
  by_cases hj:j<n
  ·simp [hj]
  ·simp [hj]
 ·have h':¬i=j:=fun e=>h e.symm
  by_cases hi:i<n
  ·simp [h,h',hi]
  ·simp [h,hi]
def dP (ds:Nat->Option Int)(op k:Int)(w:Nat):Bool:=decide (ds w=some k)&&bit op w
theorem qcp (ds:Nat->Option Int)(k:Int)(w:Nat):dP ds 0 k w=false:=by simp[dP,q52]
theorem q9M {x:Int}{i:Nat}(h0:0<=x)(h:x<2 ^ i):0<=x+2 ^ i/\x+2 ^ i<2 ^ (i+1):=by
 have:=q0V i
 rw[Int.pow_succ]
 omega
theorem pow_up {x:Int}{i:Nat}(h:x<2 ^ i):x<2 ^ (i+1):=by
 have:=q0V i
 rw[Int.pow_succ]
 omega
theorem qQ (x:Int){n:Int}(h:0<n):0<=x % n:=Int.emod_nonneg _ (by omega)
theorem qW (x:Int){n:Int}(h:0<n):x % n<n:=Int.emod_lt_of_pos _ h
theorem q2x (x:Int)(t:Nat):decide (Builtin.bitAnd (x / 2 ^ t) 1=1)=bit x t:=by
 unfold bit
 rw[PyProof.Rows.bitAnd_m1]
inductive Gt where
 |plain|door (k:Int)|need (k:Int)|bar (b:Int)|wade (h k:Int)|float (h:Int)
def Gt.vs:Gt->List V
 | .plain=>[.str "plain"]
 | .door k=>[.str "door",.int k]
 | .need k=>[.str "need",.int k]
 | .bar b=>[.str "bar",.int b]
 | .wade h k=>[.str "wade",.int h,.int k]
 | .float h=>[.str "float",.int h]
def Gt.ok:Gt->Prop
 | .plain=>True
 | .door k=>0<=k/\k<12
 | .need k=>0<=k/\k<12
 | .bar b=>0<=b/\b<8
 | .wade h k=>(0<=h/\h<10)/\0<=k/\k<12
 | .float h=>0<=h/\h<10
def Gt.dk:Gt->Option Int
 | .door k=>some k
 |_=>none
def Gt.word:Gt->Str
 | .plain=>"plain"
 | .door _=>"door"
 | .need _=>"need"
 | .bar _=>"bar"
 | .wade _ _=>"wade"
 | .float _=>"float"
def Gt.ns:Gt->List Int
 | .plain=>[]
 | .door k=>[k]
 | .need k=>[k]
 | .bar b=>[b]
 | .wade h k=>[h,k]
 | .float h=>[h]
theorem Gt.vs_eq (g:Gt):g.vs= .str g.word::g.ns.map V.int:=by cases g<;>rfl
theorem Gt.flat (g:Gt):g.vs.all q3i=true:=by cases g<;>rfl
theorem q6O:("need":Str)≠"door":=by walk_at "k"
theorem q82:("bar":Str)≠"door":=by walk_at "k"
theorem q5o:("float":Str)≠"door":=by walk_at "k"
theorem q81:("plain":Str)≠"door":=by walk_at "k"
theorem q9A:("wade":Str)≠"door":=by walk_at "k"
theorem q58 (g:Gt):decide (g.word="door")=g.dk.isSome:=by
 cases g with
 |plain=>exact zf q81
 |door k=>exact ze rfl
 |need k=>exact zf q6O
 |bar k=>exact zf q82
 |wade h k=>exact zf q9A
 |float k=>exact zf q5o
theorem q8X {g:Gt}(h:g.word="door"):∃k,g= .door k:=by
 have:=q58 g
 rw[h] at this
 cases g with
 |door k=>exact⟨k,rfl⟩
 |_=>simp[Gt.dk] at this
theorem q8U {a b:Str}(h:a≠b):eqV (.str a) (.str b)=false:=by
 simp[eqV,h]
theorem qch (g:Gt)(k:Int):eqVs g.vs [.str "door",.int k]=decide (g.dk=some k):=by
 cases g with
 |plain=>simp[eqVs,Gt.vs,Gt.dk]
 |door j=>
  simp[eqVs,Gt.vs,Gt.dk,eqV]
  rw[Bool.beq_eq_decide_eq]
 |need j=>simp[eqVs,Gt.vs,Gt.dk,q8U q6O]
 |bar j=>simp[eqVs,Gt.vs,Gt.dk,q8U q82]
 |wade h j=>simp[eqVs,Gt.vs,Gt.dk]
 |float j=>simp[eqVs,Gt.vs,Gt.dk,q8U q5o]
structure Way where
 a:Int
 b:Int
 g:Gt
 back:Bool
structure Cl where
 rooms:Int
 fst:Int
 lst:Int
 ways:List Way
 things:List (Int×Int)
 levers:List (Int×Int)
 wheels:List (Int×Int)
 bars:Int
 water:Int
structure ClOk (C:Cl):Prop where
 r1:1<=C.rooms
 r2:C.rooms<=14
 f:0<=C.fst/\C.fst<C.rooms
 l:0<=C.lst/\C.lst<C.rooms
 wl:C.ways.length<=20
 tl:C.things.length<=8
 ll:C.levers.length<=4
 vl:C.wheels.length<=4
 w:∀x∈C.ways,(0<=x.a/\x.a<C.rooms)/\(0<=x.b/\x.b<C.rooms)/\x.a≠x.b/\x.g.ok
 t:∀x∈C.things,(0<=x.1/\x.1<C.rooms)/\0<=x.2/\x.2<12
 lv:∀x∈C.levers,(0<=x.1/\x.1<C.rooms)/\1<=x.2/\x.2<=255
 wh:∀x∈C.wheels,(0<=x.1/\x.1<C.rooms)/\0<=x.2/\x.2<=9
 b:0<=C.bars/\C.bars<=255
 wa:0<=C.water/\C.water<=9
def q04 (H:Hp)(p:Addr)(x:Int×Int):Prop:=H p=some (.tup [.int x.1,.int x.2])
def q2m (H:Hp)(p:Addr)(x:Way):Prop:=∃g,H p=some (.tup [.int x.a,.int x.b,.ref g,.bl x.back])/\H g=some (.tup x.g.vs)
def Rows {α:Type}(At:Hp->Addr->α->Prop)(H:Hp)(ps:List Addr)(xs:List α):Prop:=ps.length=xs.length/\∀(i:Nat) (p:Addr) (x:α),ps[i]? =some p->xs[i]? =some x->At H p x
def q56 {α:Type}(At:Hp->Addr->α->Prop)(H:Hp)(q:Addr)(xs:List α):Prop:=∃ps,H q=some (.tup (ps.map V.ref))/\Rows At H ps xs
def qI {α:Type}(At:Hp->Addr->α->Prop)(H:Hp)(q:Addr)(xs:List α):Prop:=∃ps,H q=some (.lst (ps.map V.ref))/\Rows At H ps xs
section
variable {α:Type}{At:Hp->Addr->α->Prop}{H H':Hp}{ps:List Addr}{xs:List α}{p q:Addr}{x:α}
theorem q04.mono (s:q0o H H'){p:Addr}{x:Int×Int}(h:q04 H p x):q04 H' p x:=s _ _ h
theorem q2m.mono (s:q0o H H'){p:Addr}{x:Way}(h:q2m H p x):q2m H' p x:=let ⟨g,h1,h2⟩:=h;⟨g,s _ _ h1,s _ _ h2⟩
theorem Rows.mono (m:∀p x,At H p x->At H' p x)(h:Rows At H ps xs):Rows At H' ps xs:=⟨h.1,fun i p x h1 h2=>m p x (h.2 i p x h1 h2)⟩
theorem Rows.nil:Rows At H [] []:=⟨rfl,fun i p x h _=>by simp at h⟩
theorem Rows.snoc (h:Rows At H ps xs)(hx:At H p x):Rows At H (ps++[p]) (xs++[x]):=by
 refine⟨by simp[h.1],fun i q y h1 h2=>?_⟩
 by_cases hi:i<ps.length
 ·rw [zI hi] at h1
  rw[zI (by rw[<-h.1];exact hi)] at h2
  exact h.2 i q y h1 h2
 ·have e:i=ps.length:=by
   have:=(yA h1).1
   simp at this
   omega
  subst e
  rw[zF (zc _)] at h1
  rw[zF (by rw[h.1];exact zc _),<-h.1] at h2
  simp at h1 h2
  rw[<-h1,<-h2]
  exact hx
theorem Rows.get (h:Rows At H ps xs){i:Nat}(hi:i<xs.length):∃p,(ps.map V.ref)[i]? =some (.ref p)/\At H p xs[i]:=by
 have hp:i<ps.length:=by rw[h.1];exact hi
 exact⟨ps[i],by simp[hp],h.2 i _ _ (by simp[hp]) (by simp[hi])⟩
theorem q56.mono (s:q0o H H')(m:∀p x,At H p x->At H' p x)(h:q56 At H q xs):q56 At H' q xs:=let ⟨ps,h1,h2⟩:=h;⟨ps,s _ _ h1,h2.mono m⟩
theorem q56.get (h:q56 At H q xs):∃vs,H q=some (.tup vs)/\vs.length=xs.length/\∀i (hi:i<xs.length),∃p,vs[i]? =some (.ref p)/\At H p xs[i]:=by
 obtain⟨ps,h1,h2⟩:=h
 exact⟨_,h1,by simp[h2.1],fun i hi=>h2.get hi⟩
end
structure ClAt (H:Hp)(c:Addr)(C:Cl):Prop where
 ex:∃w t l v,H c=some (.tup [.int C.rooms,.int C.fst,.int C.lst,.ref w,.ref t,.ref l,.ref v,.int C.bars,.int C.water])/\q56 q2m H w C.ways/\q56 q04 H t C.things/\q56 q04 H l C.levers/\q56 q04 H v C.wheels
theorem ClAt.mono {H H':Hp}(s:q0o H H'){c:Addr}{C:Cl}(h:ClAt H c C):ClAt H' c C:=by
 obtain⟨w,t,l,v,h0,h1,h2,h3,h4⟩:=h.ex
 exact⟨w,t,l,v,s _ _ h0,h1.mono s (fun _ _=>q2m.mono s),h2.mono s (fun _ _=>q04.mono s),h3.mono s (fun _ _=>q04.mono s),h4.mono s (fun _ _=>q04.mono s)⟩
def WOk (r:Int)(x:Way):Prop:=(0<=x.a/\x.a<r)/\(0<=x.b/\x.b<r)/\x.a≠x.b/\x.g.ok
def tP (C:Cl)(tk k:Int)(t:Nat):Bool:=decide ((C.things.getD t (0,0)).2=k)&&bit tk t
def dsOf (C:Cl)(w:Nat):Option Int:=(C.ways[w]?).bind fun x=>x.g.dk
def hold (C:Cl)(tk op k:Int):Int:=(cnt (tP C tk k) C.things.length:Int) - (cnt (dP (dsOf C) op k) C.ways.length:Int)
def cl (f:Int->Int):List V:=(List.range 12).map fun k:Nat=>V.int (f k)
theorem q8K (C:Cl)(k:Int):hold C 0 0 k=0:=by
 unfold hold
 rw[q98 fun i _=>by simp[tP,q52],q98 fun i _=>qcp _ _ _]
 rfl
theorem cl_len (f:Int->Int):(cl f).length=12:=by simp[cl]
theorem q9c {f:Int->Int}{k:Int}(h0:0<=k)(h1:k<12):atI (cl f) k=some (.int (f k)):=by
 obtain⟨j,rfl⟩:∃j:Nat,k=(j:Int):=⟨k.toNat,by omega⟩
 exact q0H (by simp[cl,show j<12 by omega])
theorem cl_ix {f:Int->Int}{k:Int}(h0:0<=k)(h1:k<12):ixN (cl f).length k=some k.toNat:=by
 rw[cl_len]
 unfold ixN
 rw[zj h0,zj (by omega)]
theorem qb5 {f:Int->Int}{k v:Int}(h0:0<=k)(h1:k<12):(cl f).set k.toNat (.int v)=cl fun j=>if j=k then v else f j:=by
 unfold cl
 rw[set_map]
 refine zaj fun j _=>?_
 by_cases e:(j:Int)=k
 ·rw [zj (by omega)]
  show _=V.int (if (j:Int)=k then v else f j)
  rw[zj e]
 ·rw [zd (by omega)]
  show _=V.int (if (j:Int)=k then v else f j)
  rw[zd e]
theorem q37 {f g:Int->Int}(h:∀k,0<=k->k<12->f k=g k):cl f=cl g:=by
 unfold cl
 refine zaj fun j hj=>?_
 rw[zbA] at hj
 rw[h j (by omega) (by omega)]
theorem cl_map (f:Int->Int):cl f=((List.range 12).map fun k:Nat=>f k).map V.int:=by simp[cl]
structure StOk (C:Cl)(rm tk op b wt:Int):Prop where
 hrm:0<=rm/\rm<C.rooms
 htk:0<=tk/\tk<2 ^ C.things.length
 hop:0<=op/\op<2 ^ C.ways.length
 dr:∀i,i<C.ways.length->bit op i=true->(dsOf C i).isSome=true
 hb:0<=b/\b<=255
 hwt:0<=wt/\wt<=9
 held:∀k,0<=k->k<12->0<=hold C tk op k
end Ce
namespace L2
open PySem PySem.Spec PyProof.Rows
def rMinL (K:W.Frag):List V->Hp->VK->Prop:=fun xs H Q=>∃(p:Addr) (ns:List Int),xs=[.ref p]/\SqL K H p (ns.map V.int)/\0<ns.length/\∀M,M∈ns->(∀a,a∈ns->M<=a)->Q (.int M) H
def rSumL (K:W.Frag):List V->Hp->VK->Prop:=fun xs H Q=>∃(p:Addr) (ns:List Int),xs=[.ref p]/\SqL K H p (ns.map V.int)/\Q (.int ns.sum) H
section
variable {X:Cx}
theorem minLK (K:W.Frag)(hc:X.calm=true)(hK:X.K=K:=by rfl):q17 X (.builtin "min") (rMinL K):=by
 subst hK
 intro pins s σ H xs us Q I r h
 obtain⟨p,ns,rfl,hq,hne,q⟩:=h
 obtain⟨u,rfl,rx⟩:=q2K r
 cases rx
 obtain⟨its,rv,pl,hz⟩:=I.list hq
 have hi:=q2t rv
 have hl:=pl.isList
 obtain⟨ys,e⟩:=hi.allInts.items
 have hns:ns=ys.toList.map (·.1):=by rw[<-hi.numsOf,<-nums_intItems,<-e]
 have hsz:0<ys.size:=by
  have h3:=hne
  rw[hns,yC,zE] at h3
  exact h3
 rw[e] at hl
 refine min_intList (I.ok.hd hc) hl hsz fun v h' tk hv hk=>?_
 obtain⟨t,rfl⟩:=intItems_at hv
 obtain⟨h1,h2⟩:=argBest_lt (numAt ys) (ys.size - 1)
 refine⟨.int _,H,I.kept (t':=tk) hk,⟨_,rfl⟩,q _ ?_ fun a ha=>?_⟩
 ·rw [hns,numAt_eq]
  exact getD_mem (by rw[yC,zE];omega)
 ·rw [hns] at ha
  obtain⟨j,hj,rfl⟩:=mem_getD ha
  rw[yC,zE] at hj
  rw[<-numAt_eq]
  exact h2 j (by omega)
theorem sumLK (K:W.Frag)(hc:X.calm=true)(hK:X.K=K:=by rfl):q17 X (.builtin "sum") (rSumL K):=by
 subst hK
 intro pins s σ H xs us Q I r h
 obtain⟨p,ns,rfl,hq,q⟩:=h
 obtain⟨u,rfl,rx⟩:=q2K r
 cases rx
 obtain⟨its,rv,pl,hz⟩:=I.list hq
 have hi:=q2t rv
 have hl:=pl.isList
 obtain⟨ys,e⟩:=hi.allInts.items
 have hns:ns=ys.toList.map (·.1):=by rw[<-hi.numsOf,<-nums_intItems,<-e]
 rw[e] at hl
 refine sum_intListG (I.ok.hd hc) hl fun h' tk t' hk=>⟨.int ns.sum,H,I.kept (t':=tk) hk,⟨t',?_⟩,q⟩
 rw[preSum_eq,zaQ (by simp),hns]
end
section
variable {H:Hp}{Q:VK}{K:W.Frag}{σ:St}
theorem qbu {r r':R2}{ta tb tc:TE}(q:ta σ H fun x H1=>tb σ H1 fun y H2=>r x y H2 fun z H3=>∃k,z= .bl k/\(if k=true then tc σ H3 fun w' H4=>r' y w' H4 Q else Q (.bl false) H3)):qaN r r' ta tb tc σ H Q:=q
theorem r_minL {p:Addr}{ns:List Int}(h:SqL K H p (ns.map V.int))(hn:0<ns.length)(q:∀M,M∈ns->(∀a,a∈ns->M<=a)->Q (.int M) H):rMinL K [.ref p] H Q:=⟨p,ns,rfl,h,hn,q⟩
theorem r_sumL {p:Addr}{ns:List Int}(h:SqL K H p (ns.map V.int))(q:Q (.int ns.sum) H):rSumL K [.ref p] H Q:=⟨p,ns,rfl,h,q⟩
end
structure LaidM (K:W.Frag)(C:Addr)(m qual:Str)(st:Stmt)(ps:List Str):Prop where
 ex:∃f fd,Fun K m qual st f fd/\Meth K C m f/\q2y K fd ps []
structure LaidI (K:W.Frag)(mg:Str->Option Value)(x:Str)(C:Addr)(qual:Str)(st:Stmt)(ps:List Str):Prop where
 ex:∃f fd,Fun K "__init__" qual st f fd/\Mk K C f/\q2y K fd ps []
 at_:mg x=some (.ref C)
structure LaidC (K:W.Frag)(mg:Str->Option Value)(x m qual:Str)(st:Stmt)(ps:List Str):Prop where
 ex:∃C f fd,mg x=some (.ref C)/\Fun K m qual st f fd/\CMeth K C m f/\q2y K fd ps []
section
variable {P:Program}{w:World}{K:W.Frag}{mg:Str->Option Value}{base:Heap}
theorem LaidM.vm {C:Addr}{m qual:Str}{st:Stmt}{N ps:List Str}{k:Nat}{sp:Sp}(L:LaidM K C m qual st ps)(cl:Cls K C)(S:FnScope N ps (qh st))(len:∀vs H Q E,sp vs H Q E->vs.length=ps.length)
  (hbody:∀(f:Addr) (cdv:Value) (A:Around) (outer:List Env) (s:Shared) (H:Hp) (vs:List V) (Q:VK) (E:XK),Room k (A.deeper (envOfC qual (qh st) s.heap.objs.size f cdv))->sp vs H Q E->
   ∃t,PSs (cxOf CX0 P w K mg base N qual (qh st) f cdv A outer s H E).nox (q0k st) t/\t {nx:=fun _ H'=>Q .non H',rt:=Q} (start N vs) H):VMeth P w K mg base (k+1) C m ps sp:=by
 obtain⟨f,fd,F,hm,b⟩:=L.ex
 exact⟨cl,f,fd,hm,F.ok S len (fun cdv A outer s H vs Q E hr h=>hbody f cdv A outer s H vs Q E hr h),b⟩
theorem LaidI.makes {x:Str}{C:Addr}{qual:Str}{st:Stmt}{N ps:List Str}{k:Nat}{sp:Sp}(L:LaidI K mg x C qual st ps)(S:FnScope N ps (qh st))(len:∀vs H Q E,sp vs H Q E->vs.length=ps.length)
  (hbody:∀(f:Addr) (cdv:Value) (A:Around) (outer:List Env) (s:Shared) (H:Hp) (vs:List V) (Q:VK) (E:XK),Room k (A.deeper (envOfC qual (qh st) s.heap.objs.size f cdv))->sp vs H Q E->
   ∃t,PSs (cxOf CX0 P w K mg base N qual (qh st) f cdv A outer s H E).nox (q0k st) t/\t {nx:=fun _ H'=>Q .non H',rt:=Q} (start N vs) H):Makes P w K mg base (k+1) x C ps sp:=by
 obtain⟨f,fd,F,M,b⟩:=L.ex
 exact⟨⟨f,fd,M,F.ok S len (fun cdv A outer s H vs Q E hr h=>hbody f cdv A outer s H vs Q E hr h),b⟩,L.at_⟩
theorem LaidC.cc {x m qual:Str}{st:Stmt}{N ps:List Str}{k:Nat}{sp:Sp}(L:LaidC K mg x m qual st ps)(S:FnScope N ps (qh st))(len:∀vs H Q E,sp vs H Q E->vs.length=ps.length)
  (hbody:∀(f:Addr) (cdv:Value) (A:Around) (outer:List Env) (s:Shared) (H:Hp) (vs:List V) (Q:VK) (E:XK),Room k (A.deeper (envOfC qual (qh st) s.heap.objs.size f cdv))->sp vs H Q E->
   ∃t,PSs (cxOf CX0 P w K mg base N qual (qh st) f cdv A outer s H E).nox (q0k st) t/\t {nx:=fun _ H'=>Q .non H',rt:=Q} (start N vs) H):CCal P w K mg base (k+1) x m ps sp:=by
 obtain⟨C,f,fd,hm,F,cm,b⟩:=L.ex
 exact⟨C,f,fd,hm,cm,F.ok S len (fun cdv A outer s H vs Q E hr h=>hbody f cdv A outer s H vs Q E hr h),b⟩
end
def rFld (K:W.Frag)(f:Str)(x:V)(H:Hp)(Q:VK):Prop:=∃a C dx fs v,x= .ref a/\H a=some (.ins C dx fs)/\Cls K C/\qG K C f/\fs.lookup f=some v/\Q v H
def rSetF (K:W.Frag)(f:Str)(x y:V)(H:Hp)(R:Hp->Prop):Prop:=∃a C dx fs,x= .ref a/\H a=some (.ins C dx fs)/\Cls K C/\qG K C f/\fs.length<1000/\R (upd H a (.ins C dx (putF f y fs)))
def rVM (P:Program)(w:World)(K:W.Frag)(mg:Str->Option Value)(base:Heap)(k:Nat)(m:Str)(σ:St)(t:TA)(x:V)(H:Hp)(Q:VK):Prop:=∃a C dx fs ps sp,x= .ref a/\H a=some (.ins C dx fs)/\VMeth P w K mg base k C m ps sp/\fs.lookup m=none/\t σ H fun vs H2=>sp (x::vs) H2 Q E0
section
variable {σ:St}{H:Hp}{Q:VK}{K:W.Frag}{ta tv:TE}{t:TA}{f m:Str}{nx bk ct:St->Hp->Prop}{rt:VK}{P:Program}{w:World}{mg:Str->Option Value}{base:Heap}{k:Nat}
theorem r_fld0 (q:ta σ H fun x H1=>rFld K f x H1 Q):tFld K ta f σ H Q:=q
theorem qbq (q:tv σ H fun y H1=>ta σ H1 fun x H2=>rSetF K f x y H2 fun H3=>nx σ H3):sFld K ta tv f ⟨nx,rt,bk,ct⟩ σ H:=q
theorem r_vm0 (q:ta σ H fun x H1=>rVM P w K mg base k m σ t x H1 Q):tVM P w K mg base k m ta t σ H Q:=q
theorem q1B {a C dx:Addr}{fs:List (Str×V)}{v:V}(h:H a=some (.ins C dx fs))(c:Cls K C)(n:qG K C f)(l:fs.lookup f=some v)(q:Q v H):rFld K f (.ref a) H Q:=⟨a,C,dx,fs,v,rfl,h,c,n,l,q⟩
theorem q2A {a C dx:Addr}{fs:List (Str×V)}{y:V}{R:Hp->Prop}(h:H a=some (.ins C dx fs))(c:Cls K C)(n:qG K C f)(l:fs.length<1000)(q:R (upd H a (.ins C dx (putF f y fs)))):rSetF K f (.ref a) y H R:=⟨a,C,dx,fs,rfl,h,c,n,l,q⟩
theorem r_vm {a C dx:Addr}{fs:List (Str×V)}{ps:List Str}{sp:Sp}(h:H a=some (.ins C dx fs))(v:VMeth P w K mg base k C m ps sp)(l:fs.lookup m=none)(q:t σ H fun vs H2=>sp (.ref a::vs) H2 Q E0):rVM P w K mg base k m σ t (.ref a) H Q:=⟨a,C,dx,fs,ps,sp,rfl,h,v,l,q⟩
theorem r_make {C:Addr}{sp:Sp}{E:XK}(q:t σ H fun vs H1=>∀x dx,H1 x=none->H1 dx=none->dx≠x->sp (.ref x::(vs++[])) (upd (upd H1 dx (.own x)) x (.ins C dx [])) (fun v H2=>v= .non/\Q (.ref x) H2) E):q7Z C sp [] E t σ H Q:=q
end
section
variable {X:Cx}
theorem q1y {o value:Expr}{ta tv:TE}{f:Str}{pos pos':Pos}(K:W.Frag)(ha:PE X o ta)(hv:PE X value tv)(hs:swapsWith value (some (.Attribute o f pos')) pos.line X.env=pure false)(hK:X.K=K:=by rfl):PS X (.Assign [.Attribute o f pos'] value pos) (sFld K ta tv f):=by subst hK;exact ps_fld ha hv hs
end
inductive Deq (K:W.Frag)(H:Hp):Nat->V->V->Bool->Prop where
 |flat {n:Nat} {x y:V} (fx:q3i x=true) (fy:q3i y=true):Deq K H n x y (eqV x y)
 |same {n:Nat} (a:Addr):Deq K H n (.ref a) (.ref a) true
 | tup {n:Nat} {a b:Addr} {xs ys:List V} {e:Nat->Bool} (hne:a≠b) (ha:SqT K H a xs) (hb:SqT K H b ys) (h:∀j,j<xs.length->j<ys.length->Deq K H n (xs.getD j .non) (ys.getD j .non) (e j)):
   Deq K H (n+1) (.ref a) (.ref b) ((List.range (min xs.length ys.length)).all e&&xs.length==ys.length)
 | lst {n:Nat} {a b:Addr} {xs ys:List V} {e:Nat->Bool} (hne:a≠b) (ha:SqL K H a xs) (hb:SqL K H b ys) (hl:xs.length=ys.length) (h:∀j,j<xs.length->j<ys.length->Deq K H n (xs.getD j .non) (ys.getD j .non) (e j)):
   Deq K H (n+1) (.ref a) (.ref b) ((List.range xs.length).all e)
 |lstn {n:Nat} {a b:Addr} {xs ys:List V} (hne:a≠b) (ha:SqL K H a xs) (hb:SqL K H b ys) (hl:xs.length≠ys.length):Deq K H (n+1) (.ref a) (.ref b) false
section
variable {X:Cx}{pins:List (Addr×Obj)}{σ:St}{H:Hp}{s:Shared}
theorem q7a (I:Inv X pins σ H s){n:Nat}{x y:V}{b:Bool}(d:Deq X.K H n x y b):∀{A:Around} {u v:Value},A.units+n<cLine->RelV x u->RelV y v->SeqAt.EqAt A s u v b:=by
 induction d with
 |flat fx fy=>intro A u v _ rx ry;exact q8V rx ry fx fy
 |same a=>intro A u v _ rx ry;cases rx;cases ry;exact SeqAt.EqAt.same _
 | @tup n a b xs ys e hne ha hb h ih=>
  intro A u v hu rx ry
  cases rx
  cases ry
  obtain⟨ia,ra,pa,_⟩:=I.tuple ha
  obtain⟨ib,rb,pb,_⟩:=I.tuple hb
  have la:=ra.length
  have lb:=rb.length
  refine zcc hne ?_
  have q:=SeqAt.RcAt.tuples (A:=A) (e:=e) (show s.heap.IsTuple a ia.toArray from pa) (show s.heap.IsTuple b ib.toArray from pb) (by omega) (fun j h1 h2=>ih j (by simpa[la] using h1) (by simpa[lb] using h2) (by show A.units+1+n<cLine;omega) (q0K ra h1) (q0K rb h2))
  simpa[la,lb] using q
 | @lst n a b xs ys e hne ha hb hl h ih=>
  intro A u v hu rx ry
  cases rx
  cases ry
  obtain⟨ia,ra,pa,_⟩:=I.list ha
  obtain⟨ib,rb,pb,_⟩:=I.list hb
  have la:=ra.length
  have lb:=rb.length
  refine zcc hne ?_
  have q:=SeqAt.RcAt.lists (A:=A) (e:=e) pa.isList pb.isList (by simp;omega) (by omega) (fun j h1 h2=>ih j (by simpa[la] using h1) (by simpa[lb] using h2) (by show A.units+1+n<cLine;omega) (q0K ra h1) (q0K rb h2))
  simpa[la] using q
 | @lstn n a b xs ys hne ha hb hl=>
  intro A u v hu rx ry
  cases rx
  cases ry
  obtain⟨ia,ra,pa,_⟩:=I.list ha
  obtain⟨ib,rb,pb,_⟩:=I.list hb
  have la:=ra.length
  have lb:=rb.length
  exact zcc hne (SeqAt.RcAt.lists_lengths pa.isList pb.isList (by simp;omega) (by omega))
end
def rEqD (K:W.Frag)(n:Nat):R2:=fun x y H Q=>
 (∃p q xs ys e,x= .ref p/\y= .ref q/\SqT K H p xs/\SqT K H q ys/\(∀j,j<xs.length->j<ys.length->Deq K H n (xs.getD j .non) (ys.getD j .non) (e j))/\Q (.bl ((List.range (min xs.length ys.length)).all e&&xs.length==ys.length)) H)\/
 (∃p q xs ys e,x= .ref p/\y= .ref q/\SqL K H p xs/\SqL K H q ys/\xs.length=ys.length/\(∀j,j<xs.length->j<ys.length->Deq K H n (xs.getD j .non) (ys.getD j .non) (e j))/\Q (.bl ((List.range xs.length).all e)) H)\/
 (∃p q xs ys,x= .ref p/\y= .ref q/\SqL K H p xs/\SqL K H q ys/\xs.length≠ys.length/\Q (.bl false) H)
def rNeD (K:W.Frag)(n:Nat):R2:=fun x y H Q=>
 (∃p q xs ys e,x= .ref p/\y= .ref q/\SqL K H p xs/\SqL K H q ys/\xs.length=ys.length/\(∀j,j<xs.length->j<ys.length->Deq K H n (xs.getD j .non) (ys.getD j .non) (e j))/\Q (.bl (!(List.range xs.length).all e)) H)\/
 (∃p q xs ys,x= .ref p/\y= .ref q/\SqL K H p xs/\SqL K H q ys/\xs.length≠ys.length/\Q (.bl true) H)
section
variable {X:Cx}
theorem q72 (K:W.Frag)(n:Nat)(hu:X.A.units+n+1<cLine)(hK:X.K=K:=by rfl):OpR X (compareOp .Eq) (rEqD K n):=by
 subst hK
 intro pins s σ H x y v u Q I rx ry h
 rcases h with⟨p,q,xs,ys,e,rfl,rfl,hp,hq,hd,k⟩|⟨p,q,xs,ys,e,rfl,rfl,hp,hq,hl,hd,k⟩|⟨p,q,xs,ys,rfl,rfl,hp,hq,hl,k⟩
 ·cases rx
  cases ry
  obtain⟨ia,ra,pa,_⟩:=I.tuple hp
  obtain⟨ib,rb,pb,_⟩:=I.tuple hq
  have la:=ra.length
  have lb:=rb.length
  refine SeqAt.eq_tupleAt (e:=e) (show s.heap.IsTuple p ia.toArray from pa) (show s.heap.IsTuple q ib.toArray from pb) (by omega) (fun j h1 h2=>q7a I (hd j (by simpa[la] using h1) (by simpa[lb] using h2)) (by show X.A.units+1+n<cLine;omega) (q0K ra h1) (q0K rb h2)) ⟨.bl _,H,I,?_,k⟩
  show Value.bool _=Value.bool _
  simp[la,lb]
 ·cases rx
  cases ry
  obtain⟨ia,ra,pa,_⟩:=I.list hp
  obtain⟨ib,rb,pb,_⟩:=I.list hq
  have la:=ra.length
  have lb:=rb.length
  refine SeqAt.eq_listAt (e:=e) pa.isList pb.isList (by simp;omega) (by omega) (fun j h1 h2=>q7a I (hd j (by simpa[la] using h1) (by simpa[lb] using h2)) (by show X.A.units+1+n<cLine;omega) (q0K ra h1) (q0K rb h2)) ⟨.bl _,H,I,?_,k⟩
  show Value.bool _=Value.bool _
  simp[la]
 ·cases rx
  cases ry
  obtain⟨ia,ra,pa,_⟩:=I.list hp
  obtain⟨ib,rb,pb,_⟩:=I.list hq
  have la:=ra.length
  have lb:=rb.length
  exact SeqAt.eq_list_lengthsAt pa.isList pb.isList (by simp;omega) (by omega) ⟨.bl false,H,I,rfl,k⟩
theorem q8s (K:W.Frag)(n:Nat)(hu:X.A.units+n+1<cLine)(hK:X.K=K:=by rfl):OpR X (compareOp .NotEq) (rNeD K n):=by
 subst hK
 intro pins s σ H x y v u Q I rx ry h
 rcases h with⟨p,q,xs,ys,e,rfl,rfl,hp,hq,hl,hd,k⟩|⟨p,q,xs,ys,rfl,rfl,hp,hq,hl,k⟩
 ·cases rx
  cases ry
  obtain⟨ia,ra,pa,_⟩:=I.list hp
  obtain⟨ib,rb,pb,_⟩:=I.list hq
  have la:=ra.length
  have lb:=rb.length
  refine SeqAt.RcNeAt.lists (e:=e) pa.isList pb.isList (by simp;omega) (by omega) (fun j h1 h2=>q7a I (hd j (by simpa[la] using h1) (by simpa[lb] using h2)) (by show X.A.units+1+n<cLine;omega) (q0K ra h1) (q0K rb h2)) _ _ _ _ ⟨.bl _,H,I,?_,k⟩
  show Value.bool _=Value.bool _
  simp[la]
 ·cases rx
  cases ry
  obtain⟨ia,ra,pa,_⟩:=I.list hp
  obtain⟨ib,rb,pb,_⟩:=I.list hq
  have la:=ra.length
  have lb:=rb.length
  exact SeqAt.RcNeAt.lists_lengths pa.isList pb.isList (by simp;omega) (by omega) _ _ _ _ ⟨.bl true,H,I,rfl,k⟩
end
section
variable {X:Cx}{k k':Nat}{x:Str}{ps ks:List Str}{sp:Sp}{p pos:Pos}{e:Expr}{es:List Expr}{kws:List Keyword}{t tk:TA}{st:Stmt}{ds ds':List Value}{dvs:List V}
theorem r_bm0 {K:W.Frag}{T:String}{r:V->List V->Hp->VK->Prop}{to:TE}{σ:St}{H:Hp}{Q:VK}(q:to σ H fun x H1=>tyV K T x H1/\r x [] H1 Q):tBM0 K T r to σ H Q:=q
end
end L2
namespace HT
open PySem PyProof.Rows
section
variable {prog:Program}{w:World}{A:Around}{E:Value->Shared->Prop}{s:Shared}
theorem qaC {t b:Addr}{vs ws:List Value}{Q:Value->Shared->Prop}(ht:IsTup s.heap t vs.toArray)(hb:IsTup s.heap b ws.toArray)(hv:vs=[])(h:Q (.ref b) s):wpAny (model prog w) A (binaryOp .Add (.ref t) (.ref b)) Q E s:=by
 obtain⟨⟨cls,dd,data,sl⟩,ho,hc,n,hd⟩:=id ht
 obtain⟨⟨cls2,dd2,data2,sl2⟩,ho2,hc2,n2,hd2⟩:=id hb
 simp only at hc hd hc2 hd2
 subst hc hd hc2 hd2
 exact concat_meets ⟨_,ho,rfl⟩ ⟨_,ho2,rfl⟩ noFill_tuple_add seq_tuple_add zbG zbB (zbx _ _)
   (tuple_addW0 t b vs.toArray ws.toArray n n2 dd dd2 sl sl2 (by simp[hv])) ⟨ho,ho2,h⟩
end
end HT
namespace L2
open PySem PySem.Spec PyProof.Rows
def q5O (K:W.Frag):R2:=fun x y H Q=>∃a b xs ys,x= .ref a/\y= .ref b/\SqT K H a xs/\SqT K H b ys/\xs.length+ys.length<=sizeLine/\
 (xs=[]->Q (.ref b) H)/\(xs≠[]->ys=[]->Q (.ref a) H)/\(xs≠[]->ys≠[]->∀p,H p=none->Q (.ref p) (upd H p (.tup (xs++ys))))
section
variable {X:Cx}
theorem q1h (K:W.Frag)(hK:X.K=K:=by rfl):OpR X (binaryOp .Add) (q5O K):=by
 subst hK
 intro pins s σ H x y v u Q I rx ry h
 obtain⟨a,b,xs,ys,e1,e2,ha,hb,hz,q0,q1,q2⟩:=h
 by_cases hx:xs=[]
 ·subst e1 e2
  cases rx
  cases ry
  obtain⟨its,r1,p1,_⟩:=I.tuple ha
  obtain⟨its2,r2,p2,_⟩:=I.tuple hb
  exact HT.qaC p1 p2 (r1.nil_iff.mpr hx) ⟨.ref b,H,I,rfl,q0 hx⟩
 ·exact q8u pins s σ H x y v u Q I rx ry ⟨a,b,xs,ys,e1,e2,ha,hb,hx,hz,q1 hx,q2 hx⟩
end
section
variable {H:Hp}{Q:VK}{K:W.Frag}
theorem qbw {p q:Addr}{ys:List V}(h1:SqT K H p [])(h2:SqT K H q ys)(hz:ys.length<=sizeLine)(k:Q (.ref q) H):q5O K (.ref p) (.ref q) H Q:=
 ⟨p,q,[],ys,rfl,rfl,h1,h2,by simpa using hz,fun _=>k,fun e=>(e rfl).elim,fun e=>(e rfl).elim⟩
theorem qbv {p q:Addr}{x:V}{xs:List V}(h1:SqT K H p (x::xs))(h2:SqT K H q [])(hz:(x::xs).length<=sizeLine)(k:Q (.ref p) H):q5O K (.ref p) (.ref q) H Q:=
 ⟨p,q,x::xs,[],rfl,rfl,h1,h2,by simpa using hz,fun e=>by simp at e,fun _ _=>k,fun _ e=>(e rfl).elim⟩
theorem q2e {p q:Addr}{x y:V}{xs ys:List V}(h1:SqT K H p (x::xs))(h2:SqT K H q (y::ys))(hz:Nat.ble ((x::xs).length+(y::ys).length) sizeLine=true)(k:∀r,H r=none->Q (.ref r) (upd H r (.tup (x::xs++y::ys)))):q5O K (.ref p) (.ref q) H Q:=
 ⟨p,q,x::xs,y::ys,rfl,rfl,h1,h2,Nat.le_of_ble_eq_true hz,fun e=>by simp at e,fun _ e=>by simp at e,fun _ _=>k⟩
end
end L2
namespace Ce
open PySem L2
def dbs (ds:Nat->Option Int):Nat->Int
 |0=>0
 |n+1=>dbs ds n+(if (ds n).isSome=true then 2 ^ n else 0)
theorem q36 (ds:Nat->Option Int):∀n,0<=dbs ds n/\dbs ds n<2 ^ n
 |0=>⟨Int.le_refl 0,by show(0:Int)<2 ^ 0;decide⟩
 |n+1=>by
  have h:=q36 ds n
  show 0<=dbs ds n+_/\dbs ds n+_<_
  by_cases e:(ds n).isSome=true
  ·rw [zj e];exact q9M h.1 h.2
  ·rw [zd e,zbz];exact⟨h.1,pow_up h.2⟩
theorem q6C (ds:Nat->Option Int):∀n w,w<n->bit (dbs ds n) w=(ds w).isSome
 |0,w,h=>by omega
 |n+1,w,h=>by
  have hr:=q36 ds n
  show bit (dbs ds n+_) w=_
  by_cases hw:w<n
  ·have ih:=q6C ds n w hw
   by_cases e:(ds n).isSome=true
   ·rw [zj e,q7Q hw];exact ih
   ·rw [zd e,zbz];exact ih
  ·have hwn:w=n:=by omega
   subst hwn
   by_cases e:(ds w).isSome=true
   ·rw [zj e,q7R hr.1 hr.2,e]
   ·rw [zd e,zbz,q9q hr.1 hr.2 (zc _)]
    simpa using e
theorem q1i {x:Int}(h:0<=x)(t:Nat):bit x t=x.toNat.testBit t:=by
 unfold bit
 rw[Nat.testBit_eq_decide_div_mod_eq]
 obtain⟨n,rfl⟩:∃n:Nat,x=(n:Int):=⟨x.toNat,by omega⟩
 rw[zh]
 congr 1
 have e:((n:Int) / 2 ^ t % 2=1)=((((n / 2 ^ t % 2:Nat):Int))=((1:Nat):Int)):=by
  rw[Int.natCast_emod,Int.natCast_ediv,zbT]
  rfl
 rw[e,Int.natCast_inj]
theorem q9r {x y:Int}(hx:0<=x)(hy:0<=y):Builtin.bitAnd x y=x↔∀t,bit x t=true->bit y t=true:=by
 rw[PyProof.Rows.bitAnd_pp hx hy]
 have e:((x.toNat &&& y.toNat:Nat):Int)=x↔x.toNat &&& y.toNat=x.toNat:=by omega
 rw[e]
 constructor
 ·intro h t ht
  rw[q1i hx] at ht
  rw[q1i hy]
  have:=zM (fun n=>n.testBit t) h
  simp only[Nat.testBit_and,ht,Bool.true_and] at this
  exact this
 ·intro h
  apply Nat.eq_of_testBit_eq
  intro t
  rw[Nat.testBit_and]
  cases ht:x.toNat.testBit t with
  |false=>rfl
  |true=>
   have:=h t (by rw[q1i hx];exact ht)
   rw[q1i hy] at this
   rw[this];rfl
def hasB (x y:Int):Bool:=(decide (0<=x)&&decide (x<=y))&&decide (Builtin.bitOr x y=y)
theorem q9U {x y:Int}:(Builtin.bitOr x y=y)↔Builtin.bitAnd x y=x:=by
 rw[PyProof.Rows.bitOr_and]
 omega
theorem qaq {x:Int}{n:Nat}:hasB x (2 ^ n - 1)=decide (0<=x/\x<2 ^ n):=by
 unfold hasB
 by_cases h:0<=x/\x<2 ^ n
 ·have e:Builtin.bitOr x (2 ^ n - 1)=2 ^ n - 1:=by
   rw[q9U,PySem.W.kbt_mask,zcl h.1 h.2]
  rw[ze e,ze h,ze h.1,ze (by omega:x<=2 ^ n - 1)]
  rfl
 ·rw [zf h]
  by_cases h0:0<=x
  ·rw [zf (p:=x<=2 ^ n - 1) (fun z=>h ⟨h0,by omega⟩)]
   simp
  ·rw [zf h0]
   simp
def drs (ds:Nat->Option Int)(m:Nat)(op:Int):Bool:=(List.range m).all fun w=> !bit op w||(ds w).isSome
theorem q4B {ds:Nat->Option Int}{op:Int}{m:Nat}:hasB op (dbs ds m)=(decide (0<=op/\op<2 ^ m)&&drs ds m op):=by
 have hr:=q36 ds m
 rw[zY]
 unfold hasB drs
 simp only[Bool.and_eq_true,decide_eq_true_eq,List.all_eq_true,List.mem_range,Bool.or_eq_true,Bool.not_eq_true']
 constructor
 ·rintro ⟨⟨h0,h1⟩,h2⟩
  rw[q9U,q9r h0 hr.1] at h2
  refine⟨⟨h0,by omega⟩,fun w hw=>?_⟩
  cases hb:bit op w with
  |false=>exact .inl rfl
  |true=>
   have:=h2 w hb
   rw[q6C ds m w hw] at this
   exact .inr this
 ·rintro ⟨⟨h0,h1⟩,h2⟩
  have hs:Builtin.bitAnd op (dbs ds m)=op:=by
   rw[q9r h0 hr.1]
   intro t ht
   by_cases htm:t<m
   ·rw [q6C ds m t htm]
    rcases h2 t htm with z|z
    ·rw [z] at ht;cases ht
    ·exact z
   ·rw [q9q h0 h1 (by omega)] at ht
    cases ht
  refine⟨⟨h0,?_⟩,q9U.mpr hs⟩
  have:=(zco op hr.1).2
  omega
def q2l (C:Cl)(tk op:Int):Bool:=(List.range 12).all fun k:Nat=>decide (0<=hold C tk op k)
theorem qc3 {ns:List Int}{M:Int}(h1:M∈ns)(h2:∀a,a∈ns->M<=a):decide (0<=M)=ns.all fun a=>decide (0<=a):=by
 rw[zY]
 simp only[decide_eq_true_eq,List.all_eq_true]
 exact⟨fun h a ha=>by have:=h2 a ha;omega,fun h=>h M h1⟩
theorem qao (C:Cl)(tk op:Int):(((List.range 12).map fun k:Nat=>hold C tk op k).all fun a=>decide (0<=a))=q2l C tk op:=by
 unfold q2l
 rw[List.all_map]
 rfl
def stOk (C:Cl):List Int->Bool
 |[rm,tk,op,b,wt]=>((((decide (0<=rm/\rm<C.rooms)&&decide (0<=tk/\tk<2 ^ C.things.length))&&(decide (0<=op/\op<2 ^ C.ways.length)&&drs (dsOf C) C.ways.length op))&&decide (0<=b/\b<256))&&decide (0<=wt/\wt<10))&&q2l C tk op
 |_=>false
theorem q4J {C:Cl}{xs:List Int}(h:¬xs.length=5):stOk C xs=false:=by
 match xs,h with
 |[],_=>rfl
 |[_],_=>rfl
 |[_,_],_=>rfl
 |[_,_,_],_=>rfl
 |[_,_,_,_],_=>rfl
 |[_,_,_,_,_],h=>exact absurd rfl h
 |_::_::_::_::_::_::_,_=>rfl
theorem q3K {C:Cl}{rm tk op b wt:Int}:stOk C [rm,tk,op,b,wt]=(((((decide (0<=rm/\rm<C.rooms)&&decide (0<=tk/\tk<2 ^ C.things.length))&&(decide (0<=op/\op<2 ^ C.ways.length)&&drs (dsOf C) C.ways.length op))&&decide (0<=b/\b<256))&&decide (0<=wt/\wt<10))&&q2l C tk op):=rfl
theorem q9B {C:Cl}(ok:ClOk C):StOk C C.fst 0 0 C.bars C.water:=
 ⟨ok.f,⟨by decide,q0V _⟩,⟨by decide,q0V _⟩,fun i _ hb=>(by rw[q52] at hb;cases hb),ok.b,ok.wa,fun k _ _=>(by rw[q8K];exact Int.le_refl 0)⟩
end Ce
namespace Ce
open PySem L2
def q44 (g:Gt)(f:Int->Int)(op:Bool)(bars wt:Int):Bool:=match g with
 | .plain=>true
 | .door _=>op
 | .need k=>decide (0<f k)
 | .bar b=>bit bars b.toNat
 | .wade h k=>decide (wt<=h)||decide (0<f k)
 | .float h=>decide (h<=wt)
inductive Wd where
 |go|pull|take|turn|unlock
 deriving DecidableEq
def Wd.str:Wd->Str
 | .go=>"go"
 | .pull=>"pull"
 | .take=>"take"
 | .turn=>"turn"
 | .unlock=>"unlock"
def Wd.part:Wd->Int
 | .go=>3
 | .pull=>5
 | .take=>4
 | .turn=>6
 | .unlock=>3
structure Sd where
 rm:Int
 tk:Int
 op:Int
 b:Int
 wt:Int
def Sd.vs (s:Sd):List V:=[.int s.rm,.int s.tk,.int s.op,.int s.b,.int s.wt]
def Sd.ok (C:Cl)(s:Sd):Prop:=StOk C s.rm s.tk s.op s.b s.wt
def q16 (x:Way)(rm:Int):Bool:=decide (rm=x.a)||(decide (rm=x.b)&&x.back)
def canB (C:Cl)(s:Sd)(i:Nat):Wd->Bool
 | .go=>match C.ways[i]? with
  |some x=>q16 x s.rm&&q44 x.g (hold C s.tk s.op) (bit s.op i) s.b s.wt
  |none=>false
 | .pull=>match C.levers[i]? with
  |some x=>decide (s.rm=x.1)
  |none=>false
 | .take=>match C.things[i]? with
  |some x=>decide (s.rm=x.1)&& !bit s.tk i
  |none=>false
 | .turn=>match C.wheels[i]? with
  |some x=>decide (s.rm=x.1)&& !decide (s.wt=x.2)
  |none=>false
 | .unlock=>match C.ways[i]? with
  |some x=>match x.g.dk with
   |some k=>(q16 x s.rm&& !bit s.op i)&&decide (0<hold C s.tk s.op k)
   |none=>false
  |none=>false
def q1z (C:Cl)(s:Sd)(i:Nat):Wd->Sd
 | .go=>match C.ways[i]? with
  |some x=>{s with rm:=if s.rm=x.a then x.b else x.a}
  |none=>s
 | .pull=>match C.levers[i]? with
  |some x=>{s with b:=Builtin.bitXor s.b x.2}
  |none=>s
 | .take=>{s with tk:=s.tk+2 ^ i}
 | .turn=>match C.wheels[i]? with
  |some x=>{s with wt:=x.2}
  |none=>s
 | .unlock=>{s with op:=s.op+2 ^ i}
def Cl.num (C:Cl):Wd->Nat
 | .go=>C.ways.length
 | .pull=>C.levers.length
 | .take=>C.things.length
 | .turn=>C.wheels.length
 | .unlock=>C.ways.length
def canD (C:Cl)(s:Sd)(d:Wd)(n:Int):Bool:= !decide (s.rm=C.lst)&&(decide (0<=n)&&canB C s n.toNat d)
def q0N (C:Cl)(s:Sd)(d:Wd)(n:Int):Sd:=q1z C s n.toNat d
theorem q9f {C:Cl}{s:Sd}{i:Nat}{d:Wd}(h:canB C s i d=true):i<C.num d:=by
 cases d<;>simp only[canB] at h
 ·cases e:C.ways[i]? with
  |none=>rw[e] at h;simp at h
  |some x=>exact(yA e).1
 ·cases e:C.levers[i]? with
  |none=>rw[e] at h;simp at h
  |some x=>exact(yA e).1
 ·cases e:C.things[i]? with
  |none=>rw[e] at h;simp at h
  |some x=>exact(yA e).1
 ·cases e:C.wheels[i]? with
  |none=>rw[e] at h;simp at h
  |some x=>exact(yA e).1
 ·cases e:C.ways[i]? with
  |none=>rw[e] at h;simp at h
  |some x=>exact(yA e).1
theorem q65 {C:Cl}{s:Sd}{d:Wd}{n:Int}(h:s.rm=C.lst):canD C s d n=false:=by simp[canD,h]
theorem q7i {C:Cl}{s:Sd}{d:Wd}{n:Int}(h:n<0):canD C s d n=false:=by
 have:¬0<=n:=by omega
 simp[canD,this]
theorem q6G {C:Cl}{s:Sd}{d:Wd}{n:Int}(h:¬n<C.num d):canD C s d n=false:=by
 by_cases h0:0<=n
 ·have:canB C s n.toNat d=false:=by
   cases e:canB C s n.toNat d with
   |false=>rfl
   |true=>have:=q9f e;omega
  simp[canD,this]
 ·exact q7i (by omega)
theorem q9e {C:Cl}{s:Sd}{d:Wd}{i:Nat}(h:¬s.rm=C.lst):canD C s d (i:Int)=canB C s i d:=by
 have:(0:Int)<=(i:Int):=by omega
 simp[canD,h,this]
theorem q2k {C:Cl}{s:Sd}{d:Wd}{n:Int}(h:canD C s d n=true):¬s.rm=C.lst/\∃i:Nat,n=(i:Int)/\i<C.num d/\canB C s i d=true:=by
 unfold canD at h
 simp only[Bool.and_eq_true,Bool.not_eq_true',decide_eq_false_iff_not,decide_eq_true_eq] at h
 exact⟨h.1,n.toNat,by omega,q9f h.2.2,h.2.2⟩
theorem q9p {x:Int}{w:Nat}(h:bit x w=false):Builtin.bitOr x (2 ^ w)=x+2 ^ w:=by
 rw[PyProof.Rows.bitOr_and,PySem.W.kbt_bit]
 have:x / 2 ^ w % 2=0:=by
  unfold bit at h
  have h':=zaT h
  omega
 rw[this]
 simp
theorem q4j (x y:Nat):x+y=(x ^^^ y)+2*(x &&& y):=by
 have key:∀n x y,x<2 ^ n->y<2 ^ n->x+y=(x ^^^ y)+2*(x &&& y):=by
  intro n
  induction n with
  | zero => intro x y hx hy;have:x=0:=by simpa using hx
            have:y=0:=by simpa using hy
            subst_vars;rfl
  |succ n ih=>
   intro x y hx hy
   have h:=ih (x / 2) (y / 2) (by rw[Nat.pow_succ] at hx;omega) (by rw[Nat.pow_succ] at hy;omega)
   have e1:(x ^^^ y) / 2=(x / 2) ^^^ (y / 2):=Nat.xor_div_two
   have e2:(x &&& y) / 2=(x / 2) &&& (y / 2):=Nat.and_div_two
   have m1:(x ^^^ y) % 2=(x % 2+y % 2) % 2:=by
    have h1:(x ^^^ y) % 2=(x % 2) ^^^ (y % 2):=Nat.xor_mod_two_pow (n:=1)
    rw[h1]
    have a:x % 2=0\/x % 2=1:=by omega
    have b:y % 2=0\/y % 2=1:=by omega
    rcases a with a|a<;>rcases b with b|b<;>simp[a,b]
   have m2:(x &&& y) % 2=(x % 2)*(y % 2):=by
    have h1:(x &&& y) % 2=(x % 2) &&& (y % 2):=Nat.and_mod_two_pow (n:=1)
    rw[h1]
    have a:x % 2=0\/x % 2=1:=by omega
    have b:y % 2=0\/y % 2=1:=by omega
    rcases a with a|a<;>rcases b with b|b<;>simp[a,b]
   have a:x % 2=0\/x % 2=1:=by omega
   have b:y % 2=0\/y % 2=1:=by omega
   rw[<-e1,<-e2] at h
   rcases a with a|a<;>rcases b with b|b<;>rw[a,b] at m1 m2<;>omega
 exact key (x+y) x y (zb9 (Nat.le_add_right x y) Nat.lt_two_pow_self) (zb9 (Nat.le_add_left y x) Nat.lt_two_pow_self)
theorem qba {x y:Int}(hx:0<=x)(hy:0<=y):Builtin.bitXor x y=((x.toNat ^^^ y.toNat:Nat):Int):=by
 rw[PyProof.Rows.bitXor_and,PyProof.Rows.bitAnd_pp hx hy]
 have:=q4j x.toNat y.toNat
 omega
theorem q7T {x y:Int}(hx:0<=x)(hx':x<=255)(hy:0<=y)(hy':y<=255):0<=Builtin.bitXor x y/\Builtin.bitXor x y<=255:=by
 rw[qba hx hy]
 have:x.toNat ^^^ y.toNat<2 ^ 8:=Nat.xor_lt_two_pow (by omega) (by omega)
 omega
theorem go_end {x:Way}{rm:Int}(h:q16 x rm=true):(if rm=x.a then x.b else x.a)=x.a+x.b - rm:=by
 unfold q16 at h
 simp only[Bool.or_eq_true,Bool.and_eq_true,decide_eq_true_eq] at h
 by_cases e:rm=x.a
 ·rw [zj e];omega
 ·rw [zd e]
  rcases h with h|h
  ·exact absurd h e
  ·omega
theorem q9t {x i:Nat}(h:x.testBit i=false):x+2 ^ i=x ^^^ 2 ^ i:=by
 have h1:=q4j x (2 ^ i)
 have h2:x &&& 2 ^ i=0:=by
  apply Nat.eq_of_testBit_eq
  intro j
  rw[Nat.testBit_and,Nat.testBit_two_pow,Nat.zero_testBit]
  by_cases e:i=j
  ·rw [<-e,h];simp
  ·simp [e]
 omega
theorem q4i {x:Int}{i:Nat}(h0:0<=x)(h:bit x i=false)(j:Nat):bit (x+2 ^ i) j=(decide (i=j) ^^ bit x j):=by
 obtain⟨n,rfl⟩:∃n:Nat,x=(n:Int):=⟨x.toNat,by omega⟩
 have hp:=q0V i
 have e:((n:Int)+2 ^ i)=((n+2 ^ i:Nat):Int):=by rw[Int.natCast_add,zbT];rfl
 rw[q1i h0,zh] at h
 rw[e,q1i (by omega),q1i h0,zh,zh,q9t h,Nat.testBit_xor,Nat.testBit_two_pow,Bool.xor_comm]
theorem qb9 {x:Int}{i m:Nat}(h0:0<=x)(h1:x<2 ^ m)(hi:i<m)(h:bit x i=false):0<=x+2 ^ i/\x+2 ^ i<2 ^ m:=by
 obtain⟨n,rfl⟩:∃n:Nat,x=(n:Int):=⟨x.toNat,by omega⟩
 have hp:=q0V i
 have e:((n:Int)+2 ^ i)=((n+2 ^ i:Nat):Int):=by rw[Int.natCast_add,zbT];rfl
 have em:(2:Int) ^ m=((2 ^ m:Nat):Int):=by rw[zbT];rfl
 rw[q1i h0,zh] at h
 rw[em] at h1
 have hn:n<2 ^ m:=by omega
 have:n ^^^ 2 ^ i<2 ^ m:=Nat.xor_lt_two_pow hn (Nat.pow_lt_pow_right (by decide) hi)
 rw[e,em,q9t h]
 omega
theorem q6E {P R:Nat->Bool}{i:Nat}(h:∀j,j≠i->R j=P j)(hi:P i=false):∀m,cnt R m=cnt P m+(if i<m then(if R i=true then 1 else 0) else 0)
 |0=>by simp[cnt]
 |m+1=>by
  show cnt R m+_=cnt P m+_+_
  rw[q6E h hi m]
  by_cases e:m=i
  ·subst e
   rw[zd (zaW _),zj (zbm _),hi]
   simp
  ·rw [h m e]
   by_cases h2:i<m
   ·rw [zj h2,zj (show i<m+1 by omega),Nat.add_right_comm]
   ·rw [zd h2,zd (show¬i<m+1 by omega),Nat.add_right_comm]
theorem q8L {C:Cl}{tk op:Int}{i:Nat}(h0:0<=tk)(hi:i<C.things.length)(hb:bit tk i=false)(k:Int):hold C (tk+2 ^ i) op k=hold C tk op k+(if C.things[i].2=k then 1 else 0):=by
 unfold hold
 have e:cnt (tP C (tk+2 ^ i) k) C.things.length=cnt (tP C tk k) C.things.length+(if C.things[i].2=k then 1 else 0):=by
  rw[q6E (P:=tP C tk k) (i:=i) (fun j hj=>by simp[tP,q4i h0 hb,show¬i=j from fun z=>hj z.symm]) (by simp[tP,hb]),zj hi]
  congr 1
  simp only[tP,q4i h0 hb,hb]
  by_cases ek:C.things[i].2=k
  ·simp [ek,hi]
  ·simp [ek,hi]
 rw[e]
 split<;>omega
theorem q6w {C:Cl}{tk op:Int}{i:Nat}(h0:0<=op)(hi:i<C.ways.length)(hb:bit op i=false)(k:Int):hold C tk (op+2 ^ i) k=hold C tk op k - (if C.ways[i].g.dk=some k then 1 else 0):=by
 unfold hold
 have eds:dsOf C i=C.ways[i].g.dk:=by simp[dsOf,hi]
 have e:cnt (dP (dsOf C) (op+2 ^ i) k) C.ways.length=cnt (dP (dsOf C) op k) C.ways.length+(if C.ways[i].g.dk=some k then 1 else 0):=by
  rw[q6E (P:=dP (dsOf C) op k) (i:=i) (fun j hj=>by simp[dP,q4i h0 hb,show¬i=j from fun z=>hj z.symm]) (by simp[dP,hb]),zj hi]
  congr 1
  simp only[dP,q4i h0 hb,hb,eds]
  by_cases ek:C.ways[i].g.dk=some k
  ·simp [ek]
  ·simp [ek]
 rw[e]
 split<;>omega
theorem qci {C:Cl}{s:Sd}{d:Wd}{n:Int}(ok:ClOk C)(h:s.ok C)(hc:canD C s d n=true):(q0N C s d n).ok C:=by
 obtain⟨hl,i,rfl,hi,hb⟩:=q2k hc
 unfold q0N
 rw[zh]
 obtain⟨h1,h2,h3,h4,h5,h6,h7⟩:=id h
 cases d with
 |go=>
  have hi':i<C.ways.length:=hi
  have w:=ok.w _ (zx hi')
  simp only[q1z,yB hi']
  refine⟨?_,h2,h3,h4,h5,h6,h7⟩
  by_cases e:s.rm=C.ways[i].a
  ·simp only[e,if_true]
   exact w.2.1
  ·simp only[e,if_false]
   exact w.1
 |pull=>
  have hi':i<C.levers.length:=hi
  have w:=ok.lv _ (zx hi')
  simp only[q1z,yB hi']
  exact⟨h1,h2,h3,h4,q7T h5.1 h5.2 (by omega) w.2.2,h6,h7⟩
 |take=>
  have hi':i<C.things.length:=hi
  have ho:bit s.tk i=false:=by
   simp only[canB,yB hi',Bool.and_eq_true,Bool.not_eq_true'] at hb
   exact hb.2
  refine⟨h1,qb9 h2.1 h2.2 hi' ho,h3,h4,h5,h6,fun k k0 k1=>?_⟩
  show 0<=hold C (s.tk+2 ^ i) s.op k
  rw[q8L h2.1 hi' ho]
  have:=h7 k k0 k1
  split<;>omega
 |turn=>
  have hi':i<C.wheels.length:=hi
  have w:=ok.wh _ (zx hi')
  simp only[q1z,yB hi']
  exact⟨h1,h2,h3,h4,h5,w.2,h7⟩
 |unlock=>
  have hi':i<C.ways.length:=hi
  have eds:dsOf C i=C.ways[i].g.dk:=by simp[dsOf,hi']
  cases hk:C.ways[i].g.dk with
  |none=>simp[canB,hi',hk] at hb
  |some kd=>
   simp only[canB,yB hi',hk,Bool.and_eq_true,Bool.not_eq_true',decide_eq_true_eq] at hb
   refine⟨h1,h2,qb9 h3.1 h3.2 hi' hb.1.2,fun j hj hbj=>?_,h5,h6,fun k k0 k1=>?_⟩
   ·replace hbj:bit (s.op+2 ^ i) j=true:=hbj
    rw[q4i h3.1 hb.1.2] at hbj
    by_cases e:i=j
    ·rw [<-e,eds,hk];rfl
    ·have:bit s.op j=true:=by simpa[e] using hbj
     exact h4 j hj this
   ·show 0<=hold C s.tk (s.op+2 ^ i) k
    rw[q6w h3.1 hi' hb.1.2,hk]
    have:=h7 k k0 k1
    by_cases e:kd=k
    ·rw [zj (by rw[e]),<-e];omega
    ·rw [zd (by intro z;exact e (zD z))];omega
def rowD (d:Wd)(n:Nat):List (Wd×Nat):=(List.range n).map fun i=>(d,i)
theorem q32 (d:Wd)(n:Nat):(rowD d n).length=n:=by simp[rowD]
theorem q5N (d:Wd)(n:Nat):rowD d (n+1)=rowD d n++[(d,n)]:=by simp[rowD,List.range_succ]
def allD (C:Cl):List (Wd×Nat):=rowD .go C.ways.length++rowD .pull C.levers.length++rowD .take C.things.length++rowD .turn C.wheels.length++rowD .unlock C.ways.length
def fitD (C:Cl)(s:Sd):List (Wd×Nat):=(allD C).filter fun x=>canD C s x.1 (x.2:Int)
theorem q7j {C:Cl}(ok:ClOk C):(allD C).length<=56:=by
 have:=ok.wl
 have:=ok.tl
 have:=ok.ll
 have:=ok.vl
 simp only[allD,List.length_append,q32]
 omega
theorem qax {C:Cl}(ok:ClOk C)(s:Sd):(fitD C s).length<=56:=zab (zaI _ _) (q7j ok)
theorem qai {d d':Wd}{n i:Nat}:(d',i)∈rowD d n↔d'=d/\i<n:=by
 simp only[rowD,List.mem_map,List.mem_range,Prod.mk.injEq]
 constructor
 ·rintro ⟨j,h,rfl,rfl⟩;exact⟨rfl,h⟩
 ·rintro ⟨rfl,h⟩;exact⟨i,h,rfl,rfl⟩
theorem qaj {C:Cl}{d:Wd}{i:Nat}:(d,i)∈allD C↔i<C.num d:=by
 simp only[allD,List.mem_append,qai]
 cases d<;>simp[Cl.num]
theorem q76 {C:Cl}{s:Sd}{d:Wd}{i:Nat}:(d,i)∈fitD C s↔canD C s d (i:Int)=true:=by
 simp only[fitD,List.mem_filter,qaj]
 constructor
 ·exact fun h=>h.2
 ·intro h
  obtain⟨_,j,e,hj,_⟩:=q2k h
  have:i=j:=by omega
  exact⟨by rw[this];exact hj,h⟩
theorem go_of {C:Cl}{s:Sd}{i:Nat}(hc:canD C s .go (i:Int)=true):∃x,C.ways[i]? =some x/\q16 x s.rm=true/\q44 x.g (hold C s.tk s.op) (bit s.op i) s.b s.wt=true/\¬s.rm=C.lst/\q0N C s .go (i:Int)={s with rm:=if s.rm=x.a then x.b else x.a}:=by
 obtain⟨hl,j,e,hi,hb⟩:=q2k hc
 have e':i=j:=by omega
 subst e'
 have hi':i<C.ways.length:=hi
 have hx:C.ways[i]? =some C.ways[i]:=yB hi'
 simp only[canB,hx,Bool.and_eq_true] at hb
 exact⟨C.ways[i],hx,hb.1,hb.2,hl,by unfold q0N;rw[Int.toNat_natCast];simp[q1z,hi']⟩
end Ce
namespace L2
open PySem PySem.Spec PyProof.Rows
section
variable {X:Cx}{o e:Expr}{es:List Expr}{m:Str}{apos pos:Pos}{k k':Nat}{ta:TE}{t:TA}
theorem qb0 {pl:Sem Bool}(P:Program)(w:World)(K:W.Frag)(mg:Str->Option Value)(base:Heap)(hr:Room k' X.A)(hk:k<=k')(he:PE X o ta)(ha:PA X (e::es) t)
  (e1:X.prog=P:=by rfl)(e2:X.w=w:=by rfl)(e3:X.K=K:=by rfl)(e4:X.mg=mg:=by rfl)(e5:X.base=base:=by rfl)
  (hst:starEach (e::es) X.env=(false,eval e X.env)::starEach es X.env:=by rfl)(hpl:(backTo pos (starEach es X.env)).any (·.1)=false:=by rfl)
  (ht:eval (.Call (.Attribute o m apos) (e::es) [] pos) X.env=(do
   let ov<-eval o X.env
   standAt apos.atName
   let (f,first)<-holding [ov] (getMethod ov m pl)
   callWith pos f first (backTo pos (starEach (e::es) X.env)) (backToKw pos (keywordEach [] X.env))):=by rfl):
  PE X (.Call (.Attribute o m apos) (e::es) [] pos) (tVM P w K mg base k m ta t):=by
 subst e1 e2 e3 e4 e5
 exact q3V (hr.mono hk) he ha hst hpl ht
theorem qbD {pl:Sem Bool}(P:Program)(w:World)(K:W.Frag)(mg:Str->Option Value)(base:Heap)(hr:Room k' X.A)(hk:k<=k')(he:PE X o ta)
  (e1:X.prog=P:=by rfl)(e2:X.w=w:=by rfl)(e3:X.K=K:=by rfl)(e4:X.mg=mg:=by rfl)(e5:X.base=base:=by rfl)
  (ht:eval (.Call (.Attribute o m apos) [] [] pos) X.env=(do
   let ov<-eval o X.env
   standAt apos.atName
   let (f,first)<-holding [ov] (getMethod ov m pl)
   callWith pos f first (backTo pos (starEach [] X.env)) (backToKw pos (keywordEach [] X.env))):=by rfl):
  PE X (.Call (.Attribute o m apos) [] [] pos) (tVM P w K mg base k m ta tNil):=by
 subst e1 e2 e3 e4 e5
 exact pe_vm0 (hr.mono hk) he ht
end
def DictIs (h:Heap)(e:Addr)(od:Option Addr):Prop:=∃o,h.get? e=some o/\o.dict=od
end L2
namespace L2
open PySem PySem.Spec PyProof.Rows
structure FlyX (X:Cx)(pins:List (Addr×Obj))(a:Addr)(cls:Value)(od:Option Addr)(H:Hp)(h:Heap):Prop where
 ex:∃oe vs T oT ts a0,h.get? a=some oe/\(oe.cls=cls/\vs[0]? =some a0)/\oe.data= .fields vs/\vs[1]? =some (.ref T)/\T≠a/\h.get? T=some oT/\oT.data= .fields ts/\ts[3]? =some .none/\X.s₀.heap.get? T=none/\H T=none/\∀p∈X.pn++pins,p.1≠T
 new:X.s₀.heap.get? a=none
 free:H a=none
 pn:∀p∈X.pn++pins,p.1≠a
 dict:DictIs h a od
def XP (X:Cx)(pins:List (Addr×Obj))(σ:St)(Ex:Value->Option Addr->Hp->Prop)(e:Value)(s':Shared):Prop:=∃a cls od H',e= .ref a/\Inv X pins σ H' s'/\FlyX X pins a cls od H' s'.heap/\Ex cls od H'
end L2
namespace L2
open PySem PySem.Spec PyProof.Rows
end L2
namespace L2
open PySem PySem.Spec PySem.Calls PyProof.Rows PySem.W Builtin Builtin.ObjectAttr Builtin.Getset_descriptor
end L2
namespace L2
open PySem PySem.Spec PySem.Calls PyProof.Rows PySem.W Builtin Builtin.ObjectAttr
end L2
namespace L2
open PySem PySem.Spec PySem.Calls PyProof.Rows PySem.W Builtin Builtin.ObjectAttr
end L2
set_option maxHeartbeats 1000000
namespace L2
open PySem PySem.Spec PySem.Calls PyProof.Rows PySem.W Builtin Builtin.ObjectAttr Builtin.Getset_descriptor
end L2
namespace L2
open PySem PySem.Spec PyProof.Rows
end L2
namespace L2
open PySem PySem.Spec PyProof.Rows
end L2
namespace L2
open PySem PySem.Spec PyProof.Rows
end L2
namespace L2
open PySem PySem.Spec PyProof.Rows
end L2
namespace L2
open PySem PySem.Spec PyProof.Rows
end L2
namespace L2
open PySem PySem.Spec PyProof.Rows
end L2
namespace L2
open PySem PySem.Spec PyProof.Rows
section
variable {κ:Type}[DecidableEq κ]
def valV (kvs:List (κ×V))(k:κ):Option V:=(kvs.find? fun kv=>decide (kv.1=k)).map (·.2)
def putK (kvs:List (κ×V))(k:κ)(v:V):List (κ×V):=
 if (kvs.any fun kv=>decide (kv.1=k))=true then kvs.map (fun kv=>if kv.1=k then(kv.1,v) else kv) else kvs++[(k,v)]
theorem q0E {p:κ×V}{r:List (κ×V)}{k:κ}(e:p.1=k):valV (p::r) k=some p.2:=by simp[valV,List.find?_cons,e]
theorem q0x {p:κ×V}{r:List (κ×V)}{k:κ}(e:¬p.1=k):valV (p::r) k=valV r k:=by simp[valV,List.find?_cons,e]
theorem q2S (k:κ):∀kvs:List (κ×V),(kvs.any fun kv=>decide (kv.1=k))=(valV kvs k).isSome
 |[]=>rfl
 |p::r=>by
  rw[zch]
  by_cases e:p.1=k
  ·simp only[q0E e,decide_eq_true e,Bool.true_or,Option.isSome_some]
  ·rw [q0x e,zf e,zci];exact q2S k r
theorem q2P (kvs:List (κ×V))(k:κ)(v:V):(putK kvs k v).length<=kvs.length+1:=by
 unfold putK
 split
 ·rw [yC];omega
 ·rw [zk,zaf,zcy];omega
theorem RelO.isSome_eq {o:Option V}{u:Option Value}(r:RelO o u):o.isSome=u.isSome:=by
 cases o with
 |none=>cases u with
  |none=>rfl
  |some _=>exact(show False from r).elim
 |some _=>cases u with
  |none=>exact(show False from r).elim
  |some _=>rfl
theorem KV.val {kvs:List (κ×V)}{vs:List (κ×Value)}(r:KV kvs vs)(k:κ):RelO (valV kvs k) (valueAt vs k):=by
 unfold KV at r
 induction r with
 |nil=>exact True.intro
 | @cons p q ps qs h t ih=>
  obtain⟨h1,h2⟩:=h
  by_cases e:p.1=k
  ·have e':q.1=k:=h1.symm.trans e
   have b:valueAt (q::qs) k=some q.2:=by simp[valueAt,List.find?_cons,e']
   rw[q0E e,b];exact h2
  ·have e':¬q.1=k:=fun z=>e (h1.trans z)
   have b:valueAt (q::qs) k=valueAt qs k:=by simp[valueAt,List.find?_cons,e']
   rw[q0x e,b];exact ih
theorem KV.any {kvs:List (κ×V)}{vs:List (κ×Value)}(r:KV kvs vs)(k:κ):(kvs.any fun kv=>decide (kv.1=k))=vs.any fun kv=>decide (kv.1=k):=by
 unfold KV at r
 induction r with
 |nil=>rfl
 |cons h t ih=>rw[zch,zch,ih,h.1]
theorem KV.repl {kvs:List (κ×V)}{vs:List (κ×Value)}(r:KV kvs vs)(k:κ){y:V}{u:Value}(ry:RelV y u):
  KV (kvs.map fun kv=>if kv.1=k then(kv.1,y) else kv) (vs.map fun kv=>if kv.1=k then(kv.1,u) else kv):=by
 unfold KV at r ⊢
 induction r with
 |nil=>exact .nil
 | @cons p q ps qs h t ih=>
  rw[z8,z8]
  refine .cons ?_ ih
  obtain⟨h1,h2⟩:=h
  by_cases e:p.1=k
  ·rw [zj e,zj (h1.symm.trans e)];exact⟨h1,ry⟩
  ·rw [zd e,zd (fun z=>e (h1.trans z))];exact⟨h1,h2⟩
theorem KV.put {kvs:List (κ×V)}{vs:List (κ×Value)}(r:KV kvs vs)(k:κ){y:V}{u:Value}(ry:RelV y u):KV (putK kvs k y) (stored vs k u):=by
 unfold putK stored
 rw[r.any k]
 by_cases e:(vs.any fun kv=>decide (kv.1=k))=true
 ·rw [zj e,zj e];exact r.repl k ry
 ·rw [zd e,zd e];exact Paired.snoc r ⟨rfl,ry⟩
theorem KV.length {kvs:List (κ×V)}{vs:List (κ×Value)}(r:KV kvs vs):kvs.length=vs.length:=Paired.length r
end
theorem q7M {P:Program}{w:World}{k:Key}{u:Value}(r:RelV (kV k) u):(q0G P w).is k u=true:=by
 cases k with
 |inl i=>obtain⟨t,e⟩:=(show∃t,u=Value.int i t from r);subst e;exact q6v P w i t
 |inr x=>obtain⟨t,e⟩:=(show∃t,u=Value.str x t from r);subst e;exact q6u P w x t
theorem q5Y {P:Program}{w:World}:∀{ks:List Key} {us:List Value},Vals (ks.map kV) us->ItemsAre (q0G P w) ks us
 |[],_,r=>by rw[zct] at r;cases r;exact .nil
 |k::ks,_,r=>by
  rw[z8] at r
  cases r with
  |cons h t=>exact .cons (q7M h) (q5Y t)
abbrev KT (H:Hp):List (List Key×V)->List (List Key×Addr×Value)->Prop:=Paired fun p q=>p.1=q.1/\H q.2.1=some (.tup (p.1.map kV))/\RelV p.2 q.2.2
theorem KT.val {H:Hp}{kvs:List (List Key×V)}{xs:List (List Key×Addr×Value)}(r:KT H kvs xs)(k:List Key):RelO (valV kvs k) ((atKey xs k).map (·.2)):=by
 induction r with
 |nil=>exact True.intro
 | @cons p q ps qs h t ih=>
  obtain⟨h1,_,h2⟩:=h
  by_cases e:p.1=k
  ·have e':q.1=k:=h1.symm.trans e
   have b:atKey (q::qs) k=some q.2:=by simp[atKey,List.find?_cons,e']
   rw[q0E e,b];exact h2
  ·have e':¬q.1=k:=fun z=>e (h1.trans z)
   have b:atKey (q::qs) k=atKey qs k:=by simp[atKey,List.find?_cons,e']
   rw[q0x e,b];exact ih
theorem KT.repl {H:Hp}{kvs:List (List Key×V)}{xs:List (List Key×Addr×Value)}(r:KT H kvs xs)(k:List Key){y:V}{u:Value}(ry:RelV y u):
  KT H (kvs.map fun kv=>if kv.1=k then(kv.1,y) else kv) (xs.map (putAt k u)):=by
 induction r with
 |nil=>exact .nil
 | @cons p q ps qs h t ih=>
  rw[z8,z8]
  refine .cons ?_ ih
  obtain⟨h1,h2,h3⟩:=h
  unfold putAt
  by_cases e:p.1=k
  ·rw [zj e,zj (h1.symm.trans e)];exact⟨h1,h2,ry⟩
  ·rw [zd e,zd (fun z=>e (h1.trans z))];exact⟨h1,h2,h3⟩
theorem KT.put {H:Hp}{kvs:List (List Key×V)}{xs:List (List Key×Addr×Value)}(r:KT H kvs xs)(k:List Key){b:Addr}{y:V}{u:Value}(hb:H b=some (.tup (k.map kV)))(ry:RelV y u):
  KT H (putK kvs k y) (storedH xs k b u):=by
 have e:(kvs.any fun kv=>decide (kv.1=k))=(atKey xs k).isSome:=by
  rw[q2S,(r.val k).isSome_eq,zaB]
 unfold putK storedH
 rw[e]
 by_cases q:(atKey xs k).isSome=true
 ·rw [zj q,zj q];exact r.repl k ry
 ·rw [zd q,zd q];exact Paired.snoc r ⟨rfl,hb,ry⟩
theorem KT.keeps {H H':Hp}{kvs:List (List Key×V)}{xs:List (List Key×Addr×Value)}(r:KT H kvs xs)(ht:∀b ys,H b=some (.tup ys)->H' b=some (.tup ys)):KT H' kvs xs:=
 Paired.mapP r fun _ _ z=>⟨z.1,ht _ _ z.2.1,z.2.2⟩
section
variable {P:Program}{w:World}{H:Hp}{h:Heap}{a:Addr}
theorem rd_of {u:HO}(ok:HOk P w H h)(e:Rd H a u):q0I P w H h a u:=e.ok ok
theorem q6A {kvs:List (Key×V)}(ok:HOk P w H h)(e:Rd H a (.dK kvs)):kvs.length<=sizeLine/\(a==sysModules)=false/\∃vs,KV kvs vs/\h.DictOf (q0G P w) a vs:=
 show q0I P w H h a (.dK kvs) from rd_of ok e
theorem dk_of {kvs:List (Key×V)}(ok:HOk P w H h)(e:H a=some (.dK kvs)):kvs.length<=sizeLine/\(a==sysModules)=false/\∃vs,KV kvs vs/\h.DictOf (q0G P w) a vs:=q6A ok (.inl e)
theorem q49 {ks:List Key}(ok:HOk P w H h)(e:H a=some (.tup (ks.map kV))):(tupleKind (q0G P w)).is h ks a:=by
 obtain⟨_,its,r,o,h1,h2,n,h3⟩:=(show q0I P w H h a (.tup (ks.map kV)) from ok a _ e)
 exact⟨o,its.toArray,n,h1,h2,h3,by simpa using q5Y r⟩
theorem q6y {kvs:List (List Key×V)}(ok:HOk P w H h)(e:Rd H a (.dT kvs)):kvs.length<=sizeLine/\(a==sysModules)=false/\
  ∃xs,KT H kvs xs/\h.DictOfH (tupleKind (q0G P w)) a xs:=by
 obtain⟨z,y,xs,r,o,es,ep,h1,h2,h3,h4,h5⟩:=(show q0I P w H h a (.dT kvs) from rd_of ok e)
 refine⟨z,y,xs,r,o,es,ep,h1,h2,h3,h4,fun x hx=>?_,h5⟩
 have all:∀{l:List (List Key×V)} {m:List (List Key×Addr×Value)},KT H l m->∀x∈m,(tupleKind (q0G P w)).is h x.1 x.2.1:=by
  intro l m q
  induction q with
  |nil=>intro x hx;exact nomatch hx
  | @cons p q ps qs hq t ih=>
   intro x hx
   rcases zU.mp hx with e|hx
   ·subst e
    exact q49 ok (by rw[<-hq.1];exact hq.2.1)
   ·exact ih x hx
 exact all r x hx
theorem dt_of {kvs:List (List Key×V)}(ok:HOk P w H h)(e:H a=some (.dT kvs)):kvs.length<=sizeLine/\(a==sysModules)=false/\
  ∃xs,KT H kvs xs/\h.DictOfH (tupleKind (q0G P w)) a xs:=q6y ok (.inl e)
end
def DGet (H:Hp)(a:Addr)(y:V)(r:Option V):Prop:=
 (∃kvs k,Rd H a (.dK kvs)/\y=kV k/\r=valV kvs k)\/∃kvs k b,Rd H a (.dT kvs)/\y= .ref b/\H b=some (.tup (k.map kV))/\r=valV kvs k
def DPut (H:Hp)(a:Addr)(y v:V)(H':Hp):Prop:=
 (∃kvs k,H a=some (.dK kvs)/\y=kV k/\kvs.length<sizeLine/\H'=upd H a (.dK (putK kvs k v)))\/
 ∃kvs k b,H a=some (.dT kvs)/\y= .ref b/\H b=some (.tup (k.map kV))/\kvs.length<sizeLine/\H'=upd H a (.dT (putK kvs k v))
theorem DPut.t {H:Hp}{a b:Addr}{kvs:List (List Key×V)}{k:List Key}{v:V}(e:H a=some (.dT kvs))(eb:H b=some (.tup (k.map kV)))(hl:kvs.length<sizeLine):
  DPut H a (.ref b) v (upd H a (.dT (putK kvs k v))):= .inr ⟨kvs,k,b,e,rfl,eb,hl,rfl⟩
section
variable {X:Cx}{pins:List (Addr×Obj)}{σ:St}{H:Hp}{s:Shared}{a:Addr}{y v:V}{u r:Value}{o:Option V}{A:Around}{E:Value->Shared->Prop}
theorem Inv.big (I:Inv X pins σ H s):sysModules<s.heap.objs.size:=by
 have h:mainGlobals<s.heap.objs.size:=(I.mod.glob.keeps I.bk).lt
 exact Nat.lt_trans (by decide) h
theorem q93 {Q:Value->Shared->Prop}(hu:A.units+1<cLine)(I:Inv X pins σ H s)(g:DGet H a y (some v))(ry:RelV y u)(h:∀w' s',Inv X pins σ H s'->RelV v w'->Q w' s'):
  wpAny (model X.prog X.w) A (getItem (.ref a) u) Q E s:=by
 rcases g with⟨kvs,k,e,ey,l⟩|⟨kvs,k,b,e,ey,eb,l⟩
 ·subst ey
  obtain⟨z,hd,vs,rel,dd⟩:=q6A I.hok e
  obtain⟨w',hw,rw'⟩:=RelO.some_of (v:=v) (o:=valueAt vs k) (by rw[l];exact rel.val k)
  exact wpAny_getItem_of (q7M ry) dd.mapOf hw (h w' _ (I.tok _) rw')
 ·subst ey
  cases(show u=Value.ref b from ry)
  obtain⟨z,hd,xs,rel,dd⟩:=q6y I.hok e
  obtain⟨w',hw,rw'⟩:=RelO.some_of (v:=v) (o:=(atKey xs k).map (·.2)) (by rw[l];exact rel.val k)
  obtain⟨p,hp,hp2⟩:=zaR.mp hw
  refine wpAny_getItem_heap (tupleKind_room_in1 hu) (q49 I.hok eb) dd hp ?_
  rw[hp2]
  exact h w' _ (I.tok _) rw'
theorem d_in {Q:Value->Shared->Prop}(hu:A.units+1<cLine)(I:Inv X pins σ H s)(g:DGet H a y o)(ry:RelV y u)(h:∀s',Inv X pins σ H s'->Q (.bool o.isSome) s'):
  wpAny (model X.prog X.w) A (compareOp .In u (.ref a)) Q E s:=by
 rcases g with⟨kvs,k,e,ey,l⟩|⟨kvs,k,b,e,ey,eb,l⟩
 ·subst ey
  obtain⟨z,hd,vs,rel,dd⟩:=q6A I.hok e
  refine wpAny_in_of (q7M ry) hd dd.mapOf ?_
  rw[<-(rel.val k).isSome_eq,<-l]
  exact h _ (I.tok _)
 ·subst ey
  cases(show u=Value.ref b from ry)
  obtain⟨z,hd,xs,rel,dd⟩:=q6y I.hok e
  refine wpAny_in_heap (tupleKind_room_in1 hu) (q49 I.hok eb) hd dd ?_
  have q:=(rel.val k).isSome_eq
  rw[zaB] at q
  rw[<-q,<-l]
  exact h _ (I.tok _)
theorem qco {Q:Value->Shared->Prop}(hu:A.units+1<cLine)(I:Inv X pins σ H s)(g:DGet H a y o)(ry:RelV y u)(h:∀s',Inv X pins σ H s'->Q (.bool (!o.isSome)) s'):
  wpAny (model X.prog X.w) A (compareOp .NotIn u (.ref a)) Q E s:=by
 rcases g with⟨kvs,k,e,ey,l⟩|⟨kvs,k,b,e,ey,eb,l⟩
 ·subst ey
  obtain⟨z,hd,vs,rel,dd⟩:=q6A I.hok e
  refine wpAny_notIn_of (q7M ry) hd dd.mapOf ?_
  rw[<-(rel.val k).isSome_eq,<-l]
  exact h _ (I.tok _)
 ·subst ey
  cases(show u=Value.ref b from ry)
  obtain⟨z,hd,xs,rel,dd⟩:=q6y I.hok e
  refine wpAny_notIn_heap (tupleKind_room_in1 hu) (q49 I.hok eb) hd dd ?_
  have q:=(rel.val k).isSome_eq
  rw[zaB] at q
  rw[<-q,<-l]
  exact h _ (I.tok _)
theorem q6D {h':Heap}{t':Nat}{ob:HO}(I:Inv X pins σ H s)(mu:Mut (H a))(hs:Heap.SameBut a s.heap h')(he:∃q,h'.get? a=some q)(new:q0I X.prog X.w (upd H a ob) h' a ob):
  Inv X pins σ (upd H a ob) {s with heap:=h',toks:=t'}:=
 I.write (x:=a) (e:=a) mu (.inl rfl) (fun b q hb z=>(hs.2 b hb).trans z) he new
theorem dk_new {P:Program}{w:World}{H':Hp}{h':Heap}{kvs:List (Key×V)}{vs:List (Key×Value)}(z:kvs.length<=sizeLine)(hd:(a==sysModules)=false)(rel:KV kvs vs)(dd:h'.DictOf (q0G P w) a vs):
  q0I P w H' h' a (.dK kvs):=⟨z,hd,vs,rel,dd⟩
theorem q92 {H':Hp}{Q:Unit->Shared->Prop}(hu:A.units+1<cLine)(I:Inv X pins σ H s)(g:DPut H a y v H')(ry:RelV y u)(rv:RelV v r)(h:∀s',Inv X pins σ H' s'->Q () s'):
  wpAny (model X.prog X.w) A (setItem (.ref a) u r) Q E s:=by
 rcases g with⟨kvs,k,e,ey,l,eH⟩|⟨kvs,k,b,e,ey,eb,l,eH⟩
 ·subst ey eH
  obtain⟨z,hd,vs,rel,dd⟩:=dk_of I.hok e
  have hz:vs.length<=sizeLine:=by rw[<-rel.length];exact z
  have hl:(putK kvs k v).length<=sizeLine:=by have:=q2P kvs k v;omega
  refine wpAny_setItem_pairs (hsz:=hz) (q7M ry) dd fun h' dd' hs=>h _ ?_
  have he:∃q,h'.get? a=some q:=let ⟨q,_,_,hq,_⟩:=dd';⟨q,hq⟩
  exact q6D I (by rw[e];exact True.intro) hs he (dk_new hl hd (rel.put k rv) dd')
 ·subst ey eH
  cases(show u=Value.ref b from ry)
  obtain⟨z,hd,xs,rel,dd⟩:=dt_of I.hok e
  have hz:xs.length<=sizeLine:=by rw[<-Paired.length rel];exact z
  have hl:(putK kvs k v).length<=sizeLine:=by have:=q2P kvs k v;omega
  refine wpAny_setItem_heap (hsz:=hz) (tupleKind_room_in1 hu) (q49 I.hok eb) dd fun h' dd' hs=>h _ ?_
  obtain⟨q,es,ep,hq,h2,h3,h4,_,h5⟩:=dd'
  refine q6D I (by rw[e];exact True.intro) hs ⟨q,hq⟩ ⟨hl,hd,_,(rel.put k eb rv).keeps fun c ys ec=>?_,q,es,ep,hq,h2,h3,h4,h5⟩
  rw[qw (q4V ec e (fun z=>nomatch z))]
  exact ec
end
def NoSl (i:Expr):Prop:=∀ov iv,subscripted i false ov iv=operate [ov,iv] (getItem ov iv)
theorem qbg {prog:Program}{w:World}{A:Around}{E:Value->Shared->Prop}{s:Shared}{env:Env}{value slice:Expr}{pos:Pos}{T id:String}{Q:Value->Shared->Prop}
  (hl:typeLookup (.type T) "__getitem__"=pure (some (.builtin id)))(hs:NoSl slice)
  (h:wpAny (model prog w) A (eval value env) (fun o s₁=>wpAny (model prog w) A (eval slice env) (fun i s₂=>s₂.TypeIs o T/\wpAny (model prog w) A (getItem o i) Q E s₂) E s₁) E s):
  wpAny (model prog w) A (eval (.Subscript value slice pos) env) Q E s:=by
 refine Subscript_ (zak h (fun o s₁ h₁=>zak h₁ (fun i s₂ h₂=>?_) fun _ _ x=>x) fun _ _ x=>x)
 obtain⟨hT,h₂⟩:=h₂
 unfold subscriptTail
 refine yD ?_
 rw[getitemInPython_of_ne hT.not_modules]
 refine yD (wpAny_specialOf hT hl ?_)
 have fin:wpAny (model prog w) A (subscripted slice false o i) (fun r s₃=>wpAny (model prog w) A (letTemporaryGo value o r >>= fun _=>pure r) Q E s₃) E s₂:=by
  rw[hs o i]
  exact wpAny_operating (zak h₂ (fun r s₃ h₃=>yD (wpAny_letTemporaryGo (zg h₃))) fun _ _ x=>x)
 first
  |exact zg (yD fin)
  |exact yD (zg (yD fin))
  |exact yD fin
theorem q6B {X:Cx}{pins:List (Addr×Obj)}{σ:St}{H:Hp}{s:Shared}{a:Addr}{y:V}{o:Option V}(I:Inv X pins σ H s)(g:DGet H a y o):s.TypeIs (.ref a) "dict":=by
 rcases g with⟨kvs,k,e,_,_⟩|⟨kvs,k,b,e,_,_,_⟩
 ·obtain ⟨_,_,vs,_,dd⟩:=q6A I.hok e
  exact dd.typeIs
 ·obtain ⟨_,_,xs,_,dd⟩:=q6y I.hok e
  exact dd.typeIs
def tDGet (td ty:TE):TE:=fun σ H Q=>td σ H fun x H1=>ty σ H1 fun y H2=>∃a v,x= .ref a/\DGet H2 a y (some v)/\Q v H2
def tDIn (ty td:TE):TE:=fun σ H Q=>ty σ H fun y H1=>td σ H1 fun x H2=>∃a o,x= .ref a/\DGet H2 a y o/\Q (.bl o.isSome) H2
def q80 (ty td:TE):TE:=fun σ H Q=>ty σ H fun y H1=>td σ H1 fun x H2=>∃a o,x= .ref a/\DGet H2 a y o/\Q (.bl (!o.isSome)) H2
def sDPut (td ty tv:TE):TS:=fun D σ H=>tv σ H fun v H1=>td σ H1 fun x H2=>ty σ H2 fun y H3=>∃a H4,x= .ref a/\DPut H3 a y v H4/\D.nx σ H4
section
variable {X:Cx}{o i e value:Expr}{pos pos' tpos:Pos}{td ty tv:TE}
theorem q3W (hu:X.A.units+1<cLine)(ho:PE X o td)(hi:PE X i ty)(hs:NoSl i):PE X (.Subscript o i pos) (tDGet td ty):=by
 intro pins s σ H Q I h
 refine qbg PySem.F.slot_dict_getitem.lookup hs (thn (ho pins s σ H _ I h) fun u s1 ⟨x,H1,I1,rx,q1⟩=>thn (hi pins s1 σ H1 _ I1 q1) fun iv s2 ⟨y,H2,I2,ry,a,v,ex,g,q2⟩=>?_)
 subst ex
 obtain rfl:u=Value.ref a:=rx
 exact⟨q6B I2 g,q93 hu I2 g ry fun w' s3 I3 rw'=>⟨v,H2,I3,rw',q2⟩⟩
theorem q8r (hu:X.A.units+1<cLine)(hi:PE X i ty)(ho:PE X o td):PC X .In i o (tDIn ty td):=by
 intro pins s σ H Q I h
 refine thn (hi pins s σ H _ I h) fun iv s1 ⟨y,H1,I1,ry,q1⟩=>thn (ho pins s1 σ H1 _ I1 q1) fun u s2 ⟨x,H2,I2,rx,a,ov,ex,g,q2⟩=>?_
 subst ex
 obtain rfl:u=Value.ref a:=rx
 exact d_in hu I2 g ry fun s3 I3=>⟨.bl ov.isSome,H2,I3,rfl,q2⟩
theorem q1D (hu:X.A.units+1<cLine)(hi:PE X i ty)(ho:PE X o td):PC X .NotIn i o (q80 ty td):=by
 intro pins s σ H Q I h
 refine thn (hi pins s σ H _ I h) fun iv s1 ⟨y,H1,I1,ry,q1⟩=>thn (ho pins s1 σ H1 _ I1 q1) fun u s2 ⟨x,H2,I2,rx,a,ov,ex,g,q2⟩=>?_
 subst ex
 obtain rfl:u=Value.ref a:=rx
 exact qco hu I2 g ry fun s3 I3=>⟨.bl (!ov.isSome),H2,I3,rfl,q2⟩
theorem q3e (hu:X.A.units+1<cLine)(ho:PE X o td)(hi:PE X i ty)(hv:PE X value tv)(hs:swapsWith value (some (.Subscript o i pos')) pos.line X.env=pure false):
  PS X (.Assign [.Subscript o i pos'] value pos) (sDPut td ty tv):=by
 intro pins s σ H D I h
 refine wpAny_Assign_Subscript (thn (hv pins s σ H _ I h) fun r s1 ⟨v,H1,I1,rv,q1⟩=>thn (ho pins s1 σ H1 _ I1 q1) fun u s2 ⟨x,H2,I2,rx,q2⟩=>thn (hi pins s2 σ H2 _ I2 q2) fun iv s3 ⟨y,H3,I3,ry,a,H4,ex,g,q3⟩=>?_) hs
 subst ex
 obtain rfl:u=Value.ref a:=rx
 exact q92 hu I3 g ry rv fun s4 I4=>⟨σ,H4,I4,q3⟩
end
theorem q7b {P:Program}{w:World}{H:Hp}(h:Heap)(hb:sysModules<h.objs.size):q0I P w H (h.push {cls:= .type "dict",data:= .dict #[]}) h.objs.size (.dT []):=
 ⟨zan _,beq_eq_false_iff_ne.mpr (Ne.symm (zB hb)),[],.nil,_,#[],0,zC _ rfl,⟨rfl,rfl,rfl⟩,rfl,rfl,List.nodup_nil⟩
def qaL:TE:=fun _ H Q=>∀p,H p=none->Q (.ref p) (upd H p (.dT []))
section
variable {X:Cx}{pos:Pos}
theorem q3C:PE X (.Dict [] [] pos) qaL:=fun pins s σ H Q I h=>
 wpAny_Dict_empty ⟨.ref s.heap.objs.size,_,I.laid (a:=s.heap.objs.size) (o:= .dT []) (t':=s.toks) (fun _ _ q=>zo _ q) (zc _) (q7b s.heap I.big),rfl,h _ (I.hok.fresh (zc _))⟩
end
def qaK:List (TE×TE)->St->Hp->(List (V×V)->Hp->Prop)->Prop
 |[],_,H,Q=>Q [] H
 |(tk,tv)::r,σ,H,Q=>tk σ H fun x H1=>tv σ H1 fun y H2=>qaK r σ H2 fun ps H3=>Q ((x,y)::ps) H3
abbrev VV:List (V×V)->List (Value×Value)->Prop:=Paired fun p q=>RelV p.1 q.1/\RelV p.2 q.2
def PPs (X:Cx)(pos:Pos)(keys:List (Option Expr))(values:List Expr)(trs:List (TE×TE)):Prop:=
 ∀(pins:List (Addr×Obj)) (s:Shared) (σ:St) (H:Hp) (Q:List (V×V)->Hp->Prop),Inv X pins σ H s->qaK trs σ H Q->
  wpAny (model X.prog X.w) X.A (evalPairs (pairTrees keys values X.env pos)) (fun vs s'=>∃ps H',Inv X pins σ H' s'/\VV ps vs/\Q ps H') X.xe s
theorem qbA {X:Cx}{pos:Pos}:PPs X pos [] [] []:=fun pins s σ H Q I h=>pairTrees_nil_walk ⟨[],H,I,.nil,h⟩
theorem q9L {X:Cx}{pos:Pos}{k v:Expr}{ks:List (Option Expr)}{vs:List Expr}{tk tv:TE}{trs:List (TE×TE)}(hk:PE X k tk)(hv:PE X v tv)(hr:PPs X pos ks vs trs):
  PPs X pos (some k::ks) (v::vs) ((tk,tv)::trs):=fun pins s σ H Q I h=>
 pairTrees_cons_walk (thn (hk pins s σ H _ I h) fun u s1 ⟨x,H1,I1,rx,q1⟩=>thn (hv pins s1 σ H1 _ I1 q1) fun w2 s2 ⟨y,H2,I2,ry,q2⟩=>
  thn (hr pins s2 σ H2 _ I2 q2) fun ws s3 ⟨ps,H3,I3,rel,q3⟩=>⟨(x,y)::ps,H3,I3,.cons ⟨rx,ry⟩ rel,q3⟩)
end L2
namespace Att
open PySem PySem.W PySem.Calls PyProof.Rows
end Att
namespace L2
open PySem PySem.Spec PyProof.Rows
end L2
namespace L2
open PySem PySem.Spec PyProof.Rows
def rInD (K:W.Frag)(n:Nat)(neg:Bool):R2:=fun x y H Q=>∃(p:Addr) (ps:List Addr) (e:Addr->Bool),y= .ref p/\SqL K H p (ps.map V.ref)/\(∀b∈ps,Deq K H n (.ref b) x (e b))/\Q (.bl (if neg then !ps.any e else ps.any e)) H
def refB (e:Addr->Bool):Value->Bool
 | .ref b=>e b
 |_=>false
theorem q3I:∀{ps:List Addr} {us:List Value},Vals (ps.map V.ref) us->us=ps.map Value.ref
 |[],_,.nil=>rfl
 |p::ps,_,.cons r t=>by
  have r':=(show _=Value.ref p from r)
  rw[r',q3I t]
  rfl
theorem qaF (e:Addr->Bool)(ps:List Addr):(ps.map Value.ref).any (refB e)=ps.any e:=by
 rw[zcu]
 rfl
section
variable {X:Cx}
theorem q5T (K:W.Frag)(n:Nat)(hu:X.A.units+n+1<cLine)(hK:X.K=K:=by rfl):OpR X (compareOp .NotIn) (rInD K n true):=by
 subst hK
 intro pins s σ H x y v u Q I rx ry h
 obtain⟨p,ps,e,rfl,hq,hd,q⟩:=h
 cases ry
 obtain⟨its,r,pl,hz⟩:=I.list hq
 have ei:=q3I r
 subst ei
 refine SeqAt.notIn_listAt (refB e) pl.isList (fun w hw=>?_) ⟨.bl _,H,I,rfl,?_⟩
 ·obtain ⟨b,hb,rfl⟩:=zN.mp (show w∈ps.map Value.ref by simpa using hw)
  exact q7a I (hd b hb) (by first|omega|(show X.A.units+1+n<cLine;omega)) rfl rx
 ·rw [show(ps.map Value.ref).toArray.any (refB e)=(ps.map Value.ref).any (refB e) by simp,qaF]
  exact q
end
end L2
namespace DI
open PySem PyProof.Rows
section
variable {prog:Program}{w:World}{A:Around}{E:Value->Shared->Prop}{s:Shared}{d it v:Addr}{o:Obj}{es:Array DictEntry}{ep i:Nat}
theorem ty (ho:s.heap.get? d=some o)(hx:o.ExactDict):s.TypeIs (.ref d) "dict":=⟨o,ho,hx.1⟩
theorem keys {Q:Value->Shared->Prop}(hd:(d==sysModules)=false)(ho:s.heap.get? d=some o)(hx:o.ExactDict)(hdat:o.data= .dict es ep)
  (hQ:Q (.ref s.heap.objs.size) {s with heap:=s.heap.push {cls:= .type "dict_keyiterator",data:= .fields #[.ref d,.int 0 0,.int es.size 0,.int ep 0]}}):wpAny (model prog w) A (pyIter (.ref d)) Q E s:=by
 have hT:=ty ho hx
 refine wpAny_pyIter_slot hT F.slot_dict_iter (zaH F.slot_dict_iter hT F.entry_dict_iter ?_ (F.args_dict_iter_1 _))
 unfold Builtin.«dict.__iter__» Builtin.Dict.dictSlotNone Builtin.Dict.showsAll
 refine yD (yD (wpAny_notOrdered_dict hT (zg (yD ?_))))
 refine zg (yD ?_)
 dsimp only
 rw[zd (by intro z;rw[hd] at z;cases z)]
 refine zg (yD (zbD ho hdat (yD (zcz ho hdat ?_))))
 refine yD (zal (zg ⟨_,rfl,"dict_keyiterator",_,⟨_,zC _ rfl,rfl⟩,zaA.lookup,?_⟩))
 simpa[rawInt] using hQ
theorem qc8 {Q:Option Value->Shared->Prop}(hit:s.heap.IsKeyIter it d i es.size ep)(ho:s.heap.get? d=some o)(hdat:o.data= .dict es ep)(hi:i<es.size)
  (hQ:∀h',h'.IsKeyIter it d (i+1) es.size ep->Heap.SameBut it s.heap h'->Q (some es[i].key) {s with heap:=h'}):wpAny (model prog w) A (pyNext (.ref it)) Q E s:=by
 obtain⟨oi,hoi,hc,hf⟩:=id hit
 have hT:=hit.typeIs
 unfold pyNext
 refine yD (wpAny_attempt (zap (name:=Str.ofString "__next__") hT zaA (zaH zaA hT zbX ?_ (zbU _))))
 refine yD (zg (yD (yD ?_)))
 first|refine yD (zaO hT (zg (yD (zb2 hoi hf ?_))))|refine yD (za4 hT (zg (yD (zb2 hoi hf ?_))))
 simp only[show Builtin.Dict_items.ownsTuple "dict_keyiterator"=false by decide,Bool.false_eq_true,if_false]
 show wpAny _ _ (if (Value.ref d==Value.none)=true then _ else _) _ _ s
 rw[zd (by exact zp)]
 refine yD (zg (yD (zbD ho hdat ?_)))
 rw[zd (by simp)]
 refine yD (zg (yD (zcz ho hdat ?_)))
 rw[zd (by simp)]
 refine zg ?_
 simp only[show¬((i:Int)<0) by omega,if_false,Int.toNat_natCast,Array.getElem?_eq_getElem hi]
 refine yD ?_
 first|refine yD (zaO hT (zg (yD (zbN hT ?_))))|refine yD (za4 hT (zg (yD (zbN hT ?_))))
 show wpAny _ _ (setField (.ref it) 1 (rawInt ((i:Int)+1)) >>= _) _ _ s
 refine yD (zb1 hoi hf (by simp) ?_)
 have hit':(s.heap.update it (Obj.mapFields (·.setIfInBounds 1 (rawInt ((i:Int)+1))))).IsKeyIter it d (i+1) es.size ep:=
  ⟨_,zbL _ hoi (Obj.isFreed_of_fields (zby hf _)),(Obj.cls_mapFields ..).trans hc,by rw[zby hf];simp[rawInt]⟩
 refine yD (zaX (yD (zbN (s:={s with heap:=s.heap.update it (Obj.mapFields (·.setIfInBounds 1 (rawInt ((i:Int)+1))))}) hit'.typeIs ?_)))
 show wpAny _ _ (pure es[i].key) _ _ _
 exact zg (zg ⟨_,rfl,zg (hQ _ hit' (za8 ..))⟩)
theorem keyEnd {Q:Option Value->Shared->Prop}(hh:A.handled=none)(hit:s.heap.IsKeyIter it d i es.size ep)(ho:s.heap.get? d=some o)(hdat:o.data= .dict es ep)(hi:es.size<=i)
  (hQ:∀h',Heap.ExtBut it s.heap h'->Q none {s with heap:=h'}):wpAny (model prog w) A (pyNext (.ref it)) Q E s:=by
 obtain⟨oi,hoi,hc,hf⟩:=id hit
 have hT:=hit.typeIs
 unfold pyNext
 refine yD (wpAny_attempt (zap (name:=Str.ofString "__next__") hT zaA (zaH zaA hT zbX ?_ (zbU _))))
 refine yD (zg (yD (yD ?_)))
 first|refine yD (zaO hT (zg (yD (zb2 hoi hf ?_))))|refine yD (za4 hT (zg (yD (zb2 hoi hf ?_))))
 simp only[show Builtin.Dict_items.ownsTuple "dict_keyiterator"=false by decide,Bool.false_eq_true,if_false]
 show wpAny _ _ (if (Value.ref d==Value.none)=true then _ else _) _ _ s
 rw[zd (by exact zp)]
 refine yD (zg (yD (zbD ho hdat ?_)))
 rw[zd (by simp)]
 refine yD (zg (yD (zcz ho hdat ?_)))
 rw[zd (by simp)]
 refine zg ?_
 simp only[show¬((i:Int)<0) by omega,if_false,Int.toNat_natCast,Array.getElem?_eq_none hi]
 refine yD ?_
 first|refine yD (zaO hT (zg ?_))|refine yD (za4 hT (zg ?_))
 show wpAny _ _ (setField (.ref it) 0 .none >>= _) _ _ s
 refine yD (zb1 hoi hf (by simp) ?_)
 show wpAny _ _ (newExc (.type "StopIteration") [] >>= _) _ _ _
 refine yD ?_
 simp only[newExc,newTuple]
 refine yD (zal (yD (m:=firstArgMember _ _) (wpAny_of_eq (a:=Value.none) (by first|rfl|(simp only[firstArgMember];rfl)) (zal ?_ (by size_fits)))) (by size_fits))
 simp only[raiseNew]
 refine yD (wpAny_handled ?_)
 rw[show A.in1.handled=none from hh]
 refine yD (zg (wpAny_throw ?_))
 refine yD (wpAny_isInstance (b:=true) (T:="StopIteration") ⟨_,zC _ rfl,rfl⟩ isSubtype_stop ?_)
 exact zg (hQ _ (((za8 ..).extBut.push _).push _))
end
end DI
namespace L2
open PySem PySem.Spec PyProof.Rows
theorem Paired.at' {α β:Type}{F:α->β->Prop}:∀{l:List α} {m:List β} {i:Nat} {x:α} {y:β},Paired F l m->l[i]? =some x->m[i]? =some y->F x y
 |_,_,0,_,_,.cons r _,hx,hy=>by cases hx;cases hy;exact r
 |_,_,i+1,_,_,.cons _ t,hx,hy=>Paired.at' (i:=i) t hx hy
theorem q0w {k:Nat}{A:Around}(hr:Room k A):A.units+1<cLine:=by have:=hr.un;omega
section
variable {σ:St}{H:Hp}{Q:VK}{td ty tv:TE}{nx:St->Hp->Prop}{rt:V->Hp->Prop}{bk ct:St->Hp->Prop}
theorem r_dnew (q:∀p,H p=none->Q (.ref p) (upd H p (.dT []))):qaL σ H Q:=q
theorem r_dget (q:td σ H fun x H1=>ty σ H1 fun y H2=>∃a v,x= .ref a/\DGet H2 a y (some v)/\Q v H2):tDGet td ty σ H Q:=q
theorem r_din (q:ty σ H fun y H1=>td σ H1 fun x H2=>∃a o,x= .ref a/\DGet H2 a y o/\Q (.bl o.isSome) H2):tDIn ty td σ H Q:=q
theorem r_dnin (q:ty σ H fun y H1=>td σ H1 fun x H2=>∃a o,x= .ref a/\DGet H2 a y o/\Q (.bl (!o.isSome)) H2):q80 ty td σ H Q:=q
theorem r_dput (q:tv σ H fun v H1=>td σ H1 fun x H2=>ty σ H2 fun y H3=>∃a H4,x= .ref a/\DPut H3 a y v H4/\nx σ H4):sDPut td ty tv ⟨nx,rt,bk,ct⟩ σ H:=q
end
theorem qbp {c:TT}{tb:TS}{σ:St}{H:Hp}{nx:St->Hp->Prop}{rt:V->Hp->Prop}{bk ct:St->Hp->Prop}(W:Nat->St->Hp->Prop)(m:Nat)(h0:W m σ H)
  (go:∀m σ H,W m σ H->c σ H fun b H1=>if b=true then∃N:St->Hp->Prop,(∀σ' H',N σ' H'->∃m',m'<m/\W m' σ' H')/\tb ⟨N,rt,nx,N⟩ σ H1 else nx σ H1):qaJ c tb ⟨nx,rt,bk,ct⟩ σ H:=⟨W,⟨m,h0⟩,go⟩
end L2
namespace Ce
open L2 PySem PySem.Spec PyProof.Rows
def Sd.ns (s:Sd):List Int:=[s.rm,s.tk,s.op,s.b,s.wt]
def Sd.key (s:Sd):List Key:=[.inl s.rm,.inl s.tk,.inl s.op,.inl s.b,.inl s.wt]
theorem Sd.ns_inj {a b:Sd}(h:a.ns=b.ns):a=b:=by
 cases a;cases b;simp only[Sd.ns,List.cons.injEq,and_true] at h;obtain⟨h1,h2,h3,h4,h5⟩:=h;subst h1 h2 h3 h4 h5;rfl
theorem Sd.key_inj {a b:Sd}(h:a.key=b.key):a=b:=by
 cases a;cases b;simp only[Sd.key,List.cons.injEq,Sum.inl.injEq,and_true] at h;obtain⟨h1,h2,h3,h4,h5⟩:=h;subst h1 h2 h3 h4 h5;rfl
theorem Sd.vs_inj {a b:Sd}(h:a.vs=b.vs):a=b:=by
 cases a;cases b;simp only[Sd.vs,List.cons.injEq,V.int.injEq,and_true] at h;obtain⟨h1,h2,h3,h4,h5⟩:=h;subst h1 h2 h3 h4 h5;rfl
instance:DecidableEq Sd:=fun a b=>decidable_of_iff (a.ns=b.ns) ⟨Sd.ns_inj,fun h=>by rw[h]⟩
def SAt (H:Hp)(p:Addr)(s:Sd):Prop:=H p=some (.tup s.vs)
theorem SAt.mono {H H':Hp}(s:q0o H H'){p:Addr}{x:Sd}(h:SAt H p x):SAt H' p x:=s _ _ h
theorem SAt.put {H:Hp}{D:Addr}{xs:List V}{o:HO}(hD:H D=some (.lst xs)){p:Addr}{x:Sd}(h:SAt H p x):SAt (upd H D o) p x:=q0o.lst hD _ _ h
theorem deq_sd {K:W.Frag}{H:Hp}{a b:Addr}{s t:Sd}(ha:SAt H a s)(hb:SAt H b t):Deq K H 1 (.ref a) (.ref b) (decide (s=t)):=by
 by_cases e:a=b
 ·subst e
  have:s=t:=Sd.vs_inj (by have h:=ha.symm.trans hb;simpa using h)
  rw[ze this]
  exact .same a
 ·have h:=Deq.tup (K:=K) (n:=0) (e:=fun j=>eqV (s.vs.getD j .non) (t.vs.getD j .non)) e (SqT.of ha) (SqT.of hb) fun j h1 h2=> .flat (by
    have:j<5:=h1
    obtain rfl|rfl|rfl|rfl|rfl:j=0\/j=1\/j=2\/j=3\/j=4:=by omega
    all_goals rfl) (by
    have:j<5:=h1
    obtain rfl|rfl|rfl|rfl|rfl:j=0\/j=1\/j=2\/j=3\/j=4:=by omega
    all_goals rfl)
  have e2:((List.range (min s.vs.length t.vs.length)).all (fun j=>eqV (s.vs.getD j .non) (t.vs.getD j .non))&&s.vs.length==t.vs.length)=decide (s=t):=by
   have e3:decide (s=t)=(decide (s.rm=t.rm)&&(decide (s.tk=t.tk)&&(decide (s.op=t.op)&&(decide (s.b=t.b)&&decide (s.wt=t.wt))))):=by
    cases s;cases t;simp[Bool.decide_and]
   rw[e3]
   show((eqV (.int s.rm) (.int t.rm)&&(eqV (.int s.tk) (.int t.tk)&&(eqV (.int s.op) (.int t.op)&&(eqV (.int s.b) (.int t.b)&&(eqV (.int s.wt) (.int t.wt)&&true)))))&&true)=_
   simp[eqV]
   rfl
  rw[e2] at h
  exact h
def sdOf (H:Hp)(b:Addr):Option Sd:=match H b with
 |some (.tup [.int r,.int t,.int o,.int bb,.int w])=>some ⟨r,t,o,bb,w⟩
 |_=>none
theorem q8e {H:Hp}{b:Addr}{s:Sd}(h:SAt H b s):sdOf H b=some s:=by
 unfold sdOf
 rw[h]
 rfl
theorem qb8 {H:Hp}{s:Sd}:∀{ps:List Addr} {sts:List Sd},Rows SAt H ps sts->(ps.any fun b=>decide (sdOf H b=some s))=decide (s∈sts)
 |[],[],_=>by simp
 |[],_::_,h=>by simp[Rows] at h
 |_::_,[],h=>by simp[Rows] at h
 |p::ps,t::sts,h=>by
  have h1:SAt H p t:=h.2 0 p t rfl rfl
  have h2:Rows SAt H ps sts:=⟨by have:=h.1;simpa using this,fun i q x a b=>h.2 (i+1) q x a b⟩
  rw[zch,qb8 h2,q8e h1]
  by_cases e:t=s
  ·subst e;simp
  ·simp [e,show¬s=t from fun z=>e z.symm]
theorem Rows.mem {α:Type}{At:Hp->Addr->α->Prop}{H:Hp}{ps:List Addr}{xs:List α}(h:Rows At H ps xs){b:Addr}(hb:b∈ps):∃x∈xs,At H b x:=by
 obtain⟨i,hi,e⟩:=zaP hb
 have hj:i<xs.length:=by rw[<-h.1];exact hi
 exact⟨xs[i],zx hj,h.2 i b _ (by rw[yB hi,e]) (yB hj)⟩
theorem q6Z {K:W.Frag}{H:Hp}{Q:VK}{p q:Addr}{s:Sd}{sts:List Sd}(hl:qI SAt H p sts)(hq:SAt H q s)(k:Q (.bl (!decide (s∈sts))) H):rInD K 1 true (.ref q) (.ref p) H Q:=by
 obtain⟨ps,h1,h2⟩:=hl
 refine⟨p,ps,fun b=>decide (sdOf H b=some s),rfl,SqL.of h1,fun b hb=>?_,?_⟩
 ·obtain ⟨t,_,ht⟩:=Rows.mem h2 hb
  have:=deq_sd (K:=K) ht hq
  show Deq K H 1 (.ref b) (.ref q) (decide (sdOf H b=some s))
  rw[q8e ht]
  simpa using this
 ·rw [qb8 h2];exact k
abbrev Dk:=List (Sd×V)
def dkv (l:Dk):List (List Key×V):=l.map fun x=>(x.1.key,x.2)
def dat (l:Dk)(s:Sd):Option V:=(l.find? fun x=>decide (x.1=s)).map (·.2)
theorem q6z (s:Sd):∀l:Dk,valV (dkv l) s.key=dat l s
 |[]=>rfl
 |x::l=>by
  by_cases e:x.1=s
  ·rw [show dkv (x::l)=(x.1.key,x.2)::dkv l from rfl,q0E (by rw[e])]
   simp[dat,e]
  ·rw [show dkv (x::l)=(x.1.key,x.2)::dkv l from rfl,q0x (fun z=>e (Sd.key_inj z)),q6z s l]
   simp[dat,e]
theorem q4Z {l:Dk}{s:Sd}:dat l s=none↔s∉l.map (·.1):=by
 unfold dat
 rw[Option.map_eq_none_iff,List.find?_eq_none]
 simp only[decide_eq_true_eq,List.mem_map,not_exists,not_and]
theorem q2v {l:Dk}{s:Sd}:(dat l s).isSome=decide (s∈l.map (·.1)):=by
 cases e:dat l s with
 |none=>rw[zf (q4Z.mp e)];rfl
 |some v=>
  have:¬dat l s=none:=by rw[e];simp
  rw[ze (Classical.byContradiction fun z=>this (q4Z.mpr z))];rfl
theorem qcj {l:Dk}{s:Sd}{v:V}(h:s∉l.map (·.1)):putK (dkv l) s.key v=dkv (l++[(s,v)]):=by
 unfold putK
 rw[q2S,q6z,q4Z.mpr h,zd (by decide)]
 simp[dkv]
def DAtS (H:Hp)(a:Addr)(l:Dk):Prop:=H a=some (.dT (dkv l))
theorem q3s {H:Hp}{a b:Addr}{l:Dk}{s:Sd}(h:Rd H a (.dT (dkv l)))(hb:SAt H b s):DGet H a (.ref b) (dat l s):= .inr ⟨_,s.key,b,h,rfl,hb,(q6z s l).symm⟩
theorem q7c {H:Hp}{a b:Addr}{l:Dk}{s:Sd}{v:V}(h:DAtS H a l)(hb:SAt H b s)(hl:l.length<sizeLine)(hn:s∉l.map (·.1)):DPut H a (.ref b) v (upd H a (.dT (dkv (l++[(s,v)])))):=by
 have:=DPut.t (k:=s.key) (v:=v) h hb (by simpa[dkv] using hl)
 rwa [qcj hn] at this
inductive Rch {α:Type}(R:α->α->Prop)(a:α):α->Prop where
 |refl:Rch R a a
 |step {b c:α}:Rch R a b->R b c->Rch R a c
def Ord (l:List Sd):Prop:=l.Pairwise fun a b=>¬b.ns<a.ns
end Ce
namespace Ce
open L2 PySem PySem.Spec PyProof.Rows
structure Small (C:Cl):Prop where
 r:C.rooms<=5
 w:C.ways.length<=4
 t:C.things.length<=2
 l:C.levers.length<=1
 v:C.wheels.length<=1
def nx (C:Cl)(s:Sd):List Sd:=(fitD C s).map fun x=>q0N C s x.1 (x.2:Int)
def NxR (C:Cl)(s t:Sd):Prop:=t∈nx C s
def popc (n:Nat):Nat:=cnt (fun i=>n.testBit i) 4
def fits (d:Nat->Bool)(t o:Nat):Bool:=decide (popc o<=popc t)&&(List.range 4).all fun i=> !o.testBit i||d i
def num (d:Nat->Bool)(o:Nat):Nat:=cnt (fun i=> !d i||o.testBit i) 4
def prs (d:Nat->Bool):List (Nat×Nat):=((List.range 4).flatMap fun t=>(List.range 16).map fun o=>(t,o)).filter fun x=>fits d x.1 x.2
def mk4 (d0 d1 d2 d3:Bool)(i:Nat):Bool:=match i with|0=>d0|1=>d1|2=>d2|_=>d3
theorem qbz:∀d0 d1 d2 d3:Bool,((prs (mk4 d0 d1 d2 d3)).map fun x=>4*min 5 (1+2*num (mk4 d0 d1 d2 d3) x.2)).sum<=288:=by walk_at "k"
def ends (C:Cl)(i:Nat):List Int:=match C.ways[i]? with|some x=>[x.a,x.b]|none=>[0,0]
def dI (C:Cl):Nat->Bool:=mk4 (dsOf C 0).isSome (dsOf C 1).isSome (dsOf C 2).isSome (dsOf C 3).isSome
def rms (C:Cl)(s0:Sd)(o:Nat):List Int:=if 1+2*num (dI C) o<=5 then s0.rm::(List.range 4).flatMap fun i=>if (!dI C i||o.testBit i)=true then ends C i else [] else(List.range 5).map fun n:Nat=>(n:Int)
theorem qay (C:Cl)(i:Nat):(ends C i).length=2:=by unfold ends;split<;>rfl
theorem qbo (C:Cl)(s0:Sd)(o:Nat):(rms C s0 o).length=min 5 (1+2*num (dI C) o):=by
 unfold rms
 split
 ·rename_i h
  have e:((List.range 4).flatMap fun i=>if (!dI C i||o.testBit i)=true then ends C i else []).length=2*num (dI C) o:=by
   have:∀n,((List.range n).flatMap fun i=>if (!dI C i||o.testBit i)=true then ends C i else []).length=2*cnt (fun i=> !dI C i||o.testBit i) n:=fun n=>by
    induction n with
    |zero=>rfl
    |succ n ih=>
     rw[List.range_succ,List.flatMap_append,zk,ih]
     show _=2*(cnt _ n+_)
     simp only[List.flatMap_cons,List.flatMap_nil,List.append_nil]
     split
     ·rw [qay];omega
     ·simp
   exact this 4
  rw[zaf,e]
  omega
 ·rename_i h
  simp
  omega
def bs2 (C:Cl)(s0:Sd):List Int:=[s0.b,Builtin.bitXor s0.b (C.levers.getD 0 (0,0)).2]
def ws2 (C:Cl)(s0:Sd):List Int:=[s0.wt,(C.wheels.getD 0 (0,0)).2]
def uni (C:Cl)(s0:Sd):List Sd:=(prs (dI C)).flatMap fun x=>(rms C s0 x.2).flatMap fun r=>(bs2 C s0).flatMap fun b=>(ws2 C s0).map fun w=>(⟨r,(x.1:Int),(x.2:Int),b,w⟩:Sd)
theorem qbf (C:Cl)(s0:Sd):(uni C s0).length<=288:=by
 refine zab (Nat.le_of_eq ?_) (qbz (dsOf C 0).isSome (dsOf C 1).isSome (dsOf C 2).isSome (dsOf C 3).isSome)
 unfold uni
 rw[List.length_flatMap]
 congr 1
 refine zaj fun x _=>?_
 rw[List.length_flatMap]
 have:∀l:List Int,(l.map fun r=>((bs2 C s0).flatMap fun b=>(ws2 C s0).map fun w=>(⟨r,(x.1:Int),(x.2:Int),b,w⟩:Sd)).length).sum=4*l.length:=fun l=>by
  induction l with
  |nil=>rfl
  |cons r l ih=>
   rw[z8,List.sum_cons,ih,zaf]
   simp[bs2,ws2]
   omega
 rw[this,qbo]
 rfl
structure Bnd (C:Cl)(s0 s:Sd):Prop where
 ok:s.ok C
 rm:s.rm=s0.rm\/∃(i:Nat) (x:Way),C.ways[i]? =some x/\((dsOf C i).isSome=false\/bit s.op i=true)/\(s.rm=x.a\/s.rm=x.b)
 b:s.b∈bs2 C s0
 wt:s.wt∈ws2 C s0
theorem q6N:∀{l m:List Sd},l.Nodup->(∀x∈l,x∈m)->l.length<=m.length
 |[],_,_,_=>zan _
 |x::l,m,hn,h=>by
  rw[zbt] at hn
  have hx:=h x (.head _)
  have:=q6N (m:=m.erase x) hn.2 fun y hy=>(List.mem_erase_of_ne fun e=>hn.1 (by rw[<-e];exact hy)).mpr (h y (zX _ hy))
  rw[List.length_erase_of_mem hx] at this
  have:0<m.length:=List.length_pos_of_mem hx
  rw[zaf]
  omega
end Ce
namespace L2
open PySem PySem.Spec PyProof.Rows PySem.W
theorem Inv.dictAt {X:Cx}{pins:List (Addr×Obj)}{σ:St}{H:Hp}{s:Shared}{a:Addr}{kvs:List (List Key×V)}(I:Inv X pins σ H s)(e:H a=some (.dT kvs)):∃(o:Obj) (es:Array DictEntry) (ep:Nat) (bs:List Addr),s.heap.get? a=some o/\o.ExactDict/\o.data= .dict es ep/\(a==sysModules)=false/\kvs.length<=sizeLine/\
  es.toList.map (·.key)=bs.map Value.ref/\bs.length=kvs.length/\∀(i:Nat) (b:Addr) (p:List Key×V),bs[i]? =some b->kvs[i]? =some p->H b=some (.tup (p.1.map kV)):=by
 obtain⟨z,y,xs,r,o,es,ep,h1,h2,h3,h4,h5⟩:=(show q0I X.prog X.w H s.heap a (.dT kvs) from I.hok a _ e)
 have hl:kvs.length=xs.length:=r.length
 refine⟨o,es,ep,xs.map fun x=>x.2.1,h1,h2,h3,y,z,?_,by rw[yC,hl],fun i b p hb hp=>?_⟩
 ·refine zbi fun i=>?_
  rw[zT,zaV,zT,zT,entry_at h4 i]
  cases xs[i]? with
  |none=>rfl
  |some x=>rfl
 ·rw [zT] at hb
  cases hx:xs[i]? with
  |none=>rw[hx] at hb;cases hb
  |some x=>
   rw[hx] at hb
   cases hb
   exact(Paired.at' r hp hx).2.1
def tDisp1 (tk tv:TE):TE:=fun σ H Q=>∀p,H p=none->tk σ (upd H p (.dT [])) fun x H1=>tv σ H1 fun y H2=>∃(b:Addr) (k:List Key),x= .ref b/\H2 p=some (.dT [])/\H2 b=some (.tup (k.map kV))/\Q (.ref p) (upd H2 p (.dT [(k,y)]))
theorem q9S {X:Cx}{pos:Pos}{k v:Expr}{tk tv:TE}(hu:X.A.units+1<cLine)(hk:PE X k tk)(hv:PE X v tv):PE X (.Dict [some k] [v] pos) (tDisp1 tk tv):=by
 intro pins s σ H Q I q
 have hn:=I.hok.fresh (zc s.heap.objs.size)
 have I1:=I.laid (a:=s.heap.objs.size) (o:= .dT []) (h':=s.heap.push {cls:= .type "dict",data:= .dict #[]}) (t':=s.toks) (fun _ _ q=>zo _ q) (zc _) (q7b s.heap I.big)
 have pp:=q9L (pos:=pos) hk hv qbA pins _ σ _ (fun ps H2=>match ps with|[(x,y)]=>∃(b:Addr) (k:List Key),x= .ref b/\H2 s.heap.objs.size=some (.dT [])/\H2 b=some (.tup (k.map kV))/\Q (.ref s.heap.objs.size) (upd H2 s.heap.objs.size (.dT [(k,y)]))|_=>False) I1 (q _ hn)
 rw[arm_eval_Dict,zip_pairTrees [some k] [v] X.env pos rfl rfl,dictDisplay_pairs _ (by intro z;cases z) (by show 1<17;decide)]
 refine yD (wpAny_standAt (yD ?_))
 unfold subDict
 refine yD (wpAny_alloc ?_)
 refine yD (zaX ?_)
 rw[zj (by show 1<=15;decide)]
 refine yD (zak pp (fun ws s2 z=>?_) fun _ _ e=>e)
 obtain⟨ps,H2,I2,rel,z⟩:=z
 cases rel with
 |nil=>exact z.elim
 | @cons p0 q0 _ _ r1 rel=>
 cases rel with
 |cons _ _=>exact z.elim
 |nil=>
  obtain⟨x,y⟩:=p0
  obtain⟨w1,w2⟩:=q0
  obtain⟨b,k,rfl,e,eb,q2⟩:=z
  obtain⟨ra,rb⟩:=r1
  cases(show w1=Value.ref b from ra)
  refine zaX ?_
  rw[List.forIn_cons]
  obtain⟨z,hd,xs,rel,dd⟩:=dt_of I2.hok e
  have hx:xs=[]:=by cases rel;rfl
  subst hx
  refine yD (yD (yD (wpAny_dictSet_heap (hsz:=zan _) (show X.A.units<cLine from zbj hu) (q49 I2.hok eb) dd fun h' dd' hs=>zg ?_)))
  dsimp only
  rw[List.forIn_nil]
  refine zg (zg (zg (zg ⟨.ref s.heap.objs.size,_,?_,rfl,q2⟩)))
  obtain⟨qo,es,ep,hq,h2,h3,h4,_,h5⟩:=dd'
  refine q6D I2 (by rw[e];exact True.intro) hs ⟨qo,hq⟩ ⟨by show 1<=sizeLine;decide,hd,_,((show KT H2 [] [] from .nil).put k eb rb).keeps fun c ys ec=>?_,qo,es,ep,hq,h2,h3,h4,h5⟩
  rw[qw (q4V ec e (fun z=>nomatch z))]
  exact ec
end L2
namespace L2
open PySem PySem.Spec PyProof.Rows
end L2
namespace L2
open PySem PySem.Spec PyProof.Rows
end L2
namespace L2
open PySem PySem.Spec PyProof.Rows
end L2
namespace L2
open PySem PySem.Spec PyProof.Rows
end L2
namespace L2
open PySem PySem.Spec PyProof.Rows
end L2
namespace L2
open PySem PySem.Spec PyProof.Rows
section
variable {κ:Type}[DecidableEq κ]
theorem RelO.getD {o:Option V}{u:Option Value}{d:V}{d':Value}(r:RelO o u)(rd:RelV d d'):RelV (o.getD d) (u.getD d'):=by
 cases o with
 |none=>cases u with
  |none=>exact rd
  |some _=>exact(show False from r).elim
 |some _=>cases u with
  |none=>exact(show False from r).elim
  |some _=>exact r
end
structure M1 (X:Cx)(o:Expr)(m:Str)(apos:Pos)(e:Expr)(cpos:Pos):Prop where
 base:attributeBase o m X.env (eval o X.env)=eval o X.env
 few:((backTo cpos (starEach [e] X.env)).all (fun x=> !x.1)&&(backToKw cpos (keywordEach [] X.env)).all (fun x=>x.1.isSome)
  &&decide (([e]:List Expr).length+([]:List Keyword).length+(if ([]:List Keyword).isEmpty then 0 else 1)<30))=true
 line:(apos.endLine==cpos.line)=true
 trees:backTo cpos (starEach [e] X.env)=[(false,eval e X.env)]
def IsD (H:Hp)(a:Addr):Prop:=(∃kvs,Rd H a (.dK kvs))\/∃kvs,Rd H a (.dT kvs)
theorem isD_at {X:Cx}{pins:List (Addr×Obj)}{σ:St}{H:Hp}{s:Shared}{a:Addr}(I:Inv X pins σ H s)(d:IsD H a):
  s.TypeIs (.ref a) "dict"/\(∀b,Value.ref a= .ref b->∃ob,s.heap.get? b=some ob/\ob.dict=none)/\(a==sysModules)=false:=by
 rcases d with⟨kvs,e⟩|⟨kvs,e⟩
 ·obtain ⟨_,hd,vs,_,dd⟩:=q6A I.hok e
  refine⟨dd.typeIs,fun b q=>?_,hd⟩
  cases q
  obtain⟨ob,_,_,h1,h2,_⟩:=dd
  exact⟨ob,h1,h2.2.1⟩
 ·obtain ⟨_,hd,xs,_,dd⟩:=q6y I.hok e
  refine⟨dd.typeIs,fun b q=>?_,hd⟩
  cases q
  obtain⟨ob,_,_,h1,h2,_⟩:=dd
  exact⟨ob,h1,h2.2.1⟩
end L2
namespace Att
open PySem PySem.W PySem.Calls PyProof.Rows
end Att
namespace L2
open PySem PySem.Spec PyProof.Rows
end L2
namespace L2
open PySem PySem.Spec PyProof.Rows
theorem q54 (bs:List Bool):((List.range bs.length).any fun i=>bs.getD i true)=bs.any id:=by
 rw[zY]
 simp only[List.any_eq_true,List.mem_range,id]
 constructor
 ·rintro ⟨i,hi,h⟩
  exact⟨bs[i],zx hi,by simpa[List.getD,hi] using h⟩
 ·rintro ⟨x,hx,h⟩
  obtain⟨i,hi,rfl⟩:=zbo.mp hx
  exact⟨i,hi,by simpa[List.getD,hi] using h⟩
def rAny (K:W.Frag):List V->Hp->VK->Prop:=fun xs H Q=>∃(p:Addr) (bs:List Bool),xs=[.ref p]/\SqL K H p (bs.map V.bl)/\Q (.bl (bs.any id)) H
theorem anyK {X:Cx}(K:W.Frag)(hc:X.calm=true:=by rfl)(hK:X.K=K:=by rfl):q17 X (.builtin "any") (rAny K):=by
 subst hK
 intro pins s σ H xs us Q I r h
 obtain⟨p,bs,rfl,hq,q⟩:=h
 obtain⟨u,rfl,rx⟩:=q2K r
 cases rx
 obtain⟨its,rv,pl,hz⟩:=I.list hq
 have hits:=q6L rv
 have hl:=pl.isList
 have hlt:p<s.heap.objs.size:=by obtain⟨o,e,_⟩:=hl;exact zt e
 have hh:X.A.in1.handled=none:=I.ok.hd hc
 refine call_any_walk (zck hl ?_)
 refine⟨s.heap.objs.size,_,_,_,_,_,fun i=>bs.getD i true,rfl,Walks.list hh s.heap.objs.size p (zB hlt) its.toArray,⟨⟨_,zC _ rfl,rfl,rfl⟩,hl.push _⟩,?_,fun h' tk hk=>?_⟩
 ·intro i v s' Q' E' hv hQ
  have e:v= .bool (bs.getD i true):=by
   have hv':its[i]? =some v:=by simpa using hv
   rw[hits,zT] at hv'
   cases e:bs[i]? with
   |none=>rw[e] at hv';cases hv'
   |some b=>rw[e] at hv';simp[List.getD,e];exact(zD hv').symm
  subst e
  first
   |exact zg hQ
   |exact hQ
 ·have e:its.toArray.size=bs.length:=by rw[hits];simp
  have I1:Inv X pins σ H {s with heap:=s.heap.push {cls:= .type "list_iterator",data:= .fields #[.ref p,.int 0 0]}}:=I.kept (t':=s.toks) fun b o e=>zo _ e
  have f:∀b∈[s.heap.objs.size],FpOk X pins H b:=fun b hb=>by rw[zu.mp hb];exact I.fpOk (zc _) (I.hok.fresh (zc _))
  refine⟨.bl (bs.any id),H,I1.turnedL (t':=tk) (ch:=[s.heap.objs.size]) f fun b o hb e=>hk b o hb e,?_,q⟩
  show Value.bool _=Value.bool _
  rw[e,q54]
end L2
namespace L2
open PySem PySem.Spec PyProof.Rows PySem.W
end L2
namespace L2
open PySem PySem.Spec PyProof.Rows
end L2
namespace L2
open PySem PySem.Spec PyProof.Rows
end L2
namespace L2
open PySem PySem.Spec PyProof.Rows
end L2
namespace L2
open PySem PySem.Spec PyProof.Rows
end L2
namespace L2
open PySem PySem.Spec PyProof.Rows
end L2
namespace L2
open PySem PySem.Spec PyProof.Rows
structure M2 (X:Cx)(o:Expr)(m:Str)(apos:Pos)(e f:Expr)(cpos:Pos):Prop where
 base:attributeBase o m X.env (eval o X.env)=eval o X.env
 few:((backTo cpos (starEach [e,f] X.env)).all (fun x=> !x.1)&&(backToKw cpos (keywordEach [] X.env)).all (fun x=>x.1.isSome)
  &&decide (([e,f]:List Expr).length+([]:List Keyword).length+(if ([]:List Keyword).isEmpty then 0 else 1)<30))=true
 line:(apos.endLine==cpos.line)=true
 trees:backTo cpos (starEach [e,f] X.env)=[(false,eval e X.env),(false,eval f X.env)]
section
variable {X:Cx}{pins:List (Addr×Obj)}{σ:St}{H:Hp}{s:Shared}{a:Addr}{y d:V}{u r:Value}{o:Option V}{A:Around}{E:Value->Shared->Prop}
theorem d_get2 {Q:Value->Shared->Prop}(hu:A.units+1<cLine)(I:Inv X pins σ H s)(g:DGet H a y o)(ry:RelV y u)(rd:RelV d r)(h:∀w' s',Inv X pins σ H s'->RelV (o.getD d) w'->Q w' s'):
  wpAny (model X.prog X.w) A (call (.builtin "dict.get") [.ref a,u,r]) Q E s:=by
 rcases g with⟨kvs,k,e,ey,l⟩|⟨kvs,k,b,e,ey,eb,l⟩
 ·subst ey
  obtain⟨z,hd,vs,rel,dd⟩:=q6A I.hok e
  refine call_meetsIn zbO dd.typeIs PySem.F.entry_dict_get (PySem.F.args_dict_get_3 _ _ _) (meets_dict_get_default (q0G X.prog X.w) a (q7M ry) hd r) ⟨_,dd.mapOf,h _ _ (I.tok _) ?_⟩
  rw[l]
  exact(rel.val k).getD rd
 ·subst ey
  cases(show u=Value.ref b from ry)
  obtain⟨z,hd,xs,rel,dd⟩:=q6y I.hok e
  refine call_meetsIn zbO dd.typeIs PySem.F.entry_dict_get (PySem.F.args_dict_get_3 _ _ _) (meetsH_dict_get_default (tupleKind (q0G X.prog X.w)) a b hd r) ⟨tupleKind_room_in1 hu,k,xs,q49 I.hok eb,dd,h _ _ (I.tok _) ?_⟩
  rw[l]
  exact(rel.val k).getD rd
end
def qaM (td ty tx:TE):TE:=fun σ H Q=>td σ H fun x H1=>∃a,x= .ref a/\IsD H1 a/\ty σ H1 fun y H2=>tx σ H2 fun z H3=>∃o,DGet H3 a y o/\Q (o.getD z) H3
section
variable {X:Cx}{o e f:Expr}{apos cpos:Pos}{td ty tx:TE}
theorem q71 (hu:X.A.units+1<cLine)(ho:PE X o td)(he:PE X e ty)(hf:PE X f tx)(m:M2 X o "get" apos e f cpos):PE X (.Call (.Attribute o "get" apos) [e,f] [] cpos) (qaM td ty tx):=by
 intro pins s σ H Q I h
 refine wpAny_Call_method m.base m.few m.line PySem.F.plainAttrs_dict zbO PySem.F.type_dict_get (thn (ho pins s σ H _ I h) fun u s1 ⟨x,H1,I1,rx,a,ex,d,q1⟩=>?_)
 subst ex
 obtain rfl:u=Value.ref a:=rx
 obtain⟨t1,t2,_⟩:=isD_at I1 d
 refine⟨t1,t2,?_⟩
 rw[m.trees]
 refine zbH rfl (Calls.evalArgs_plain (zb8 (thn (he pins s1 σ H1 _ I1 q1) fun iv s2 ⟨y,H2,I2,ry,q2⟩=>
  zb8 (thn (hf pins s2 σ H2 _ I2 q2) fun fv s3 ⟨z,H3,I3,rz,ov,g,q3⟩=>Calls.spliced_nil ?_))))
 exact d_get2 hu I3 g ry rz fun w' s4 I4 rw'=>⟨_,H3,I4,rw',q3⟩
end
end L2
namespace Att
open PySem PySem.W PySem.Calls PyProof.Rows
end Att
namespace L2
open PySem PySem.Spec PyProof.Rows
end L2
namespace L2
open PySem PySem.Spec PyProof.Rows
section
variable {σ:St}{H:Hp}{Q:VK}{td ty tx:TE}{nx bk ct:St->Hp->Prop}{rt:VK}
theorem r_dgm2 (q:td σ H fun x H1=>∃a,x= .ref a/\IsD H1 a/\ty σ H1 fun y H2=>tx σ H2 fun z H3=>∃o,DGet H3 a y o/\Q (o.getD z) H3):qaM td ty tx σ H Q:=q
theorem r_cont (q:ct σ H):tCont ⟨nx,rt,bk,ct⟩ σ H:=q
end
end L2
namespace DI
open PySem PySem.W PyProof.Rows
theorem src {prog:Program}{w:World}{d:Addr}{o:Obj}{es:Array DictEntry}{ep:Nat}(hd:(d==sysModules)=false)(hx:o.ExactDict)(hdat:o.data= .dict es ep):KdlSrc prog w "dict" d d es.size (fun i v=>∃h:i<es.size,v=es[i].key) (fun h=>h.get? d=some o) where
 type:=fun s ho=>ty ho hx
 there:=fun _ ho=>⟨zt ho,zt ho⟩
 keep:=fun _ _ ho k=>k d (.inl rfl) o ho
 notList:=by decide
 notTuple:=by decide
 hint:=fun _ _ _ _ ho hq=>kdl_hint_dict (ty ho hx) hq
 iter:=fun A s hh ho=>by
  refine⟨_,fun i h=>h.IsKeyIter s.heap.objs.size d i es.size ep/\h.get? d=some o,(fun _ _ hq=>keys hd ho hx hdat hq),⟨?_,?_,?_,?_,?_⟩,⟨_,zC _ rfl,rfl,rfl⟩,zo _ ho⟩
  ·intro b hb
   exact zU.mpr (.inl (zu.mp hb))
  ·intro i h h' ⟨st,e⟩ k
   exact⟨st.at fun o e=>k _ (by simp) o e,k d (by simp) o e⟩
  ·intro i s' Q E hi ⟨st,e⟩ hQ
   refine qc8 st e hdat hi fun h' st' sb=>?_
   have ne:d≠s.heap.objs.size:=zB (zt ho)
   exact hQ _ h' s'.toks ⟨hi,rfl⟩ ⟨st',(sb.2 d ne).trans e⟩ fun b o hb q=>(sb.2 b fun z=>hb (by simp[z])).trans q
  ·intro s' Q E ⟨st,e⟩ hQ
   exact keyEnd hh st e hdat (zc _) fun h' eb=>hQ h' s'.toks fun b o hb q=>eb b o (fun z=>hb (by simp[z])) q
  ·intro i s' Q E ⟨st,e⟩ hQ
   exact wpAny_pyIter_keyiter st hQ
end DI
namespace L2
open PySem PySem.Spec PyProof.Rows PySem.W
def rLstD:List V->Hp->VK->Prop:=fun xs H Q=>∃(a:Addr) (kvs:List (List Key×V)),xs=[.ref a]/\H a=some (.dT kvs)/\
 ∀(q:Addr) (bs:List Addr),H q=none->bs.length=kvs.length->(∀(i:Nat) (b:Addr) (p:List Key×V),bs[i]? =some b->kvs[i]? =some p->H b=some (.tup (p.1.map kV)))->Q (.ref q) (upd H q (.lst (bs.map V.ref)))
theorem lstD {X:Cx}(hc:X.calm=true:=by rfl):q17 X (.type "list") rLstD:=by
 intro pins s σ H xs us Q I r h
 obtain⟨a,kvs,rfl,ha,q⟩:=h
 obtain⟨u,rfl,rx⟩:=q2K r
 cases rx
 obtain⟨o,es,ep,bs,ho,hx,hd,hs,hz,hes,hbl,hb⟩:=I.dictAt ha
 have hsz:es.size=kvs.length:=by
  have:=zM List.length hes
  rw[yC,yC,zE] at this
  omega
 refine kdl_call (DI.src hs hx hd) (I.ok.hd hc) ho (by omega) fun h' tk acc c hk hD hI=>?_
 have eacc:acc.toList=bs.map Value.ref:=by
  rw[<-hes]
  refine zbi fun j=>?_
  rw[zaV,zT,zaV]
  by_cases hj:j<es.size
  ·have hj':j<acc.size:=by rw[hI.1];exact hj
   obtain⟨_,e⟩:=hI.2 j _ (zbu hj')
   rw[zbu hj',zbu hj,e]
   rfl
  ·rw [Array.getElem?_eq_none (by rw[hI.1];omega),Array.getElem?_eq_none (by omega)]
   rfl
 have rv:∀bs:List Addr,Vals (bs.map V.ref) (bs.map Value.ref):=fun bs=>by
  induction bs with
  |nil=>exact .nil
  |cons b bs ih=>exact .cons rfl ih
 refine⟨.ref s.heap.objs.size,_,I.laid (t':=tk) hk (zc _) (show q0I X.prog X.w _ h' _ (.lst (bs.map V.ref)) from⟨by rw[yC];omega,acc.toList,c,by rw[eacc];exact rv bs,by rw[Array.toArray_toList];exact hD⟩),rfl,q _ bs (I.hok.fresh (zc _)) hbl hb⟩
section
variable {prog:Program}{w:World}{A:Around}{E:Value->Shared->Prop}{s:Shared}
theorem q7G {d:Addr}{o:Obj}{es:Array DictEntry}{ep:Nat}(hd:(d==sysModules)=false)(hdat:o.data= .dict es ep):
  MeetsIn prog w (Builtin.«dict.__len__» ⟨[.ref d],[]⟩) (fun _ R s=>s.heap.get? d=some o/\R (.ok (.ret (.int es.size s.toks))) {s with toks:=s.toks+1}):=
 .of_wp fun A R s ⟨ho,h⟩=>by
  show wpAny _ _ (dictSize d >>= _) _ _ s
  unfold dictSize
  refine yD (yD (zbD ho hdat (zg ?_)))
  show wpAny _ _ (Builtin.Dict.pendingCount d >>= _) _ _ s
  refine yD (wpAny_pendingCount_other hd ?_)
  refine wpAny_ret_mkInt ?_
  rw[zcv]
  exact h
theorem q7P {d:Addr}{o:Obj}{es:Array DictEntry}{ep:Nat}{Q:Value->Shared->Prop}(hd:(d==sysModules)=false)(ho:s.heap.get? d=some o)(hx:o.ExactDict)(hdat:o.data= .dict es ep)(hfit:(es.size:Int)<2 ^ 63)
  (h:Q (.int es.size (s.toks+1)) {s with toks:=s.toks+1+1}):wpAny (model prog w) A (call (.builtin "len") [.ref d]) Q E s:=by
 refine zcp kind_len plain_len entry_len (args_len1 _) ?_
 unfold Builtin.«len»
 refine yD (m:=oneArg "len" _) (zg ?_)
 refine yD (m:=callSpecial? (.ref d) (Str.ofString "__len__")) (zap (name:=Str.ofString "__len__") (DI.ty ho hx) F.slot_dict_len
  (call_meetsIn F.slot_dict_len (DI.ty ho hx) F.entry_dict_len (F.args_dict_len_1 _) (q7G hd hdat) ⟨ho,?_⟩))
 show wpAny _ _ _ _ _ {s with toks:=s.toks+1}
 refine yD (zaX (zg ?_))
 refine yD (wpAny_letGo ?_)
 show wpAny _ _ (if ((es.size:Nat):Int)<0 then _ else _) _ _ _
 rw[zd (by omega)]
 show wpAny _ _ (if ((es.size:Nat):Int)≥2 ^ 63 then _ else _) _ _ _
 rw[zd (by omega)]
 exact yD (wpAny_mkInt (zg ⟨_,rfl,h⟩))
end
def rLenT:List V->Hp->VK->Prop:=fun xs H Q=>∃(a:Addr) (kvs:List (List Key×V)),xs=[.ref a]/\H a=some (.dT kvs)/\Q (.int kvs.length) H
theorem lenT {X:Cx}:q17 X (.builtin "len") rLenT:=by
 intro pins s σ H xs us Q I r h
 obtain⟨a,kvs,rfl,ha,q⟩:=h
 obtain⟨u,rfl,rx⟩:=q2K r
 cases rx
 obtain⟨o,es,ep,bs,ho,hx,hd,hs,hz,hes,hbl,hb⟩:=I.dictAt ha
 have hsz:es.size=kvs.length:=by
  have:=zM List.length hes
  rw[yC,yC,zE] at this
  omega
 refine q7P hs ho hx hd (by rw[hsz];rw[sizeLine_eq] at hz;omega) ⟨.int kvs.length,H,(I.tok _).tok _,⟨s.toks+1,?_⟩,q⟩
 rw[hsz]
end L2
namespace PySem
section
variable {prog:Program}{w:World}{A:Around}{E:Value->Shared->Prop}{s:Shared}{l:Addr}{xs:Array (Int×Tok)}
theorem q5V {Q:Value->Shared->Prop}(hh:A.handled=none)(hl:s.heap.IsTuple l (intItems xs))(hne:0<xs.size)
  (h:∀v h' tk,(intItems xs)[argBest (fun i j=>decide (numAt xs i<numAt xs j)) (xs.size - 1)]? =some v->(∀b o,s.heap.get? b=some o->h'.get? b=some o)->Q v {s with heap:=h',toks:=tk}):
  wpAny (model prog w) A (call (.builtin "min") [.ref l]) Q E s:=by
 have hlt:l<s.heap.objs.size:=by obtain⟨_,e,_⟩:=hl;exact zt e
 refine call_min_walk (zbd hl ?_)
 refine⟨_,[_,l],[_],_,_,_,_,rfl,Walks.tuple (A:=A.in1) hh _ l (zB hlt) (intItems xs),⟨⟨_,zC _ rfl,rfl,rfl⟩,hl.push _⟩,fun c hc=>?_,by simpa[intItems] using hne,CmpOf.ints_lt (numAt xs) (fun _ _=>intItems_at),fun v h' tk hP hk=>?_⟩
 ·show c<(s.heap.push _).objs.size
  rw[zbk]
  rcases zU.mp hc with rfl|hc
  ·exact zbm _
  ·rcases zU.mp hc with rfl|hc
   ·exact zbh hlt
   ·cases hc
 ·refine h v h' tk (by simpa[intItems] using hP) fun b o e=>hk b o (fun hm=>?_) (zo _ e)
  rcases zU.mp hm with e1|hm
  ·exact absurd (e1▸zt e) (zaW _)
  ·cases hm
end
end PySem
namespace L2
open PySem PySem.Spec PyProof.Rows
def rMinT (K:W.Frag):List V->Hp->VK->Prop:=fun xs H Q=>∃(p:Addr) (ns:List Int),xs=[.ref p]/\SqT K H p (ns.map V.int)/\0<ns.length/\∀M,M∈ns->(∀a,a∈ns->M<=a)->Q (.int M) H
theorem minTK {X:Cx}(K:W.Frag)(hc:X.calm=true)(hK:X.K=K:=by rfl):q17 X (.builtin "min") (rMinT K):=by
 subst hK
 intro pins s σ H xs us Q I r h
 obtain⟨p,ns,rfl,hq,hne,q⟩:=h
 obtain⟨u,rfl,rx⟩:=q2K r
 cases rx
 obtain⟨its,rv,pl,hz⟩:=I.tuple hq
 have hi:=q2t rv
 have hl:s.heap.IsTuple p its.toArray:=pl
 obtain⟨ys,e⟩:=hi.allInts.items
 have hns:ns=ys.toList.map (·.1):=by rw[<-hi.numsOf,<-nums_intItems,<-e]
 have hsz:0<ys.size:=by
  have h3:=hne
  rw[hns,yC,zE] at h3
  exact h3
 rw[e] at hl
 refine q5V (I.ok.hd hc) hl hsz fun v h' tk hv hk=>?_
 obtain⟨t,rfl⟩:=intItems_at hv
 obtain⟨h1,h2⟩:=argBest_lt (numAt ys) (ys.size - 1)
 refine⟨.int _,H,I.kept (t':=tk) hk,⟨_,rfl⟩,q _ ?_ fun a ha=>?_⟩
 ·rw [hns,numAt_eq]
  exact getD_mem (by rw[yC,zE];omega)
 ·rw [hns] at ha
  obtain⟨j,hj,rfl⟩:=mem_getD ha
  rw[yC,zE] at hj
  rw[<-numAt_eq]
  exact h2 j (by omega)
def rEqTN (K:W.Frag):R2:=fun x y H Q=>qby K x y H Q\/∃p xs,x= .ref p/\y= .non/\SqT K H p xs/\Q (.bl false) H
theorem q8t {X:Cx}(K:W.Frag)(hu:X.A.units<cLine)(hK:X.K=K:=by rfl):OpR X (compareOp .Eq) (rEqTN K):=by
 subst hK
 intro pins s σ H x y v u Q I rx ry h
 rcases h with h|⟨p,xs,rfl,rfl,hp,q⟩
 ·exact (qb2 hu) pins s σ H x y v u Q I rx ry h
 ·cases rx
  cases ry
  obtain⟨ia,ra,pa,_⟩:=I.tuple hp
  exact SeqAt.RcAt.tuple_none (show s.heap.IsTuple p ia.toArray from pa) hu _ _ _ _ ⟨.bl false,H,I,rfl,q⟩
end L2
namespace Srt
open PySem PySem.W PyProof.Rows
variable {O:KeyOrd}{key:Nat->O.α}{n:Nat}
end Srt
namespace Srt
open PySem PySem.W PyProof.Rows
def LO:KeyOrd where
 α:=List Int
 blt a b:=decide (a<b)
 irrefl a:=zf (List.lt_irrefl a)
 trans a b c h1 h2:=ze (List.lt_trans (zaN h1) (zaN h2))
 negTrans a b c h:=by
  have h:=zaN h
  by_cases h1:a<b
  ·exact .inl (ze h1)
  ·by_cases h2:b<c
   ·exact .inr (ze h2)
   ·exact absurd h (zb7.mpr (List.le_trans (zb7.mp h2) (zb7.mp h1)))
 total a b h1 h2:=List.le_antisymm (zb7.mp (zaT h2)) (zb7.mp (zaT h1))
section
variable {prog:Program}{w:World}{A:Around}{E:Value->Shared->Prop}{s:Shared}{Q:Bool->Shared->Prop}
theorem lex:∀{us vs:List Value} {ks js:List Int} {i:Nat},IntsAre us ks->IntsAre vs js->ks.length=js.length->Q (decide (ks<js)) s->KatLex prog w A true false Q (us.zip vs) i s
 |_,_,[],[],i,.nil,.nil,_,h=>by
  have e:decide (([]:List Int)<[])=false:=rfl
  rw[e] at h
  exact h
 |_,_,k::ks,j::js,i,.cons _ t hu,.cons _ t' hv,hl,h=>by
  refine kat_cons (wpAny_eqBool_int ?_)
  by_cases e:k=j
  ·subst e
   rw[show(k==k)=true by simp]
   refine kat_yes (lex hu hv (by simpa using hl) ?_)
   have e2:decide (k::ks<k::js)=decide (ks<js):=by simp[List.cons_lt_cons_iff]
   rw[e2] at h
   exact h
  ·rw [show(k==j)=false by simpa using e]
   have e2:decide (k::ks<j::js)=decide (k<j):=by simp[List.cons_lt_cons_iff,e]
   rw[e2] at h
   refine kat_no ?_
   by_cases hi:i=0
   ·subst hi
    exact oneLt_int h
   ·rw [show(true&&i==0)=false by simpa using hi]
    exact kat_one _ _ (lt_int h)
end
end Srt
namespace L2
open PySem PySem.Spec PyProof.Rows PySem.W
theorem pw_two {α:Type}{R:α->α->Prop}:∀{l:List α},l.length<2->l.Pairwise R
 |[],_=> .nil
 |[_],_=>List.pairwise_singleton _ _
 |_::_::_,h=>absurd h (by simp)
theorem q4I {X:Cx}{pins:List (Addr×Obj)}{σ:St}{H:Hp}{s:Shared}{b:Addr}{ks:List Int}(I:Inv X pins σ H s)(e:H b=some (.tup (ks.map V.int))):∃(o:Obj) (us:List Value) (n:Nat),s.heap.get? b=some o/\o.cls= .type "tuple"/\o.data= .seq us.toArray n/\IntsAre us ks:=by
 obtain⟨_,its,r,o,h1,h2,n,h3⟩:=(show q0I X.prog X.w H s.heap b (.tup (ks.map V.int)) from I.hok b _ e)
 exact⟨o,its,n,h1,h2,h3,q2t r⟩
theorem q4W {us:List Value}{ks:List Int}(h:IntsAre us ks):us.length=ks.length:=by
 induction h with
 |nil=>rfl
 |cons _ _ _ ih=>simp[ih]
end L2
namespace Tim
open PySem PySem.W PyProof.Rows
def q3h:Bool->Keyed->Array Keyed->Nat->Nat->Nat->StateT SortSt Sem (Option Nat):=sortPriv% PySem.Builtin.gallop
def qag:Array Keyed->Array Keyed->StateT SortSt Sem (Array Keyed):=sortPriv% PySem.Builtin.mergeLo
def qah:Array Keyed->Array Keyed->StateT SortSt Sem (Array Keyed):=sortPriv% PySem.Builtin.mergeHi
structure Cmp (prog:Program)(w:World)(A:Around)(s:Shared)(κ:SortKind)(O:KeyOrd)(kf:Keyed->O.α)(Ok:Keyed->Prop):Prop where
 lt:∀(x y:Keyed) (Q:Bool->Shared->Prop) (E:Value->Shared->Prop),Ok x->Ok y->Q (O.blt (kf x) (kf y)) s->wpAny (model prog w) A (keyLt' κ x.1 y.1) Q E s
section
variable {prog:Program}{w:World}{A:Around}{E:Value->Shared->Prop}{s:Shared}{κ:SortKind}{O:KeyOrd}{kf:Keyed->O.α}{Ok:Keyed->Prop}
theorem w_lt (c:Cmp prog w A s κ O kf Ok){x y:Keyed}{st:SortSt}{Q:Option Bool->SortSt->Prop}(hk:kindOf st=κ)(hx:Ok x)(hy:Ok y)(h:Q (some (O.blt (kf x) (kf y))) st):wpS (model prog w) A E s (lt' x y) Q st:=by
 rw[lt'_eq]
 refine zi (zbs (zi (zb4 (wpAny_attempt ?_))))
 rw[hk]
 exact c.lt x y _ _ hx hy ⟨rfl,zm h⟩
theorem q0d {arr:Array Keyed}{i:Nat}{p:Keyed}{st:SortSt}{Q:Keyed->SortSt->Prop}(hp:arr[i]? =some p)(h:Q p st):wpS (model prog w) A E s (elem' arr i) Q st:=by
 rw[elem'_eq,hp]
 exact zm h
def bey (left:Bool)(key:Keyed)(arr:Array Keyed)(base i:Nat):StateT SortSt Sem (Option Bool):=
 elem' arr (base+i) >>= fun x=>if left=true then lt' x key else lt' key x >>= fun r=>pure (r.map (!·))
abbrev bdB (kf:Keyed->O.α)(left:Bool)(key p:Keyed):Bool:=if left=true then O.blt (kf p) (kf key) else !O.blt (kf key) (kf p)
theorem w_bey (c:Cmp prog w A s κ O kf Ok){left:Bool}{key p:Keyed}{arr:Array Keyed}{base i:Nat}{st:SortSt}{Q:Option Bool->SortSt->Prop}(hk:kindOf st=κ)(hp:arr[base+i]? =some p)(op:Ok p)(ok:Ok key)(h:Q (some (bdB kf left key p)) st):wpS (model prog w) A E s (bey left key arr base i) Q st:=by
 refine zi (q0d hp ?_)
 cases left with
 |true=>exact w_lt c hk op ok h
 |false=>exact zi (w_lt c hk ok op (zm h))
theorem q2Q (c:Cmp prog w A s κ O kf Ok){left:Bool}{key:Keyed}{arr:Array Keyed}{base n hint:Nat}{B:Nat->Bool}{st:SortSt}{Q:Option Nat->SortSt->Prop}(hk:kindOf st=κ)(hn:hint<n)(ok:Ok key)
  (hB:∀i,i<n->∃p,arr[base+i]? =some p/\Ok p/\bdB kf left key p=B i)(mo:∀i j,i<=j->j<n->B j=true->B i=true)
  (h:∀k,k<=n->(∀i,i<k->B i=true)->(∀i,k<=i->i<n->B i=false)->Q (some k) st):wpS (model prog w) A E s (q3h left key arr base n hint) Q st:=by
 have bq:∀{i:Nat} {R:Option Bool->SortSt->Prop},i<n->R (some (B i)) st->wpS (model prog w) A E s (bey left key arr base i) R st:=fun {i R} hi hR=>by
  obtain⟨p,h1,h2,h3⟩:=hB i hi
  rw[<-h3] at hR
  exact w_bey c hk h1 h2 ok hR
 have mf:∀i j,i<=j->j<n->B i=false->B j=false:=fun i j h1 h2 h3=>by
  cases e:B j with
  |false=>rfl
  |true=>rw[mo i j h1 h2 e] at h3;cases h3
 refine zi (bq hn ?_)
 dsimp only
 cases hb:B hint with
 |true=>
  rw[zj rfl]
  refine zi (zaw (zat (I:=fun(x:Nat) (c:Option (Option Nat)×Nat×Nat) (st':SortSt)=>st=st'/\c.1=none/\c.2.1<c.2.2/\x+1<=c.2.2/\hint+c.2.1<n/\B (hint+c.2.1)=true)
   (Q:=fun(c:Option (Option Nat)×Nat×Nat) (st':SortSt)=>st=st'/\c.1=none/\c.2.1<c.2.2/\hint+c.2.1<n/\B (hint+c.2.1)=true/\(n - hint<=c.2.2\/hint+c.2.2<n/\B (hint+c.2.2)=false)) ?_ ?_ (show _/\_ from⟨rfl,rfl,Nat.zero_lt_one,zc _,hn,hb⟩)) ?_)
  ·rintro x ⟨r,lo,ofs⟩ st' _ hx ⟨rfl,rfl,h1,h2,h3,h4⟩
   dsimp only at h1 h2 h3 h4 ⊢
   by_cases hge:ofs≥n - hint
   ·rw [zj hge]
    exact zm ⟨rfl,rfl,h1,h3,h4,.inl hge⟩
   ·rw [zd hge]
    refine zi (bq (i:=hint+ofs) (by omega) ?_)
    dsimp only
    cases e:B (hint+ofs) with
    |true=>
     rw[zd (by decide)]
     exact zm ⟨rfl,rfl,by show ofs<2*ofs+1;omega,by show x+1+1<=2*ofs+1;omega,by show hint+ofs<n;omega,e⟩
    |false=>
     rw[zj (by decide)]
     exact zm ⟨rfl,rfl,h1,h3,h4,.inr ⟨by show hint+ofs<n;omega,e⟩⟩
  ·rintro ⟨r,lo,ofs⟩ st' ⟨rfl,rfl,h1,h2,h3,h4⟩
   exact⟨rfl,rfl,h1,h3,h4,.inl (by show n - hint<=ofs;have h2':max 0 n+1<=ofs:=h2;omega)⟩
  ·rintro ⟨r,lo,ofs⟩ st' ⟨rfl,rfl,h1,h3,h4,h5⟩
   dsimp only at h1 h3 h4 h5 ⊢
   have k1:hint+lo+1<=hint+min ofs (n - hint):=by omega
   have k2:hint+min ofs (n - hint)<=n:=by omega
   have k3:∀i,i<hint+lo+1->B i=true:=fun i hi=>mo i (hint+lo) (by omega) h3 h4
   have k4:∀i,hint+min ofs (n - hint)<=i->i<n->B i=false:=fun i h1 h2=>by
    rcases h5 with h5|⟨h5,h6⟩
    ·omega
    ·exact mf (hint+ofs) i (by omega) h2 h6
   generalize hint+lo+1=lo' at k1 k3 ⊢
   generalize hint+min ofs (n - hint)=hi' at k1 k2 k4 ⊢
   refine zi (zaw (zat (I:=fun(x:Nat) (c:Option (Option Nat)×Nat×Nat) (st':SortSt)=>st=st'/\c.1=none/\c.2.1<=c.2.2/\c.2.2<=n/\c.2.2 - c.2.1<=n - x/\(∀i,i<c.2.1->B i=true)/\∀i,c.2.2<=i->i<n->B i=false)
    (Q:=fun(c:Option (Option Nat)×Nat×Nat) (st':SortSt)=>st=st'/\c.1=none/\c.2.1=c.2.2/\c.2.2<=n/\(∀i,i<c.2.1->B i=true)/\∀i,c.2.2<=i->i<n->B i=false) ?_ ?_ (show _/\_ from⟨rfl,rfl,by show lo'<=hi';omega,k2,by show hi' - lo'<=n - 0;omega,k3,k4⟩)) ?_)
   ·rintro x ⟨r,lo,hi⟩ st' _ hx ⟨rfl,rfl,g1,g2,g3,g4,g5⟩
    dsimp only at g1 g2 g3 g4 g5 ⊢
    by_cases hge:lo≥hi
    ·rw [zj hge]
     exact zm ⟨rfl,rfl,by show lo=hi;omega,g2,g4,g5⟩
    ·rw [zd hge]
     refine zi (bq (i:=lo+(hi - lo) / 2) (by omega) ?_)
     dsimp only
     cases e:B (lo+(hi - lo) / 2) with
     |true=>
      rw[zj rfl]
      exact zm ⟨rfl,rfl,by show lo+(hi - lo) / 2+1<=hi;omega,g2,by show hi - (lo+(hi - lo) / 2+1)<=n - (x+1);omega,fun i hi'=>mo i _ (zcm hi') (by omega) e,g5⟩
     |false=>
      rw[zd (by decide)]
      exact zm ⟨rfl,rfl,by show lo<=lo+(hi - lo) / 2;omega,by show lo+(hi - lo) / 2<=n;omega,by show lo+(hi - lo) / 2 - lo<=n - (x+1);omega,g4,fun i h1 h2=>mf _ i h1 h2 e⟩
   ·rintro ⟨r,lo,hi⟩ st' ⟨rfl,rfl,g1,g2,g3,g4,g5⟩
    exact⟨rfl,rfl,by show lo=hi;have g1':lo<=hi:=g1;have g3':hi - lo<=n - max 0 n:=g3;omega,g2,g4,g5⟩
   ·rintro ⟨r,lo,hi⟩ st' ⟨rfl,rfl,g1,g2,g4,g5⟩
    dsimp only at g1 g2 g4 g5 ⊢
    subst g1
    exact zm (h lo g2 g4 g5)
 |false=>
  rw[zd (by decide)]
  refine zi (zaw (zat (I:=fun(x:Nat) (c:Option (Option Nat)×Nat×Nat) (st':SortSt)=>st=st'/\c.1=none/\c.2.1<c.2.2/\x+1<=c.2.2/\c.2.1<=hint/\B (hint - c.2.1)=false)
   (Q:=fun(c:Option (Option Nat)×Nat×Nat) (st':SortSt)=>st=st'/\c.1=none/\c.2.1<c.2.2/\c.2.1<=hint/\B (hint - c.2.1)=false/\(hint+1<=c.2.2\/c.2.2<=hint/\B (hint - c.2.2)=true)) ?_ ?_ (show _/\_ from⟨rfl,rfl,Nat.zero_lt_one,zc _,zan _,hb⟩)) ?_)
  ·rintro x ⟨r,lo,ofs⟩ st' _ hx ⟨rfl,rfl,h1,h2,h3,h4⟩
   dsimp only at h1 h2 h3 h4 ⊢
   by_cases hge:ofs≥hint+1
   ·rw [zj hge]
    exact zm ⟨rfl,rfl,h1,h3,h4,.inl hge⟩
   ·rw [zd hge]
    refine zi (bq (i:=hint - ofs) (by omega) ?_)
    dsimp only
    cases e:B (hint - ofs) with
    |false=>
     rw[zd (by decide)]
     exact zm ⟨rfl,rfl,by show ofs<2*ofs+1;omega,by show x+1+1<=2*ofs+1;omega,by show ofs<=hint;omega,e⟩
    |true=>
     rw[zj rfl]
     exact zm ⟨rfl,rfl,h1,h3,h4,.inr ⟨by show ofs<=hint;omega,e⟩⟩
  ·rintro ⟨r,lo,ofs⟩ st' ⟨rfl,rfl,h1,h2,h3,h4⟩
   exact⟨rfl,rfl,h1,h3,h4,.inl (by show hint+1<=ofs;have h2':max 0 n+1<=ofs:=h2;omega)⟩
  ·rintro ⟨r,lo,ofs⟩ st' ⟨rfl,rfl,h1,h3,h4,h5⟩
   dsimp only at h1 h3 h4 h5 ⊢
   have k1:hint+1 - min ofs (hint+1)<=hint - lo:=by omega
   have k2:hint - lo<=n:=by omega
   have k3:∀i,i<hint+1 - min ofs (hint+1)->B i=true:=fun i hi=>by
    rcases h5 with h5|⟨h5,h6⟩
    ·omega
    ·exact mo i (hint - ofs) (by omega) (by omega) h6
   have k4:∀i,hint - lo<=i->i<n->B i=false:=fun i g1 g2=>mf (hint - lo) i g1 g2 h4
   generalize hint+1 - min ofs (hint+1)=lo' at k1 k3 ⊢
   generalize hint - lo=hi' at k1 k2 k4 ⊢
   refine zi (zaw (zat (I:=fun(x:Nat) (c:Option (Option Nat)×Nat×Nat) (st':SortSt)=>st=st'/\c.1=none/\c.2.1<=c.2.2/\c.2.2<=n/\c.2.2 - c.2.1<=n - x/\(∀i,i<c.2.1->B i=true)/\∀i,c.2.2<=i->i<n->B i=false)
    (Q:=fun(c:Option (Option Nat)×Nat×Nat) (st':SortSt)=>st=st'/\c.1=none/\c.2.1=c.2.2/\c.2.2<=n/\(∀i,i<c.2.1->B i=true)/\∀i,c.2.2<=i->i<n->B i=false) ?_ ?_ (show _/\_ from⟨rfl,rfl,by show lo'<=hi';omega,k2,by show hi' - lo'<=n - 0;omega,k3,k4⟩)) ?_)
   ·rintro x ⟨r,lo,hi⟩ st' _ hx ⟨rfl,rfl,g1,g2,g3,g4,g5⟩
    dsimp only at g1 g2 g3 g4 g5 ⊢
    by_cases hge:lo≥hi
    ·rw [zj hge]
     exact zm ⟨rfl,rfl,by show lo=hi;omega,g2,g4,g5⟩
    ·rw [zd hge]
     refine zi (bq (i:=lo+(hi - lo) / 2) (by omega) ?_)
     dsimp only
     cases e:B (lo+(hi - lo) / 2) with
     |true=>
      rw[zj rfl]
      exact zm ⟨rfl,rfl,by show lo+(hi - lo) / 2+1<=hi;omega,g2,by show hi - (lo+(hi - lo) / 2+1)<=n - (x+1);omega,fun i hi'=>mo i _ (zcm hi') (by omega) e,g5⟩
     |false=>
      rw[zd (by decide)]
      exact zm ⟨rfl,rfl,by show lo<=lo+(hi - lo) / 2;omega,by show lo+(hi - lo) / 2<=n;omega,by show lo+(hi - lo) / 2 - lo<=n - (x+1);omega,g4,fun i h1 h2=>mf _ i h1 h2 e⟩
   ·rintro ⟨r,lo,hi⟩ st' ⟨rfl,rfl,g1,g2,g3,g4,g5⟩
    exact⟨rfl,rfl,by show lo=hi;have g1':lo<=hi:=g1;have g3':hi - lo<=n - max 0 n:=g3;omega,g2,g4,g5⟩
   ·rintro ⟨r,lo,hi⟩ st' ⟨rfl,rfl,g1,g2,g4,g5⟩
    dsimp only at g1 g2 g4 g5 ⊢
    subst g1
    exact zm (h lo g2 g4 g5)
end
end Tim
namespace Tim
open PySem PySem.W PyProof.Rows
section
variable {O:KeyOrd}{kf:Keyed->O.α}
def Srd (kf:Keyed->O.α)(l:List Keyed):Prop:=l.Pairwise fun x y=>O.kle (kf x) (kf y)
structure MI (kf:Keyed->O.α)(al bl ol:List Keyed)(ia ib:Nat):Prop where
 pm:ol.Perm (al.take ia++bl.take ib)
 so:Srd kf ol
 la:∀x∈ol,∀y∈al.drop ia,O.kle (kf x) (kf y)
 lb:∀x∈ol,∀y∈bl.drop ib,O.kle (kf x) (kf y)
def Res (kf:Keyed->O.α)(al bl:List Keyed)(r:Array Keyed):Prop:=r.toList.Perm (al++bl)/\Srd kf r.toList
theorem q8W {l:List Keyed}(h:Srd kf l){i j:Nat}(hij:i<=j){x y:Keyed}(hx:x∈(l.drop i).take (j - i))(hy:y∈l.drop j):O.kle (kf x) (kf y):=by
 have e:l.drop i=(l.drop i).take (j - i)++l.drop j:=by
  have:=(zy (j - i) (l.drop i)).symm
  rwa [List.drop_drop,show i+(j - i)=j by omega] at this
 have h2:Srd kf (l.drop i):=h.sublist (zah _ _)
 rw[e] at h2
 exact(zA.mp h2).2.2 x hx y hy
theorem q42 {l:List Keyed}{i j:Nat}(hij:i<=j){y:Keyed}(hy:y∈l.drop j):y∈l.drop i:=by
 have e:l.drop j=(l.drop i).drop (j - i):=by rw[List.drop_drop,show i+(j - i)=j by omega]
 rw[e] at hy
 exact zar hy
theorem q5n {l:List Keyed}{i k:Nat}:l.take (i+k)=l.take i++(l.drop i).take k:=List.take_add
theorem MI.as {al bl ol:List Keyed}{ia ib:Nat}(k:Nat)(h:MI kf al bl ol ia ib)(sa:Srd kf al)(hl:∀x∈(al.drop ia).take k,∀z∈bl.drop ib,O.kle (kf x) (kf z)):MI kf al bl (ol++(al.drop ia).take k) (ia+k) ib:=by
 refine⟨?_,?_,fun x hx y hy=>?_,fun x hx y hy=>?_⟩
 ·rw [q5n,zq]
  refine(h.pm.append_right _).trans ?_
  rw[zq]
  exact zaa _ zam
 ·refine zA.mpr ⟨h.so,sa.sublist ((zP _ _).trans (zah _ _)),fun x hx y hy=>h.la x hx y (zad hy)⟩
 ·rcases zr.mp hx with hx|hx
  ·exact h.la x hx y (q42 (by omega) hy)
  ·exact q8W sa (i:=ia) (j:=ia+k) (by omega) (by rw[show ia+k - ia=k by omega];exact hx) hy
 ·rcases zr.mp hx with hx|hx
  ·exact h.lb x hx y hy
  ·exact hl x hx y hy
theorem MI.bs {al bl ol:List Keyed}{ia ib:Nat}(k:Nat)(h:MI kf al bl ol ia ib)(sb:Srd kf bl)(hl:∀x∈(bl.drop ib).take k,∀z∈al.drop ia,O.kle (kf x) (kf z)):MI kf al bl (ol++(bl.drop ib).take k) ia (ib+k):=by
 refine⟨?_,?_,fun x hx y hy=>?_,fun x hx y hy=>?_⟩
 ·rw [q5n,<-zq]
  exact h.pm.append_right _
 ·refine zA.mpr ⟨h.so,sb.sublist ((zP _ _).trans (zah _ _)),fun x hx y hy=>h.lb x hx y (zad hy)⟩
 ·rcases zr.mp hx with hx|hx
  ·exact h.la x hx y hy
  ·exact hl x hx y hy
 ·rcases zr.mp hx with hx|hx
  ·exact h.lb x hx y (q42 (by omega) hy)
  ·exact q8W sb (i:=ib) (j:=ib+k) (by omega) (by rw[show ib+k - ib=k by omega];exact hx) hy
theorem q3G {l:List Keyed}{i:Nat}{x:Keyed}(h:l[i]? =some x):(l.drop i).take 1=[x]:=by
 obtain⟨hi,e⟩:=yA h
 rw[zbv hi,e]
 rfl
theorem MI.a {al bl ol:List Keyed}{ia ib:Nat}{x:Keyed}(h:MI kf al bl ol ia ib)(sa:Srd kf al)(hx:al[ia]? =some x)(hl:∀z∈bl.drop ib,O.kle (kf x) (kf z)):MI kf al bl (ol++[x]) (ia+1) ib:=by
 have:=h.as 1 sa (by rw[q3G hx];intro y hy z hz;rw[zu.mp hy];exact hl z hz)
 rwa [q3G hx] at this
theorem MI.b {al bl ol:List Keyed}{ia ib:Nat}{x:Keyed}(h:MI kf al bl ol ia ib)(sb:Srd kf bl)(hx:bl[ib]? =some x)(hl:∀z∈al.drop ia,O.kle (kf x) (kf z)):MI kf al bl (ol++[x]) ia (ib+1):=by
 have:=h.bs 1 sb (by rw[q3G hx];intro y hy z hz;rw[zu.mp hy];exact hl z hz)
 rwa [q3G hx] at this
theorem MI.ab {al bl ol:List Keyed}{ia ib:Nat}{r:Array Keyed}(h:MI kf al bl ol ia ib)(sa:Srd kf al)(sb:Srd kf bl)(hl:∀x∈al.drop ia,∀y∈bl.drop ib,O.kle (kf x) (kf y))(er:r.toList=ol++al.drop ia++bl.drop ib):Res kf al bl r:=by
 unfold Res
 rw[er]
 constructor
 ·refine ((h.pm.append_right _).append_right _).trans ?_
  rw[zq (al.take ia),zq,zq]
  refine(zaa _ ?_).trans (zbV (by rw[<-zq,zy]))
  refine List.Perm.trans ?_ (zaa _ (zbV (zy ib bl)))
  rw[<-zq,<-zq]
  exact zam.append_right _
 ·exact zA.mpr ⟨zA.mpr ⟨h.so,sa.sublist (zah _ _),h.la⟩,sb.sublist (zah _ _),fun x hx y hy=>by
   rcases zr.mp hx with hx|hx
   ·exact h.lb x hx y hy
   ·exact hl x hx y hy⟩
theorem MI.ba {al bl ol:List Keyed}{ia ib:Nat}{r:Array Keyed}(h:MI kf al bl ol ia ib)(sa:Srd kf al)(sb:Srd kf bl)(hl:∀y∈bl.drop ib,∀x∈al.drop ia,O.kle (kf y) (kf x))(er:r.toList=ol++bl.drop ib++al.drop ia):Res kf al bl r:=by
 unfold Res
 rw[er]
 constructor
 ·refine ((h.pm.append_right _).append_right _).trans ?_
  rw[zq (al.take ia),zy,zq]
  refine(zaa _ zam).trans ?_
  rw[<-zq,zy]
 ·exact zA.mpr ⟨zA.mpr ⟨h.so,sb.sublist (zah _ _),h.lb⟩,sa.sublist (zah _ _),fun x hx y hy=>by
   rcases zr.mp hx with hx|hx
   ·exact h.la x hx y hy
   ·exact hl x hx y hy⟩
end
end Tim
namespace Tim
open PySem PySem.W PyProof.Rows
abbrev Stq (st st':SortSt):Prop:=kindOf st'=kindOf st/\arrOf st'=arrOf st/\pendingOf st'=pendingOf st/\failedOf st'=failedOf st
theorem q3j (a:Array Keyed)(i:Nat):(a.extract i a.size).toList=a.toList.drop i:=by
 rw[za3,zaJ]
 exact zaQ (by simp)
theorem q8T (a:Array Keyed)(i k:Nat):(a.extract i (i+k)).toList=(a.toList.drop i).take k:=by
 rw[za3,zaJ,show i+k - i=k by omega]
theorem q0q {a:Array Keyed}{i:Nat}(h:i<a.size):∃x,a[i]? =some x/\a.toList[i]? =some x/\x∈a.toList:=⟨a[i],by simp[h],by simp[h],by simp⟩
theorem q3E {l:List Keyed}{i k:Nat}{x:Keyed}(h:x∈(l.drop i).take k):∃j,j<k/\l[i+j]? =some x:=by
 obtain⟨j,hj,e⟩:=zaP h
 rw[zl] at hj
 refine⟨j,by omega,?_⟩
 rw[List.getElem_take,zcn] at e
 rw[<-e]
 exact yB _
theorem q15 {l:List Keyed}{i:Nat}{x:Keyed}(h:x∈l.drop i):∃j,i+j<l.length/\l[i+j]? =some x:=by
 obtain⟨j,hj,e⟩:=zaP h
 rw[zS] at hj
 refine⟨j,by omega,?_⟩
 rw[zcn] at e
 rw[<-e]
 exact yB _
theorem use1 {P:Nat->Prop}{G:Prop}(h:∀n,P n)(k:(∀n,P n)->G):G:=k h
theorem use3 {F P:Array Keyed->Nat->Nat->Prop}{G:Prop}(h:∀o i j,F o i j->P o i j)(k:(∀o i j,F o i j->P o i j)->G):G:=k h
section
variable {prog:Program}{w:World}{A:Around}{E:Value->Shared->Prop}{s:Shared}{κ:SortKind}{O:KeyOrd}{kf:Keyed->O.α}{Ok:Keyed->Prop}
theorem q1l {l:List Keyed}(h:Srd kf l){i j:Nat}{x y:Keyed}(hij:i<=j)(hx:l[i]? =some x)(hy:l[j]? =some y):O.kle (kf x) (kf y):=by
 by_cases e:i=j
 ·subst e
  rw[hx] at hy
  cases hy
  exact zaD _
 ·obtain ⟨h1,e1⟩:=yA hx
  obtain⟨h2,e2⟩:=yA hy
  have:=zcq.mp h i j h1 h2 (by omega)
  rwa [e1,e2] at this
theorem w_gl (c:Cmp prog w A s κ O kf Ok){key:Keyed}{arr:Array Keyed}{base:Nat}{st:SortSt}{Q:Option Nat->SortSt->Prop}(hk:kindOf st=κ)(hn:base<arr.size)(ok:Ok key)(oa:∀x∈arr.toList,Ok x)(sa:Srd kf arr.toList)
  (h:∀k,base+k<=arr.size->(∀x∈(arr.toList.drop base).take k,O.klt (kf x) (kf key))->(∀x∈arr.toList.drop (base+k),O.kle (kf key) (kf x))->Q (some k) st):wpS (model prog w) A E s (q3h true key arr base (arr.size - base) 0) Q st:=by
 refine q2Q c (B:=fun i=>match arr[base+i]? with|some p=>O.blt (kf p) (kf key)|none=>false) hk (by omega) ok (fun i hi=>?_) (fun i j h1 h2 h3=>?_) fun k k1 k2 k3=>?_
 ·obtain ⟨x,h1,h2,h3⟩:=q0q (a:=arr) (i:=base+i) (by omega)
  exact⟨x,h1,oa x h3,by rw[h1];rfl⟩
 ·obtain ⟨x,x1,x2,x3⟩:=q0q (a:=arr) (i:=base+i) (by omega)
  obtain⟨y,y1,y2,y3⟩:=q0q (a:=arr) (i:=base+j) (by omega)
  rw[y1] at h3
  rw[x1]
  exact za5 (q1l sa (by omega) x2 y2) h3
 ·refine h k (by omega) (fun x hx=>?_) fun x hx=>?_
  ·obtain ⟨j,hj,e⟩:=q3E hx
   have:=k2 j hj
   rw[show arr[base+j]? =some x by simpa using e] at this
   exact this
  ·obtain ⟨j,hj,e⟩:=q15 hx
   have:=k3 (k+j) (by omega) (by simp at hj;omega)
   rw[show arr[base+(k+j)]? =some x by rw[<-Nat.add_assoc];simpa using e] at this
   exact this
theorem w_gr (c:Cmp prog w A s κ O kf Ok){key:Keyed}{arr:Array Keyed}{base:Nat}{st:SortSt}{Q:Option Nat->SortSt->Prop}(hk:kindOf st=κ)(hn:base<arr.size)(ok:Ok key)(oa:∀x∈arr.toList,Ok x)(sa:Srd kf arr.toList)
  (h:∀k,base+k<=arr.size->(∀x∈(arr.toList.drop base).take k,O.kle (kf x) (kf key))->(∀x∈arr.toList.drop (base+k),O.klt (kf key) (kf x))->Q (some k) st):wpS (model prog w) A E s (q3h false key arr base (arr.size - base) 0) Q st:=by
 refine q2Q c (B:=fun i=>match arr[base+i]? with|some p=> !O.blt (kf key) (kf p)|none=>false) hk (by omega) ok (fun i hi=>?_) (fun i j h1 h2 h3=>?_) fun k k1 k2 k3=>?_
 ·obtain ⟨x,h1,h2,h3⟩:=q0q (a:=arr) (i:=base+i) (by omega)
  exact⟨x,h1,oa x h3,by rw[h1];rfl⟩
 ·obtain ⟨x,x1,x2,x3⟩:=q0q (a:=arr) (i:=base+i) (by omega)
  obtain⟨y,y1,y2,y3⟩:=q0q (a:=arr) (i:=base+j) (by omega)
  rw[y1] at h3
  rw[x1]
  have h3':O.kle (kf y) (kf key):=by show O.blt (kf key) (kf y)=false;simpa using h3
  have:=zL (q1l sa (by omega) x2 y2) h3'
  show(!O.blt (kf key) (kf x))=true
  rw[this]
  rfl
 ·refine h k (by omega) (fun x hx=>?_) fun x hx=>?_
  ·obtain ⟨j,hj,e⟩:=q3E hx
   have:=k2 j hj
   rw[show arr[base+j]? =some x by simpa using e] at this
   show O.blt (kf key) (kf x)=false
   simpa using this
  ·obtain ⟨j,hj,e⟩:=q15 hx
   have:=k3 (k+j) (by omega) (by simp at hj;omega)
   rw[show arr[base+(k+j)]? =some x by rw[<-Nat.add_assoc];simpa using e] at this
   show O.blt (kf key) (kf x)=true
   simpa using this
theorem w_T {α:Type}{c:Prop}[Decidable c]{t e:StateT SortSt Sem α}{Q:α->SortSt->Prop}{st:SortSt}(h:c)(k:wpS (model prog w) A E s t Q st):wpS (model prog w) A E s (if c then t else e) Q st:=by rw[zj h];exact k
theorem w_F {α:Type}{c:Prop}[Decidable c]{t e:StateT SortSt Sem α}{Q:α->SortSt->Prop}{st:SortSt}(h:¬c)(k:wpS (model prog w) A E s e Q st):wpS (model prog w) A E s (if c then t else e) Q st:=by rw[zd h];exact k
theorem q7l {β:Type}{a b:Nat}{f:Nat->β->StateT SortSt Sem (ForInStep β)}{M:Model}(I:Nat->β->SortSt->Prop){Q:β->SortSt->Prop}(hs:∀(g:Nat->β->StateT SortSt Sem (ForInStep β)) (R:Nat->ForInStep β->SortSt->Prop),(∀i c,g i c=f i c)->(∀{i c st},Q c st->R i (.done c) st)->(∀{i c st},I (i+1) c st->R i (.yield c) st)->∀i c st,a<=i->i<b->I i c st->wpS M A E s (g i c) (R i) st)(he:∀c st,I (max a b) c st->Q c st){c:β}{st:SortSt}(h:I a c st):wpS M A E s (forIn [a:b] c f) Q st:=
 zat I (fun i c st h1 h2 h3=>hs f (fun i r st'=>match r with| .done c'=>Q c' st'| .yield c'=>I (i+1) c' st') (fun _ _=>rfl) (fun h=>h) (fun h=>h) i c st h1 h2 h3) he h
theorem q7U (c:Cmp prog w A s κ O kf Ok){a b:Array Keyed}{st:SortSt}{Q:Array Keyed->SortSt->Prop}(hk:kindOf st=κ)(oa:∀x∈a.toList,Ok x)(ob:∀x∈b.toList,Ok x)(sa:Srd kf a.toList)(sb:Srd kf b.toList)(ha:0<a.size)(hb:0<b.size)
  (hd:∀x∈a.toList,∀y,b.toList[0]? =some y->O.kle (kf y) (kf x))(hl:∀y∈b.toList,∀x,a.toList[a.size - 1]? =some x->O.kle (kf y) (kf x))
  (h:∀r st',Res kf a.toList b.toList r->Stq st st'->Q r st'):wpS (model prog w) A E s (qag a b) Q st:=by
 have fA:∀{out:Array Keyed} {ia ib:Nat},MI kf a.toList b.toList out.toList ia ib->ia+1=a.size->Res kf a.toList b.toList (out++b.extract ib++a.extract ia):=fun {out ia ib} m e=>by
  refine m.ba sa sb (fun y hy x hx=>?_) (by rw[zJ,zJ,q3j,q3j])
  obtain⟨j,hj,ej⟩:=q15 hx
  have:ia+j=a.size - 1:=by simp at hj;omega
  rw[this] at ej
  exact hl y (zar hy) x ej
 have fB:∀{out:Array Keyed} {ia ib:Nat},MI kf a.toList b.toList out.toList ia ib->ib=b.size->Res kf a.toList b.toList (out++a.extract ia++b.extract ib):=fun {out ia ib} m e=>by
  refine m.ab sa sb (fun x hx y hy=>?_) (by rw[zJ,zJ,q3j,q3j])
  rw[zaG (by simp;omega)] at hy
  cases hy
 have fC:∀{out:Array Keyed} {ia ib:Nat},MI kf a.toList b.toList out.toList ia ib->ia=a.size->Res kf a.toList b.toList (out++a.extract ia++b.extract ib):=fun {out ia ib} m e=>by
  refine m.ab sa sb (fun x hx y hy=>?_) (by rw[zJ,zJ,q3j,q3j])
  rw[zaG (by simp;omega)] at hx
  cases hx
 obtain⟨b0,b1,b2,b3⟩:=q0q hb
 have m0:MI kf a.toList b.toList (#[b0]:Array Keyed).toList 0 1:=by
  have:=(show MI kf a.toList b.toList [] 0 0 from⟨by simp,List.Pairwise.nil,fun x hx=>(nomatch hx),fun x hx=>(nomatch hx)⟩).b sb b2 fun z hz=>hd z (by simpa using hz) b0 b2
  simpa using this
 refine zi (zb4 (za1 ⟨rfl,?_⟩))
 refine zi (q0d b1 ?_)
 dsimp only
 by_cases e1:1=b.size
 ·exact w_T (by simpa using e1) (zm (h _ _ (fB m0 e1) ⟨rfl,rfl,rfl,rfl⟩))
 refine w_F (by simpa using e1) ?_
 by_cases e2:0+1=a.size
 ·exact w_T (by simpa using e2) (zm (h _ _ (fA m0 e2) ⟨rfl,rfl,rfl,rfl⟩))
 refine w_F (by simpa using e2) ?_
 refine zi (zbs ?_)
 refine zi (zaw (q7l (I:=fun(x:Nat) (c:Option (Array Keyed)×Array Keyed×Nat×Nat×Nat) (st':SortSt)=>c.1=none/\Stq st st'/\MI kf a.toList b.toList c.2.1.toList c.2.2.1 c.2.2.2.1/\c.2.2.1+1<a.size/\c.2.2.2.1<b.size/\x+1<=c.2.2.1+c.2.2.2.1)
  (Q:=fun(c:Option (Array Keyed)×Array Keyed×Nat×Nat×Nat) (st':SortSt)=>Stq st st'/\∃r,c.1=some r/\Res kf a.toList b.toList r) ?_ ?_ (show _/\_ from⟨rfl,⟨rfl,rfl,rfl,rfl⟩,m0,by show 0+1<a.size;omega,by show 1<b.size;omega,zc _⟩)) ?_)
 ·rintro g R eg dn yl x ⟨r,out,ia,ib,mg⟩ st1 _ hx ⟨rfl,q,m,ba,bb,pr⟩
  rw[eg]
  dsimp only at m ba bb pr ⊢
  have hk1:kindOf st1=κ:=by rw[q.1];exact hk
  refine zi (zaw (q7l (I:=fun(y:Nat) (c:Option (Array Keyed)×Array Keyed×Nat×Nat×Nat×Nat) (st':SortSt)=>st1=st'/\c.1=none/\MI kf a.toList b.toList c.2.1.toList c.2.2.1 c.2.2.2.1/\c.2.2.1+1<a.size/\c.2.2.2.1<b.size/\ia+ib+y<=c.2.2.1+c.2.2.2.1)
   (Q:=fun(c:Option (Array Keyed)×Array Keyed×Nat×Nat×Nat×Nat) (st':SortSt)=>st1=st'/\((∃r,c.1=some r/\Res kf a.toList b.toList r)\/c.1=none/\MI kf a.toList b.toList c.2.1.toList c.2.2.1 c.2.2.2.1/\c.2.2.1+1<a.size/\c.2.2.2.1<b.size/\ia+ib+1<=c.2.2.1+c.2.2.2.1)) ?_ ?_ (show _/\_ from⟨rfl,rfl,m,ba,bb,zc _⟩)) ?_)
  ·rintro g R eg dn yl y ⟨r,out',ia',ib',ac,bc⟩ st2 _ hy ⟨rfl,rfl,m',ba',bb',pr'⟩
   rw[eg]
   dsimp only at m' ba' bb' pr' ⊢
   obtain⟨y0,y1,y2,y3⟩:=q0q (a:=b) (i:=ib') (by omega)
   obtain⟨x0,x1,x2,x3⟩:=q0q (a:=a) (i:=ia') (by omega)
   refine zi (q0d y1 (zi (q0d x1 (zi (w_lt c hk1 (ob y0 y3) (oa x0 x3) ?_)))))
   dsimp only
   cases e:O.blt (kf y0) (kf x0) with
   |true=>
    refine w_T rfl ?_
    refine zi (q0d y1 ?_)
    have m2:=m'.b sb y2 fun z hz=>by
     obtain⟨j,_,ej⟩:=q15 hz
     exact zZ (KeyOrd.klt_of_klt_of_kle e (q1l sa (by omega) x2 ej))
    rw[<-zac] at m2
    by_cases he:ib'+1=b.size
    ·exact w_T (by simpa using he) (zm (dn ⟨rfl,.inl ⟨_,rfl,fB m2 he⟩⟩))
    ·refine w_F (by simpa using he) ?_
     split
     ·exact zm (dn ⟨rfl,.inr ⟨rfl,m2,ba',by show ib'+1<b.size;omega,by show ia+ib+1<=ia'+(ib'+1);omega⟩⟩)
     ·exact zm (yl ⟨rfl,rfl,m2,ba',by show ib'+1<b.size;omega,by show ia+ib+(y+1)<=ia'+(ib'+1);omega⟩)
   |false=>
    refine w_F (by decide) ?_
    refine zi (q0d x1 ?_)
    have m2:=m'.a sa x2 fun z hz=>by
     obtain⟨j,_,ej⟩:=q15 hz
     exact zL e (q1l sb (by omega) y2 ej)
    rw[<-zac] at m2
    by_cases he:ia'+1+1=a.size
    ·exact w_T (by simpa using he) (zm (dn ⟨rfl,.inl ⟨_,rfl,fA m2 he⟩⟩))
    ·refine w_F (by simpa using he) ?_
     split
     ·exact zm (dn ⟨rfl,.inr ⟨rfl,m2,by show ia'+1+1<a.size;omega,bb',by show ia+ib+1<=ia'+1+ib';omega⟩⟩)
     ·exact zm (yl ⟨rfl,rfl,m2,by show ia'+1+1<a.size;omega,bb',by show ia+ib+(y+1)<=ia'+1+ib';omega⟩)
  ·rintro ⟨r,out',ia',ib',ac,bc⟩ st2 ⟨rfl,rfl,m',ba',bb',pr'⟩
   have pr2:ia+ib+max 0 (a.size+b.size)<=ia'+ib':=pr'
   exact⟨rfl,.inr ⟨rfl,m',ba',bb',by show ia+ib+1<=ia'+ib';omega⟩⟩
  ·rintro ⟨r,out',ia',ib',ac,bc⟩ st2 ⟨rfl,hq⟩
   dsimp only at hq ⊢
   rcases hq with⟨r0,e0,hr0⟩|⟨e0,m',ba',bb',pr'⟩
   ·subst e0
    exact zm (dn ⟨q,_,rfl,hr0⟩)
   ·subst e0
    dsimp only
    refine zi (zb4 (za1 ⟨rfl,?_⟩))
    generalize hs1:ia+ib+1=s1 at pr'
    refine zi (zaw (q7l (I:=fun(y:Nat) (c:Option (Array Keyed)×Array Keyed×Nat×Nat×Nat×Nat×Nat) (st':SortSt)=>Stq st st'/\c.1=none/\MI kf a.toList b.toList c.2.1.toList c.2.2.1 c.2.2.2.1/\c.2.2.1+1<a.size/\c.2.2.2.1<b.size/\s1<=c.2.2.1+c.2.2.2.1)
     (Q:=fun(c:Option (Array Keyed)×Array Keyed×Nat×Nat×Nat×Nat×Nat) (st':SortSt)=>Stq st st'/\((∃r,c.1=some r/\Res kf a.toList b.toList r)\/c.1=none/\MI kf a.toList b.toList c.2.1.toList c.2.2.1 c.2.2.2.1/\c.2.2.1+1<a.size/\c.2.2.2.1<b.size/\s1<=c.2.2.1+c.2.2.2.1)) ?_ ?_ (show _/\_ from⟨q,rfl,m',ba',bb',pr'⟩)) ?_)
    ·clear m' ba' bb' pr' q m ba bb pr hk1
     rintro g R eg dn yl y ⟨r,out,ia,ib,mg,ac,bc⟩ st1 _ hy ⟨q,rfl,m,ba,bb,pr⟩
     rw[eg]
     dsimp only at m ba bb pr ⊢
     apply use1
     rotate_left
     ·intro key
      by_cases hg:mg>1
      ·refine w_T hg ?_
       generalize mg - 1=mg2
       exact key mg2
      ·refine w_F hg ?_
       exact key mg
     ·intro mg2
      refine zi (zaS ?_)
      obtain⟨y0,y1,y2,y3⟩:=q0q (a:=b) (i:=ib) (by omega)
      refine zi (q0d y1 ?_)
      have q3:=q
      have hk3:kindOf st1=κ:=by rw[q.1];exact hk
      refine zi (w_gr c hk3 (by omega) (ob y0 y3) oa sa fun k k1 k2 k3=>?_)
      have le1:∀z∈b.toList.drop ib,O.kle (kf y0) (kf z):=fun z hz=>by
       obtain⟨j,_,ej⟩:=q15 hz
       exact q1l sb (by omega) y2 ej
      have m2:=m.as k sa fun x hx z hz=>zL (k2 x hx) (le1 z hz)
      rw[<-q8T,<-zJ] at m2
      dsimp only
      apply use3 (F:=fun o i j=>MI kf a.toList b.toList o.toList i j/\i+1<a.size/\j<b.size/\s1<=i+j)
      rotate_left
      ·intro key
       by_cases hk0:k>0
       ·refine w_T hk0 ?_
        by_cases he:ia+k+1=a.size
        ·exact w_T (by simpa using he) (zm (dn ⟨q3,.inl ⟨_,rfl,fA m2 he⟩⟩))
        refine w_F (by simpa using he) ?_
        by_cases he2:ia+k=a.size
        ·exact w_T (by simpa using he2) (zm (dn ⟨q3,.inl ⟨_,rfl,fC m2 he2⟩⟩))
        refine w_F (by simpa using he2) ?_
        refine zi (q0d y1 ?_)
        have m3:=m2.b sb y2 fun z hz=>zZ (k3 z hz)
        rw[<-zac] at m3
        have ba2:ia+k+1<a.size:=by omega
        have pr2:s1<=ia+k+ib:=by omega
        generalize (out++a.extract ia (ia+k)).push y0=out3 at m3 ⊢
        generalize ia+k=ia2 at m3 ba2 pr2 ⊢
        by_cases hf:ib+1=b.size
        ·exact w_T (by simpa using hf) (zm (dn ⟨q3,.inl ⟨_,rfl,fB m3 hf⟩⟩))
        refine w_F (by simpa using hf) ?_
        have bb3:ib+1<b.size:=by omega
        have pr3:s1<=ia2+(ib+1):=by omega
        generalize ib+1=ib3 at m3 bb3 pr3 ⊢
        exact key out3 ia2 ib3 ⟨m3,ba2,bb3,pr3⟩
       ·refine w_F hk0 ?_
        refine zi (q0d y1 ?_)
        have m3:=m.b sb y2 fun z hz=>zZ (k3 z (by rw[show k=0 by omega];exact hz))
        rw[<-zac] at m3
        by_cases hf:ib+1=b.size
        ·exact w_T (by simpa using hf) (zm (dn ⟨q3,.inl ⟨_,rfl,fB m3 hf⟩⟩))
        refine w_F (by simpa using hf) ?_
        exact key (out.push y0) ia (ib+1) ⟨m3,ba,by omega,by omega⟩
      ·rintro out3 ia2 ib3 ⟨m3,ba2,bb3,pr3⟩
       obtain⟨x0,x1,x2,x3⟩:=q0q (a:=a) (i:=ia2) (by omega)
       refine zi (q0d x1 ?_)
       refine zi (w_gl c hk3 (by omega) (oa x0 x3) ob sb fun k' k1' k2' k3'=>?_)
       have le0:∀z∈a.toList.drop ia2,O.kle (kf x0) (kf z):=fun z hz=>by
        obtain⟨j,_,ej⟩:=q15 hz
        exact q1l sa (by omega) x2 ej
       have m4:=m3.bs k' sb fun x hx z hz=>zL (zZ (k2' x hx)) (le0 z hz)
       rw[<-q8T,<-zJ] at m4
       dsimp only
       by_cases hk0':k'>0
       ·rw [zj hk0']
        by_cases he:ib3+k'=b.size
        ·exact w_T (by simpa using he) (zm (dn ⟨q3,.inl ⟨_,rfl,fB m4 he⟩⟩))
        ·refine w_F (by simpa using he) ?_
         have m5:=m4.a sa x2 k3'
         rw[<-zac] at m5
         refine zi (q0d x1 ?_)
         by_cases hf:ia2+1+1=a.size
         ·exact w_T (by simpa using hf) (zm (dn ⟨q3,.inl ⟨_,rfl,fA m5 hf⟩⟩))
         ·refine w_F (by simpa using hf) ?_
          split
          ·exact zm (dn ⟨q3,.inr ⟨rfl,m5,by show ia2+1+1<a.size;omega,by show ib3+k'<b.size;omega,by show s1<=ia2+1+(ib3+k');omega⟩⟩)
          ·exact zm (yl ⟨q3,rfl,m5,by show ia2+1+1<a.size;omega,by show ib3+k'<b.size;omega,by show s1<=ia2+1+(ib3+k');omega⟩)
       ·rw [zd hk0']
        have hz:k'=0:=by omega
        subst hz
        have m5:=m3.a sa x2 k3'
        rw[<-zac] at m5
        refine zi (q0d x1 ?_)
        by_cases hf:ia2+1+1=a.size
        ·exact w_T (by simpa using hf) (zm (dn ⟨q3,.inl ⟨_,rfl,fA m5 hf⟩⟩))
        ·refine w_F (by simpa using hf) ?_
         split
         ·exact zm (dn ⟨q3,.inr ⟨rfl,m5,by show ia2+1+1<a.size;omega,by show ib3<b.size;omega,by show s1<=ia2+1+ib3;omega⟩⟩)
         ·exact zm (yl ⟨q3,rfl,m5,by show ia2+1+1<a.size;omega,by show ib3<b.size;omega,by show s1<=ia2+1+ib3;omega⟩)
    ·rintro ⟨r,out',ia',ib',mg',ac,bc⟩ st2 ⟨q',rfl,z⟩
     exact⟨q',.inr ⟨rfl,z⟩⟩
    ·rintro ⟨r,out2,ia2,ib2,mg2,ac,bc⟩ st2 ⟨q',hq⟩
     dsimp only at hq ⊢
     rcases hq with⟨r0,e0,hr0⟩|⟨e0,m2,ba2,bb2,pr2⟩
     ·subst e0
      exact zm (dn ⟨q',_,rfl,hr0⟩)
     ·subst e0
      dsimp only
      refine zi (zaS ?_)
      exact zm (yl ⟨rfl,q',m2,ba2,bb2,by show x+1+1<=ia2+ib2;omega⟩)
 ·rintro ⟨r,out,ia,ib,mg⟩ st1 ⟨rfl,q,m,ba,bb,pr⟩
  dsimp only at ba bb pr
  omega
 ·rintro ⟨r,out,ia,ib,mg⟩ st1 ⟨q,r0,e0,hr0⟩
  dsimp only at e0 ⊢
  subst e0
  exact zm (h _ _ hr0 q)
end
end Tim
namespace Tim
open PySem PySem.W PyProof.Rows
section
variable {prog:Program}{w:World}{A:Around}{E:Value->Shared->Prop}{s:Shared}{κ:SortKind}{O:KeyOrd}{kf:Keyed->O.α}{Ok:Keyed->Prop}
structure MH (kf:Keyed->O.α)(al bl ol:List Keyed)(na nb:Nat):Prop where
 pm:ol.Perm (al.drop na++bl.drop nb)
 so:Srd kf ol.reverse
 la:∀x∈ol,∀y∈al.take na,O.kle (kf y) (kf x)
 lb:∀x∈ol,∀y∈bl.take nb,O.kle (kf y) (kf x)
theorem q63 {l:List Keyed}{i j:Nat}(h:i<=j):l.drop i=(l.take j).drop i++l.drop j:=by
 have e:=zy j l
 conv=>lhs;rw[<-e]
 by_cases hl:i<=(l.take j).length
 ·rw [zbY hl]
 ·rw [zl] at hl
  rw[zaG (show(l.take j).length<=i by rw[zl];omega),zbR,zaG (show l.length<=j by omega),zH,zaG (by rw[zl];omega)]
theorem MH.as {al bl ol:List Keyed}{na nb:Nat}(k:Nat)(hk:k<=na)(h:MH kf al bl ol na nb)(sa:Srd kf al)(hl:∀x∈(al.take na).drop k,∀z∈bl.take nb,O.kle (kf z) (kf x)):MH kf al bl (ol++((al.take na).drop k).reverse) k nb:=by
 refine⟨?_,?_,fun x hx y hy=>?_,fun x hx y hy=>?_⟩
 ·rw [q63 (l:=al) hk]
  refine((h.pm.append (zbE _)).trans ?_)
  refine zam.trans ?_
  rw[zq]
 ·rw [List.reverse_append,List.reverse_reverse]
  exact zA.mpr ⟨sa.sublist ((zah _ _).trans (zP _ _)),h.so,fun x hx y hy=>h.la y (zag.mp hy) x (zar hx)⟩
 ·rcases zr.mp hx with hx|hx
  ·refine h.la x hx y ?_
   have e:al.take k=(al.take na).take k:=by rw[zb5,zaL hk]
   rw[e] at hy
   exact zad hy
  ·have hx':=zag.mp hx
   have e:al.take na=al.take k++(al.take na).drop k:=by
    have:=(zy k (al.take na)).symm
    rwa [zb5,zaL hk] at this
   have h2:Srd kf (al.take na):=sa.sublist (zP _ _)
   rw[e] at h2
   exact(zA.mp h2).2.2 y hy x hx'
 ·rcases zr.mp hx with hx|hx
  ·exact h.lb x hx y hy
  ·exact hl x (zag.mp hx) y hy
theorem MH.bs {al bl ol:List Keyed}{na nb:Nat}(k:Nat)(hk:k<=nb)(h:MH kf al bl ol na nb)(sb:Srd kf bl)(hl:∀x∈(bl.take nb).drop k,∀z∈al.take na,O.kle (kf z) (kf x)):MH kf al bl (ol++((bl.take nb).drop k).reverse) na k:=by
 refine⟨?_,?_,fun x hx y hy=>?_,fun x hx y hy=>?_⟩
 ·rw [q63 (l:=bl) hk]
  refine((h.pm.append (zbE _)).trans ?_)
  rw[zq]
  exact zaa _ zam
 ·rw [List.reverse_append,List.reverse_reverse]
  exact zA.mpr ⟨sb.sublist ((zah _ _).trans (zP _ _)),h.so,fun x hx y hy=>h.lb y (zag.mp hy) x (zar hx)⟩
 ·rcases zr.mp hx with hx|hx
  ·exact h.la x hx y hy
  ·exact hl x (zag.mp hx) y hy
 ·rcases zr.mp hx with hx|hx
  ·refine h.lb x hx y ?_
   have e:bl.take k=(bl.take nb).take k:=by rw[zb5,zaL hk]
   rw[e] at hy
   exact zad hy
  ·have hx':=zag.mp hx
   have e:bl.take nb=bl.take k++(bl.take nb).drop k:=by
    have:=(zy k (bl.take nb)).symm
    rwa [zb5,zaL hk] at this
   have h2:Srd kf (bl.take nb):=sb.sublist (zP _ _)
   rw[e] at h2
   exact(zA.mp h2).2.2 y hy x hx'
theorem q3F {l:List Keyed}{n:Nat}{x:Keyed}(h:l[n]? =some x):(l.take (n+1)).drop n=[x]:=by
 obtain⟨hi,e⟩:=yA h
 rw[zn hi,zbY (by rw[zl];omega),zaG (by rw[zl];omega),e]
 rfl
theorem MH.a {al bl ol:List Keyed}{na nb:Nat}{x:Keyed}(h:MH kf al bl ol (na+1) nb)(sa:Srd kf al)(hx:al[na]? =some x)(hl:∀z∈bl.take nb,O.kle (kf z) (kf x)):MH kf al bl (ol++[x]) na nb:=by
 have:=h.as na (by omega) sa (by rw[q3F hx];intro y hy z hz;rw[zu.mp hy];exact hl z hz)
 rwa [q3F hx] at this
theorem MH.b {al bl ol:List Keyed}{na nb:Nat}{x:Keyed}(h:MH kf al bl ol na (nb+1))(sb:Srd kf bl)(hx:bl[nb]? =some x)(hl:∀z∈al.take na,O.kle (kf z) (kf x)):MH kf al bl (ol++[x]) na nb:=by
 have:=h.bs nb (by omega) sb (by rw[q3F hx];intro y hy z hz;rw[zu.mp hy];exact hl z hz)
 rwa [q3F hx] at this
theorem MH.ab {al bl ol:List Keyed}{na nb:Nat}{r:Array Keyed}(h:MH kf al bl ol na nb)(sa:Srd kf al)(sb:Srd kf bl)(hl:∀x∈al.take na,∀y∈bl.take nb,O.kle (kf x) (kf y))(er:r.toList=al.take na++bl.take nb++ol.reverse):Res kf al bl r:=by
 unfold Res
 rw[er]
 constructor
 ·refine (zaa _ ((zbE _).trans h.pm)).trans ?_
  rw[zq]
  refine(zaa _ (?_:(bl.take nb++(al.drop na++bl.drop nb)).Perm (al.drop na++(bl.take nb++bl.drop nb)))).trans ?_
  ·rw [<-zq,<-zq]
   exact zam.append_right _
  ·rw [<-zq,zy,zy]
 ·exact zA.mpr ⟨zA.mpr ⟨sa.sublist (zP _ _),sb.sublist (zP _ _),hl⟩,h.so,fun x hx y hy=>by
   rcases zr.mp hx with hx|hx
   ·exact h.la y (zag.mp hy) x hx
   ·exact h.lb y (zag.mp hy) x hx⟩
theorem MH.ba {al bl ol:List Keyed}{na nb:Nat}{r:Array Keyed}(h:MH kf al bl ol na nb)(sa:Srd kf al)(sb:Srd kf bl)(hl:∀y∈bl.take nb,∀x∈al.take na,O.kle (kf y) (kf x))(er:r.toList=bl.take nb++al.take na++ol.reverse):Res kf al bl r:=by
 unfold Res
 rw[er]
 constructor
 ·refine (zaa _ ((zbE _).trans h.pm)).trans ?_
  rw[zq]
  refine(zaa _ (zbV (show al.take na++(al.drop na++bl.drop nb)=al++bl.drop nb by rw[<-zq,zy]))).trans ?_
  rw[<-zq]
  refine(zam.append_right _).trans ?_
  rw[zq,zy]
 ·exact zA.mpr ⟨zA.mpr ⟨sb.sublist (zP _ _),sa.sublist (zP _ _),hl⟩,h.so,fun x hx y hy=>by
   rcases zr.mp hx with hx|hx
   ·exact h.lb y (zag.mp hy) x hx
   ·exact h.la y (zag.mp hy) x hx⟩
theorem q2u (a:Array Keyed)(n:Nat):(a.extract 0 n).toList=a.toList.take n:=by
 rw[za3,zaJ,List.drop_zero,Nat.sub_zero]
theorem q79 (a:Array Keyed)(i n:Nat):((a.extract i n).reverse).toList=((a.toList.take n).drop i).reverse:=by
 rw[zbp,za3,zaJ,List.drop_take]
theorem q0v {l:List Keyed}{n:Nat}{x:Keyed}(h:x∈l.take n):∃j,j<n/\l[j]? =some x:=by
 obtain⟨j,hj,e⟩:=q3E (i:=0) (by simpa using h)
 exact⟨j,hj,by simpa using e⟩
theorem q4A {l:List Keyed}{i n:Nat}{x:Keyed}(h:x∈(l.take n).drop i):∃j,i<=j/\j<n/\l[j]? =some x:=by
 rw[List.drop_take] at h
 obtain⟨j,hj,e⟩:=q3E h
 exact⟨i+j,by omega,by omega,e⟩
theorem w_hl (c:Cmp prog w A s κ O kf Ok){key:Keyed}{arr:Array Keyed}{n:Nat}{st:SortSt}{Q:Option Nat->SortSt->Prop}(hk:kindOf st=κ)(h0:0<n)(hn:n<=arr.size)(ok:Ok key)(oa:∀x∈arr.toList,Ok x)(sa:Srd kf arr.toList)
  (h:∀k,k<=n->(∀x∈arr.toList.take k,O.klt (kf x) (kf key))->(∀x∈(arr.toList.take n).drop k,O.kle (kf key) (kf x))->Q (some k) st):wpS (model prog w) A E s (q3h true key arr 0 n (n - 1)) Q st:=by
 refine q2Q c (B:=fun i=>match arr[0+i]? with|some p=>O.blt (kf p) (kf key)|none=>false) hk (by omega) ok (fun i hi=>?_) (fun i j h1 h2 h3=>?_) fun k k1 k2 k3=>?_
 ·obtain ⟨x,h1,h2,h3⟩:=q0q (a:=arr) (i:=0+i) (by omega)
  exact⟨x,h1,oa x h3,by rw[h1];rfl⟩
 ·obtain ⟨x,x1,x2,x3⟩:=q0q (a:=arr) (i:=0+i) (by omega)
  obtain⟨y,y1,y2,y3⟩:=q0q (a:=arr) (i:=0+j) (by omega)
  rw[y1] at h3
  rw[x1]
  exact za5 (q1l sa (by omega) x2 y2) h3
 ·refine h k k1 (fun x hx=>?_) fun x hx=>?_
  ·obtain ⟨j,hj,e⟩:=q0v hx
   have:=k2 j hj
   rw[show arr[0+j]? =some x by rw[zbW];simpa using e] at this
   exact this
  ·obtain ⟨j,hj1,hj2,e⟩:=q4A hx
   have:=k3 j hj1 hj2
   rw[show arr[0+j]? =some x by rw[zbW];simpa using e] at this
   exact this
theorem w_hr (c:Cmp prog w A s κ O kf Ok){key:Keyed}{arr:Array Keyed}{n:Nat}{st:SortSt}{Q:Option Nat->SortSt->Prop}(hk:kindOf st=κ)(h0:0<n)(hn:n<=arr.size)(ok:Ok key)(oa:∀x∈arr.toList,Ok x)(sa:Srd kf arr.toList)
  (h:∀k,k<=n->(∀x∈arr.toList.take k,O.kle (kf x) (kf key))->(∀x∈(arr.toList.take n).drop k,O.klt (kf key) (kf x))->Q (some k) st):wpS (model prog w) A E s (q3h false key arr 0 n (n - 1)) Q st:=by
 refine q2Q c (B:=fun i=>match arr[0+i]? with|some p=> !O.blt (kf key) (kf p)|none=>false) hk (by omega) ok (fun i hi=>?_) (fun i j h1 h2 h3=>?_) fun k k1 k2 k3=>?_
 ·obtain ⟨x,h1,h2,h3⟩:=q0q (a:=arr) (i:=0+i) (by omega)
  exact⟨x,h1,oa x h3,by rw[h1];rfl⟩
 ·obtain ⟨x,x1,x2,x3⟩:=q0q (a:=arr) (i:=0+i) (by omega)
  obtain⟨y,y1,y2,y3⟩:=q0q (a:=arr) (i:=0+j) (by omega)
  rw[y1] at h3
  rw[x1]
  have h3':O.kle (kf y) (kf key):=by show O.blt (kf key) (kf y)=false;simpa using h3
  have:=zL (q1l sa (by omega) x2 y2) h3'
  show(!O.blt (kf key) (kf x))=true
  rw[this]
  rfl
 ·refine h k k1 (fun x hx=>?_) fun x hx=>?_
  ·obtain ⟨j,hj,e⟩:=q0v hx
   have:=k2 j hj
   rw[show arr[0+j]? =some x by rw[zbW];simpa using e] at this
   show O.blt (kf key) (kf x)=false
   simpa using this
  ·obtain ⟨j,hj1,hj2,e⟩:=q4A hx
   have:=k3 j hj1 hj2
   rw[show arr[0+j]? =some x by rw[zbW];simpa using e] at this
   show O.blt (kf key) (kf x)=true
   simpa using this
theorem MH.a' {al bl ol:List Keyed}{na nb:Nat}{x:Keyed}(h1:1<=na)(h:MH kf al bl ol na nb)(sa:Srd kf al)(hx:al[na - 1]? =some x)(hl:∀z∈bl.take nb,O.kle (kf z) (kf x)):MH kf al bl (ol++[x]) (na - 1) nb:=by
 obtain⟨n,rfl⟩:∃n,na=n+1:=⟨na - 1,by omega⟩
 exact h.a sa hx hl
theorem MH.b' {al bl ol:List Keyed}{na nb:Nat}{x:Keyed}(h1:1<=nb)(h:MH kf al bl ol na nb)(sb:Srd kf bl)(hx:bl[nb - 1]? =some x)(hl:∀z∈al.take na,O.kle (kf z) (kf x)):MH kf al bl (ol++[x]) na (nb - 1):=by
 obtain⟨n,rfl⟩:∃n,nb=n+1:=⟨nb - 1,by omega⟩
 exact h.b sb hx hl
theorem q7V (c:Cmp prog w A s κ O kf Ok){a b:Array Keyed}{st:SortSt}{Q:Array Keyed->SortSt->Prop}(hk:kindOf st=κ)(oa:∀x∈a.toList,Ok x)(ob:∀x∈b.toList,Ok x)(sa:Srd kf a.toList)(sb:Srd kf b.toList)(ha:0<a.size)(hb:0<b.size)
  (hd:∀x∈a.toList,∀y,b.toList[0]? =some y->O.kle (kf y) (kf x))(hl:∀y∈b.toList,∀x,a.toList[a.size - 1]? =some x->O.kle (kf y) (kf x))
  (h:∀r st',Res kf a.toList b.toList r->Stq st st'->Q r st'):wpS (model prog w) A E s (qah a b) Q st:=by
 have fA:∀{out:Array Keyed} {na nb:Nat},MH kf a.toList b.toList out.toList na nb->na=0->Res kf a.toList b.toList (a.extract 0 na++b.extract 0 nb++out.reverse):=fun {out na nb} m e=>by
  refine m.ab sa sb (fun x hx y hy=>?_) (by rw[zJ,zJ,q2u,q2u,zbp])
  subst e
  simp at hx
 have fC:∀{out:Array Keyed} {na nb:Nat},MH kf a.toList b.toList out.toList na nb->nb=0->Res kf a.toList b.toList (a.extract 0 na++b.extract 0 nb++out.reverse):=fun {out na nb} m e=>by
  refine m.ab sa sb (fun x hx y hy=>?_) (by rw[zJ,zJ,q2u,q2u,zbp])
  subst e
  simp at hy
 have fB:∀{out:Array Keyed} {na nb:Nat},MH kf a.toList b.toList out.toList na nb->nb=1->Res kf a.toList b.toList (b.extract 0 nb++a.extract 0 na++out.reverse):=fun {out na nb} m e=>by
  refine m.ba sa sb (fun y hy x hx=>?_) (by rw[zJ,zJ,q2u,q2u,zbp])
  obtain⟨j,hj,ej⟩:=q0v hy
  have:j=0:=by omega
  subst this
  exact hd x (zad hx) y ej
 obtain⟨x0,x1,x2,x3⟩:=q0q (a:=a) (i:=a.size - 1) (by omega)
 have m0:MH kf a.toList b.toList (#[x0]:Array Keyed).toList (a.size - 1) b.size:=by
  have:=(show MH kf a.toList b.toList [] a.size b.size from⟨by simp,List.Pairwise.nil,fun x hx=>(nomatch hx),fun x hx=>(nomatch hx)⟩).a' ha sa x2 fun z hz=>hl z (zad hz) x0 x2
  simpa using this
 refine zi (zb4 (za1 ⟨rfl,?_⟩))
 refine zi (q0d x1 ?_)
 dsimp only
 by_cases e1:a.size - 1=0
 ·exact w_T (by simpa using e1) (zm (h _ _ (fA m0 e1) ⟨rfl,rfl,rfl,rfl⟩))
 refine w_F (by simpa using e1) ?_
 by_cases e2:b.size=1
 ·exact w_T (by simpa using e2) (zm (h _ _ (fB m0 e2) ⟨rfl,rfl,rfl,rfl⟩))
 refine w_F (by simpa using e2) ?_
 refine zi (zbs ?_)
 refine zi (zaw (q7l (I:=fun(x:Nat) (c:Option (Array Keyed)×Nat×Nat×Array Keyed×Nat) (st':SortSt)=>c.1=none/\Stq st st'/\MH kf a.toList b.toList c.2.2.2.1.toList c.2.1 c.2.2.1/\1<=c.2.1/\2<=c.2.2.1/\c.2.1+c.2.2.1+x+1<=a.size+b.size/\c.2.1<=a.size/\c.2.2.1<=b.size)
  (Q:=fun(c:Option (Array Keyed)×Nat×Nat×Array Keyed×Nat) (st':SortSt)=>Stq st st'/\∃r,c.1=some r/\Res kf a.toList b.toList r) ?_ ?_ (show _/\_ from⟨rfl,⟨rfl,rfl,rfl,rfl⟩,m0,by show 1<=a.size - 1;omega,by show 2<=b.size;omega,by show a.size - 1+b.size+0+1<=a.size+b.size;omega,by show a.size - 1<=a.size;omega,zc _⟩)) ?_)
 ·rintro g R eg dn yl x ⟨r,na,nb,out,mg⟩ st1 _ hx ⟨rfl,q,m,ba,bb,pr,za,zb⟩
  rw[eg]
  dsimp only at m ba bb pr za zb ⊢
  have hk1:kindOf st1=κ:=by rw[q.1];exact hk
  refine zi (zaw (q7l (I:=fun(y:Nat) (c:Option (Array Keyed)×Nat×Nat×Array Keyed×Nat×Nat) (st':SortSt)=>st1=st'/\c.1=none/\MH kf a.toList b.toList c.2.2.2.1.toList c.2.1 c.2.2.1/\1<=c.2.1/\2<=c.2.2.1/\c.2.1+c.2.2.1+y<=na+nb/\c.2.1<=a.size/\c.2.2.1<=b.size)
   (Q:=fun(c:Option (Array Keyed)×Nat×Nat×Array Keyed×Nat×Nat) (st':SortSt)=>st1=st'/\((∃r,c.1=some r/\Res kf a.toList b.toList r)\/c.1=none/\MH kf a.toList b.toList c.2.2.2.1.toList c.2.1 c.2.2.1/\1<=c.2.1/\2<=c.2.2.1/\c.2.1+c.2.2.1+1<=na+nb/\c.2.1<=a.size/\c.2.2.1<=b.size)) ?_ ?_ (show _/\_ from⟨rfl,rfl,m,ba,bb,zc _,za,zb⟩)) ?_)
  ·rintro g R eg dn yl y ⟨r,na',nb',out',ac,bc⟩ st2 _ hy ⟨rfl,rfl,m',ba',bb',pr',za',zb'⟩
   rw[eg]
   dsimp only at m' ba' bb' pr' za' zb' ⊢
   obtain⟨y0,y1,y2,y3⟩:=q0q (a:=b) (i:=nb' - 1) (by omega)
   obtain⟨x0,x1,x2,x3⟩:=q0q (a:=a) (i:=na' - 1) (by omega)
   refine zi (q0d y1 (zi (q0d x1 (zi (w_lt c hk1 (ob y0 y3) (oa x0 x3) ?_)))))
   dsimp only
   cases e:O.blt (kf y0) (kf x0) with
   |true=>
    refine w_T rfl ?_
    refine zi (q0d x1 ?_)
    have m2:=m'.a' ba' sa x2 fun z hz=>by
     obtain⟨j,hj,ej⟩:=q0v hz
     exact zZ (za5 (q1l sb (by omega) ej y2) e)
    rw[<-zac] at m2
    by_cases he:na' - 1=0
    ·exact w_T (by simpa using he) (zm (dn ⟨rfl,.inl ⟨_,rfl,fA m2 he⟩⟩))
    ·refine w_F (by simpa using he) ?_
     split
     ·exact zm (dn ⟨rfl,.inr ⟨rfl,m2,by show 1<=na' - 1;omega,bb',by show na' - 1+nb'+1<=na+nb;omega,by show na' - 1<=a.size;omega,zb'⟩⟩)
     ·exact zm (yl ⟨rfl,rfl,m2,by show 1<=na' - 1;omega,bb',by show na' - 1+nb'+(y+1)<=na+nb;omega,by show na' - 1<=a.size;omega,zb'⟩)
   |false=>
    refine w_F (by decide) ?_
    refine zi (q0d y1 ?_)
    have m2:=m'.b' (by omega) sb y2 fun z hz=>by
     obtain⟨j,hj,ej⟩:=q0v hz
     exact zL (q1l sa (by omega) ej x2) e
    rw[<-zac] at m2
    by_cases he:nb' - 1=1
    ·exact w_T (by simpa using he) (zm (dn ⟨rfl,.inl ⟨_,rfl,fB m2 he⟩⟩))
    ·refine w_F (by simpa using he) ?_
     split
     ·exact zm (dn ⟨rfl,.inr ⟨rfl,m2,ba',by show 2<=nb' - 1;omega,by show na'+(nb' - 1)+1<=na+nb;omega,za',by show nb' - 1<=b.size;omega⟩⟩)
     ·exact zm (yl ⟨rfl,rfl,m2,ba',by show 2<=nb' - 1;omega,by show na'+(nb' - 1)+(y+1)<=na+nb;omega,za',by show nb' - 1<=b.size;omega⟩)
  ·rintro ⟨r,na',nb',out',ac,bc⟩ st2 ⟨rfl,rfl,m',ba',bb',pr',zz⟩
   have pr2:na'+nb'+max 0 (a.size+b.size)<=na+nb:=pr'
   exact⟨rfl,.inr ⟨rfl,m',ba',bb',by show na'+nb'+1<=na+nb;omega,zz⟩⟩
  ·rintro ⟨r,na',nb',out',ac,bc⟩ st2 ⟨rfl,hq⟩
   dsimp only at hq ⊢
   rcases hq with⟨r0,e0,hr0⟩|⟨e0,m',ba',bb',pr',za',zb'⟩
   ·subst e0
    exact zm (dn ⟨q,_,rfl,hr0⟩)
   ·subst e0
    dsimp only
    refine zi (zb4 (za1 ⟨rfl,?_⟩))
    obtain⟨s1,hs1⟩:∃s1,s1+1=na+nb:=⟨na+nb - 1,by omega⟩
    have pr1:na'+nb'<=s1:=by omega
    refine zi (zaw (q7l (I:=fun(y:Nat) (c:Option (Array Keyed)×Nat×Nat×Array Keyed×Nat×Nat×Nat) (st':SortSt)=>Stq st st'/\c.1=none/\MH kf a.toList b.toList c.2.2.2.1.toList c.2.1 c.2.2.1/\1<=c.2.1/\2<=c.2.2.1/\c.2.1+c.2.2.1<=s1/\c.2.1<=a.size/\c.2.2.1<=b.size)
     (Q:=fun(c:Option (Array Keyed)×Nat×Nat×Array Keyed×Nat×Nat×Nat) (st':SortSt)=>Stq st st'/\((∃r,c.1=some r/\Res kf a.toList b.toList r)\/c.1=none/\MH kf a.toList b.toList c.2.2.2.1.toList c.2.1 c.2.2.1/\1<=c.2.1/\2<=c.2.2.1/\c.2.1+c.2.2.1<=s1/\c.2.1<=a.size/\c.2.2.1<=b.size)) ?_ ?_ (show _/\_ from⟨q,rfl,m',ba',bb',pr1,za',zb'⟩)) ?_)
    ·clear m' ba' bb' pr' q m ba bb hk1 za zb za' zb' pr1 x2 x3 x1
     rintro g R eg dn yl y ⟨r,na,nb,out,mg,ac,bc⟩ st1 _ hy ⟨q,rfl,m,ba,bb,pr,za,zb⟩
     rw[eg]
     dsimp only at m ba bb pr za zb ⊢
     apply use1
     rotate_left
     ·intro key
      by_cases hg:mg>1
      ·refine w_T hg ?_
       generalize mg - 1=mg2
       exact key mg2
      ·refine w_F hg ?_
       exact key mg
     ·intro mg2
      refine zi (zaS ?_)
      obtain⟨y0,y1,y2,y3⟩:=q0q (a:=b) (i:=nb - 1) (by omega)
      refine zi (q0d y1 ?_)
      have q3:=q
      have hk3:kindOf st1=κ:=by rw[q.1];exact hk
      refine zi (w_hr c hk3 (by omega) (by omega) (ob y0 y3) oa sa fun k k1 k2 k3=>?_)
      have le1:∀z∈b.toList.take nb,O.kle (kf z) (kf y0):=fun z hz=>by
       obtain⟨j,hj,ej⟩:=q0v hz
       exact q1l sb (by omega) ej y2
      have m2:=m.as k k1 sa fun x hx z hz=>zL (le1 z hz) (zZ (k3 x hx))
      rw[<-q79,<-zJ] at m2
      dsimp only
      generalize hkc:na - k=kc
      apply use3 (F:=fun o i j=>MH kf a.toList b.toList o.toList i j/\1<=i/\i<=a.size/\2<=j/\j<=b.size/\i+j<=s1)
      rotate_left
      ·intro key
       by_cases hk0:kc>0
       ·refine w_T hk0 ?_
        by_cases he:k=0
        ·exact w_T (by simpa using he) (zm (dn ⟨q3,.inl ⟨_,rfl,fA m2 he⟩⟩))
        refine w_F (by simpa using he) ?_
        refine zi (q0d y1 ?_)
        have m3:=m2.b' (by omega) sb y2 k2
        rw[<-zac] at m3
        have ba2:1<=k:=by omega
        have za2:k<=a.size:=by omega
        have pr2:k+nb<=s1:=by omega
        generalize (out++(a.extract k na).reverse).push y0=out3 at m3 ⊢
        generalize k=na2 at m3 ba2 pr2 za2 ⊢
        by_cases hf:nb - 1=1
        ·exact w_T (by simpa using hf) (zm (dn ⟨q3,.inl ⟨_,rfl,fB m3 hf⟩⟩))
        refine w_F (by simpa using hf) ?_
        have bb3:2<=nb - 1:=by omega
        have zb3:nb - 1<=b.size:=by omega
        have pr3:na2+(nb - 1)<=s1:=by omega
        generalize nb - 1=nb3 at m3 bb3 pr3 zb3 ⊢
        exact key out3 na2 nb3 ⟨m3,ba2,za2,bb3,zb3,pr3⟩
       ·refine w_F hk0 ?_
        refine zi (q0d y1 ?_)
        have m3:=m.b' (by omega) sb y2 (by rw[show k=na by omega] at k2;exact k2)
        rw[<-zac] at m3
        by_cases hf:nb - 1=1
        ·exact w_T (by simpa using hf) (zm (dn ⟨q3,.inl ⟨_,rfl,fB m3 hf⟩⟩))
        refine w_F (by simpa using hf) ?_
        exact key (out.push y0) na (nb - 1) ⟨m3,ba,za,by omega,by omega,by omega⟩
      ·rintro out3 na2 nb3 ⟨m3,ba2,za2,bb3,zb3,pr3⟩
       obtain⟨x0,x1,x2,x3⟩:=q0q (a:=a) (i:=na2 - 1) (by omega)
       refine zi (q0d x1 ?_)
       refine zi (w_hl c hk3 (by omega) (by omega) (oa x0 x3) ob sb fun k' k1' k2' k3'=>?_)
       have le0:∀z∈a.toList.take na2,O.kle (kf z) (kf x0):=fun z hz=>by
        obtain⟨j,hj,ej⟩:=q0v hz
        exact q1l sa (by omega) ej x2
       have m4:=m3.bs k' k1' sb fun x hx z hz=>zL (le0 z hz) (k3' x hx)
       rw[<-q79,<-zJ] at m4
       dsimp only
       by_cases hk0':nb3 - k'>0
       ·rw [zj hk0']
        by_cases he:k'=1
        ·exact w_T (by simpa using he) (zm (dn ⟨q3,.inl ⟨_,rfl,fB m4 he⟩⟩))
        refine w_F (by simpa using he) ?_
        by_cases he2:k'=0
        ·exact w_T (by simpa using he2) (zm (dn ⟨q3,.inl ⟨_,rfl,fC m4 he2⟩⟩))
        refine w_F (by simpa using he2) ?_
        have m5:=m4.a' (by omega) sa x2 fun z hz=>zZ (k2' z hz)
        rw[<-zac] at m5
        refine zi (q0d x1 ?_)
        by_cases hf:na2 - 1=0
        ·exact w_T (by simpa using hf) (zm (dn ⟨q3,.inl ⟨_,rfl,fA m5 hf⟩⟩))
        ·refine w_F (by simpa using hf) ?_
         split
         ·exact zm (dn ⟨q3,.inr ⟨rfl,m5,by show 1<=na2 - 1;omega,by show 2<=k';omega,by show na2 - 1+k'<=s1;omega,by show na2 - 1<=a.size;omega,by show k'<=b.size;omega⟩⟩)
         ·exact zm (yl ⟨q3,rfl,m5,by show 1<=na2 - 1;omega,by show 2<=k';omega,by show na2 - 1+k'<=s1;omega,by show na2 - 1<=a.size;omega,by show k'<=b.size;omega⟩)
       ·rw [zd hk0']
        have hz:k'=nb3:=by omega
        subst hz
        have m5:=m3.a' (by omega) sa x2 fun z hz=>zZ (k2' z hz)
        rw[<-zac] at m5
        refine zi (q0d x1 ?_)
        by_cases hf:na2 - 1=0
        ·exact w_T (by simpa using hf) (zm (dn ⟨q3,.inl ⟨_,rfl,fA m5 hf⟩⟩))
        ·refine w_F (by simpa using hf) ?_
         split
         ·exact zm (dn ⟨q3,.inr ⟨rfl,m5,by show 1<=na2 - 1;omega,by show 2<=k';omega,by show na2 - 1+k'<=s1;omega,by show na2 - 1<=a.size;omega,by show k'<=b.size;omega⟩⟩)
         ·exact zm (yl ⟨q3,rfl,m5,by show 1<=na2 - 1;omega,by show 2<=k';omega,by show na2 - 1+k'<=s1;omega,by show na2 - 1<=a.size;omega,by show k'<=b.size;omega⟩)
    ·rintro ⟨r,na',nb',out',mg',ac,bc⟩ st2 ⟨q',rfl,z⟩
     exact⟨q',.inr ⟨rfl,z⟩⟩
    ·rintro ⟨r,na2,nb2,out2,mg2,ac,bc⟩ st2 ⟨q',hq⟩
     dsimp only at hq ⊢
     rcases hq with⟨r0,e0,hr0⟩|⟨e0,m2,ba2,bb2,pr2,zz⟩
     ·subst e0
      exact zm (dn ⟨q',_,rfl,hr0⟩)
     ·subst e0
      dsimp only
      refine zi (zaS ?_)
      exact zm (yl ⟨rfl,q',m2,ba2,bb2,by show na2+nb2+(x+1)+1<=a.size+b.size;omega,zz⟩)
 ·rintro ⟨r,na,nb,out,mg⟩ st1 ⟨rfl,q,m,ba,bb,pr,zz⟩
  dsimp only at ba bb pr
  omega
 ·rintro ⟨r,na,nb,out,mg⟩ st1 ⟨q,r0,e0,hr0⟩
  dsimp only at e0 ⊢
  subst e0
  exact zm (h _ _ hr0 q)
end
end Tim
namespace Tim
open PySem PySem.W PyProof.Rows
theorem q8l:∀(m:List Keyed) (o:Nat) (k:Nat) (a:Array Keyed),o+k+m.length<=a.size->
  ((m.zipIdx k).foldl (fun a (p,j)=>a.setIfInBounds (o+j) p) a).toList=a.toList.take (o+k)++m++a.toList.drop (o+k+m.length)
 |[],o,k,a,_=>by simp
 |p::m,o,k,a,h=>by
  rw[zaf] at h
  rw[List.zipIdx_cons,zcx,q8l m o (k+1) _ (by rw[Array.size_setIfInBounds];omega)]
  have hlt:o+k<a.toList.length:=by simp;omega
  rw[zcj,show o+(k+1)=o+k+1 by omega,List.take_set,List.drop_set]
  rw[zj (by omega),zn hlt,List.set_append_right _ _ (by rw[zl];omega)]
  have e:o+k - (a.toList.take (o+k)).length=0:=by rw[zl];omega
  rw[e,List.set_cons_zero,zaf,show o+k+1+m.length=o+k+(m.length+1) by omega]
  simp
theorem q6S {A B:List Keyed}{n:Nat}(h:n=A.length):(A++B).drop n=B:=by subst h;simp
theorem seg {A B C:List Keyed}{i j:Nat}(hi:i=A.length)(hj:j=i+B.length){a:Array Keyed}(e:a.toList=A++B++C):(a.extract i j).toList=B:=by
 rw[za3,zaJ,e,zq,q6S hi,show j - i=B.length by omega,zcA]
 rfl
theorem q8d {A B C:List Keyed}{i j:Nat}(hi:i=A.length)(hj:j<B.length){a:Array Keyed}(e:a.toList=A++B++C):a[i+j]? =some B[j]:=by
 rw[<-zaV,e,zq,zF (by omega),zI (by omega),show i+j - A.length=j by omega]
 exact yB hj
section
variable {prog:Program}{w:World}{A:Around}{E:Value->Shared->Prop}{s:Shared}{κ:SortKind}{O:KeyOrd}{kf:Keyed->O.α}{Ok:Keyed->Prop}
theorem w_seg (c:Cmp prog w A s κ O kf Ok){left:Bool}{key:Keyed}{arr:Array Keyed}{n hint base:Nat}{L B R:List Keyed}{st:SortSt}{Q:Option Nat->SortSt->Prop}(hk:kindOf st=κ)(e:arr.toList=L++B++R)(hb:base=L.length)(hn:n=B.length)(hh:hint<n)(ok:Ok key)(ob:∀x∈B,Ok x)(sb:Srd kf B)
  (h:∀k,k<=n->(∀x∈B.take k,bdB kf left key x=true)->(∀x∈B.drop k,bdB kf left key x=false)->Q (some k) st):wpS (model prog w) A E s (q3h left key arr base n hint) Q st:=by
 refine q2Q c (B:=fun i=>match B[i]? with|some p=>bdB kf left key p|none=>false) hk hh ok (fun i hi=>?_) (fun i j h1 h2 h3=>?_) fun k k1 k2 k3=>?_
 ·have hi':i<B.length:=by omega
  exact⟨B[i],q8d hb hi' e,ob _ (zx hi'),by rw[yB hi']⟩
 ·have hi:i<B.length:=by omega
  have hj:j<B.length:=by omega
  rw[yB hj] at h3
  rw[yB hi]
  have le:=q1l sb h1 (yB hi) (yB hj)
  cases left with
  |true=>exact za5 le h3
  |false=>
   have h3':O.kle (kf B[j]) (kf key):=by show O.blt (kf key) (kf B[j])=false;simpa[bdB] using h3
   have:=zL le h3'
   show(!O.blt (kf key) (kf B[i]))=true
   rw[this]
   rfl
 ·refine h k k1 (fun x hx=>?_) fun x hx=>?_
  ·obtain ⟨j,hj,ej⟩:=q0v hx
   have:=k2 j hj
   rw[ej] at this
   exact this
  ·obtain ⟨j,hj,ej⟩:=q15 hx
   have:=k3 (k+j) (by omega) (by omega)
   rw[ej] at this
   exact this
theorem qbb {st st1:SortSt}{Q:PUnit->SortSt->Prop}(h:Q ⟨⟩ st1):wpS (model prog w) A E s (set st1:StateT SortSt Sem PUnit) Q st:=by
 unfold wpS;rw[StateT.run_set];exact wpAny_pure ⟨rfl,h⟩
def offs:Nat->List (List Keyed)->List (Nat×Nat)
 |_,[]=>[]
 |o,r::rs=>(o,r.length)::offs (o+r.length) rs
theorem q3D:∀(o:Nat) (A B:List (List Keyed)),offs o (A++B)=offs o A++offs (o+A.flatten.length) B
 |o,[],B=>by simp[offs]
 |o,r::A,B=>by
  simp only[List.cons_append,offs,q3D (o+r.length) A B,List.flatten_cons,List.length_append]
  rw[show o+r.length+A.flatten.length=o+(r.length+A.flatten.length) by omega]
theorem q23:∀(o:Nat) (A:List (List Keyed)),(offs o A).length=A.length
 |_,[]=>rfl
 |o,r::A=>by simp[offs,q23 (o+r.length) A]
abbrev pr2 (p:Nat×Nat×Nat):Nat×Nat:=(p.1,p.2.1)
structure Rns (kf:Keyed->O.α)(Ok:Keyed->Prop)(a0:List Keyed)(st:SortSt)(Rs:List (List Keyed))(rest:List Keyed):Prop where
 arr:(arrOf st).toList=Rs.flatten++rest
 pm:(arrOf st).toList.Perm a0
 so:∀r∈Rs,Srd kf r/\r≠[]
 pd:(pendingOf st).toList.map pr2=offs 0 Rs
 fl:failedOf st=none
theorem q7x {p:Array (Nat×Nat×Nat)}{P S:List (List Keyed)}{X Y Z:List Keyed}{i sa na nb pw:Nat}(e:p.toList.map pr2=offs 0 (P++X::Y::S))(hi:i=P.length)(h1:sa=P.flatten.length)(h2:na+nb=Z.length)(hz:Z.length=X.length+Y.length):
  ((p.setIfInBounds i (sa,na+nb,pw)).eraseIdxIfInBounds (i+1)).toList.map pr2=offs 0 (P++Z::S):=by
 rw[q3D] at e ⊢
 rw[zbW] at e ⊢
 obtain⟨l1,l',el,e1,e'⟩:=List.map_eq_append_iff.mp e
 simp only[offs] at e'
 obtain⟨x,l'',ex,e3,e4⟩:=List.map_eq_cons_iff.mp e'
 obtain⟨y,l2,ey,e5,e6⟩:=List.map_eq_cons_iff.mp e4
 have hl1:l1.length=i:=by have:=zM List.length e1;rw[yC,q23] at this;omega
 rw[Array.toList_eraseIdxIfInBounds,zcj,el,ex,ey]
 subst hi
 rw[show(l1++x::y::l2).set P.length (sa,na+nb,pw)=l1++(sa,na+nb,pw)::y::l2 by rw[List.set_append_right _ _ (by omega),hl1,Nat.sub_self];rfl]
 rw[show(l1++(sa,na+nb,pw)::y::l2).eraseIdx (P.length+1)=l1++(sa,na+nb,pw)::l2 by rw[List.eraseIdx_append_of_length_le (by omega),hl1,show P.length+1 - P.length=1 by omega];rfl]
 rw[zv,z8,e1,e6]
 simp only[offs,pr2,h1,h2]
 rw[hz,show P.flatten.length+X.length+Y.length=P.flatten.length+(X.length+Y.length) by omega]
theorem q59 (c:Cmp prog w A s κ O kf Ok){a0:List Keyed}{st:SortSt}{P:List (List Keyed)}{X Y:List Keyed}{S:List (List Keyed)}{rest:List Keyed}{i:Nat}{Q:Bool->SortSt->Prop}(o0:∀x∈a0,Ok x)(hk:kindOf st=κ)(hi:i=P.length)(R:Rns kf Ok a0 st (P++X::Y::S) rest)
  (h:∀(Z:List Keyed) (st':SortSt),kindOf st'=κ->Rns kf Ok a0 st' (P++Z::S) rest->Q true st'):wpS (model prog w) A E s (mergeAt' i) Q st:=by
 have oall:∀x∈(arrOf st).toList,Ok x:=fun x hx=>o0 x (R.pm.mem_iff.mp hx)
 obtain⟨sX,nX⟩:=R.so X (by simp)
 obtain⟨sY,nY⟩:=R.so Y (by simp)
 have hpX:0<X.length:=za9.mpr nX
 have hpY:0<Y.length:=za9.mpr nY
 have ea:(arrOf st).toList=P.flatten++X++Y++(S.flatten++rest):=by rw[R.arr];simp
 have epd:=R.pd
 rw[q3D] at epd
 obtain⟨pa,ha,ea1⟩:∃pa,(pendingOf st)[i]? =some pa/\pr2 pa=(P.flatten.length,X.length):=by
  have:((pendingOf st).toList.map pr2)[i]? =some (P.flatten.length,X.length):=by
   rw[epd,zF (by rw[q23];omega),q23,show i - P.length=0 by omega]
   simp[offs]
  rw[zT] at this
  obtain⟨pa,h1,h2⟩:=zaR.mp this
  exact⟨pa,by simpa using h1,h2⟩
 obtain⟨pb,hb,eb1⟩:∃pb,(pendingOf st)[i+1]? =some pb/\pr2 pb=(P.flatten.length+X.length,Y.length):=by
  have:((pendingOf st).toList.map pr2)[i+1]? =some (P.flatten.length+X.length,Y.length):=by
   rw[epd,zF (by rw[q23];omega),q23,show i+1 - P.length=1 by omega]
   simp[offs]
  rw[zT] at this
  obtain⟨pb,h1,h2⟩:=zaR.mp this
  exact⟨pb,by simpa using h1,h2⟩
 obtain⟨sa,na,pw⟩:=pa
 obtain⟨sb,nb,pw'⟩:=pb
 simp only[pr2,Prod.mk.injEq] at ea1 eb1
 refine zi (zbs ?_)
 dsimp only
 obtain⟨esa,ena⟩:=ea1
 obtain⟨esb,enb⟩:=eb1
 have fin:∀(Z:List Keyed) (st':SortSt),kindOf st'=κ->failedOf st'=none->pendingOf st'=((pendingOf st).setIfInBounds i (sa,na+nb,pw)).eraseIdxIfInBounds (i+1)->(arrOf st').toList=P.flatten++Z++(S.flatten++rest)->Z.Perm (X++Y)->Srd kf Z->Q true st':=fun Z st' g1 g2 g3 g4 g5 g6=>by
  have hz:Z.length=X.length+Y.length:=by rw[g5.length_eq,zk]
  refine h Z st' g1 ⟨by rw[g4];simp,?_,fun r hr=>?_,by rw[g3];exact q7x R.pd hi esa (by omega) hz,g2⟩
  ·refine List.Perm.trans ?_ R.pm
   rw[g4,ea]
   refine List.Perm.append_right _ ?_
   rw[zq]
   exact zaa _ g5
  ·rcases zr.mp hr with hr|hr
   ·exact R.so r (by simp[hr])
   ·rcases zU.mp hr with rfl|hr
    ·exact ⟨g6,fun z=>by rw[z] at hz;simp at hz;omega⟩
    ·exact R.so r (by simp[hr])
 have same:(arrOf st).toList=P.flatten++(X++Y)++(S.flatten++rest):=by rw[ea];simp
 have oX:∀x∈X,Ok x:=fun x hx=>oall x (by rw[ea];simp[hx])
 have oY:∀x∈Y,Ok x:=fun x hx=>oall x (by rw[ea];simp[hx])
 have hY0:(arrOf st)[sb]? =some Y[0]:=by
  have:=q8d (A:=P.flatten++X) (B:=Y) (C:=S.flatten++rest) (i:=sb) (j:=0) (by rw[zk];omega) hpY ea
  simpa using this
 have hXl:(arrOf st)[sa+(na - 1)]? =some (X[na - 1]'(by omega)):=q8d (A:=P.flatten) (B:=X) (C:=Y++(S.flatten++rest)) (i:=sa) (j:=na - 1) esa (by omega) (by rw[ea];simp)
 simp only[ha,hb]
 refine zi (qbb ?_)
 refine zi (q0d hY0 ?_)
 refine zi (w_seg c (left:=false) (L:=P.flatten) (B:=X) (R:=Y++(S.flatten++rest)) hk (by rw[ea];simp) esa ena (by omega) (oY _ (zx _)) oX sX fun k k1 k2 k3=>?_)
 dsimp only
 have leY:∀y∈Y,O.kle (kf Y[0]) (kf y):=fun y hy=>by
  obtain⟨j,hj,ej⟩:=zaP hy
  exact q1l sY (zan j) (yB hpY) (by rw[yB hj,ej])
 have k2':∀x∈X.take k,O.kle (kf x) (kf Y[0]):=fun x hx=>by show O.blt (kf Y[0]) (kf x)=false;simpa[bdB] using k2 x hx
 have k3':∀x∈X.drop k,O.klt (kf Y[0]) (kf x):=fun x hx=>by show O.blt (kf Y[0]) (kf x)=true;simpa[bdB] using k3 x hx
 by_cases e1:na - k=0
 ·rw [zj (by simpa using e1)]
  refine zm (fin (X++Y) _ hk R.fl rfl same (zcD _) (zA.mpr ⟨sX,sY,fun x hx y hy=>?_⟩))
  exact zL (k2' x (by rw[zaQ (by omega)];exact hx)) (leY y hy)
 rw[zd (by simpa using e1)]
 rw[show sa+k+(na - k) - 1=sa+(na - 1) by omega]
 refine zi (q0d hXl ?_)
 have leX:∀x∈X,O.kle (kf x) (kf (X[na - 1]'(by omega))):=fun x hx=>by
  obtain⟨j,hj,ej⟩:=zaP hx
  exact q1l sX (i:=j) (j:=na - 1) (by omega) (by rw[yB hj,ej]) (yB (by omega))
 refine zi (w_seg c (left:=true) (L:=P.flatten++X) (B:=Y) (R:=S.flatten++rest) hk ea (by rw[zk];omega) enb (by omega) (oX _ (zx _)) oY sY fun m m1 m2 m3=>?_)
 dsimp only
 have m2':∀y∈Y.take m,O.klt (kf y) (kf (X[na - 1]'(by omega))):=fun y hy=>by show O.blt _ _=true;simpa[bdB] using m2 y hy
 have m3':∀y∈Y.drop m,O.kle (kf (X[na - 1]'(by omega))) (kf y):=fun y hy=>by show O.blt _ _=false;simpa[bdB] using m3 y hy
 by_cases e2:m=0
 ·rw [zj (by simpa using e2)]
  refine zm (fin (X++Y) _ hk R.fl rfl same (zcD _) (zA.mpr ⟨sX,sY,fun x hx y hy=>?_⟩))
  exact zL (leX x hx) (m3' y (by rw[e2];exact hy))
 rw[zd (by simpa using e2)]
 have eX:(P.flatten++X.take k)++X.drop k++(Y++(S.flatten++rest))=P.flatten++X++Y++(S.flatten++rest):=by
  rw[zq (P.flatten),zy]
  simp
 have eY:(P.flatten++X)++Y.take m++(Y.drop m++(S.flatten++rest))=P.flatten++X++Y++(S.flatten++rest):=by
  rw[zq _ (Y.take m),<-zq (Y.take m),zy]
  simp
 have s1:((arrOf st).extract (sa+k) sb).toList=X.drop k:=seg (A:=P.flatten++X.take k) (B:=X.drop k) (C:=Y++(S.flatten++rest)) (by rw[zk,zl];omega) (by rw[zS];omega) (by rw[ea,eX])
 have s2:((arrOf st).extract sb (sb+m)).toList=Y.take m:=seg (A:=P.flatten++X) (B:=Y.take m) (C:=Y.drop m++(S.flatten++rest)) (by rw[zk];omega) (by rw[zl];omega) (by rw[ea,eY])
 have z1:((arrOf st).extract (sa+k) sb).size=na - k:=by rw[<-zE,s1,zS];omega
 have z2:((arrOf st).extract sb (sb+m)).size=m:=by rw[<-zE,s2,zl];omega
 have hd:∀x∈((arrOf st).extract (sa+k) sb).toList,∀y,((arrOf st).extract sb (sb+m)).toList[0]? =some y->O.kle (kf y) (kf x):=fun x hx y hy=>by
  rw[s1] at hx
  rw[s2,List.getElem?_take_of_lt (by omega),yB hpY] at hy
  cases hy
  exact zZ (k3' x hx)
 have hl:∀y∈((arrOf st).extract sb (sb+m)).toList,∀x,((arrOf st).extract (sa+k) sb).toList[((arrOf st).extract (sa+k) sb).size - 1]? =some x->O.kle (kf y) (kf x):=fun y hy x hx=>by
  rw[s2] at hy
  rw[s1,z1,zcb,show k+(na - k - 1)=na - 1 by omega,yB (by omega)] at hx
  cases hx
  exact zZ (m2' y hy)
 have oa:∀x∈((arrOf st).extract (sa+k) sb).toList,Ok x:=fun x hx=>by rw[s1] at hx;exact oX x (zar hx)
 have ob:∀x∈((arrOf st).extract sb (sb+m)).toList,Ok x:=fun x hx=>by rw[s2] at hx;exact oY x (zad hx)
 have sA:Srd kf ((arrOf st).extract (sa+k) sb).toList:=by rw[s1];exact sX.sublist (zah _ _)
 have sB:Srd kf ((arrOf st).extract sb (sb+m)).toList:=by rw[s2];exact sY.sublist (zP _ _)
 have put:∀(r:Array Keyed) (st':SortSt),Res kf ((arrOf st).extract (sa+k) sb).toList ((arrOf st).extract sb (sb+m)).toList r->kindOf st'=κ->failedOf st'=none->pendingOf st'=((pendingOf st).setIfInBounds i (sa,na+nb,pw)).eraseIdxIfInBounds (i+1)->arrOf st'=List.foldl (fun a (x:Keyed×Nat)=>a.setIfInBounds (sa+k+x.2) x.1) (arrOf st) r.toList.zipIdx->Q true st':=fun r st' hr g1 g2 g3 g4=>by
  obtain⟨r1,r2⟩:=hr
  rw[s1,s2] at r1
  have rl:r.toList.length=na - k+m:=by rw[r1.length_eq,zk,zS,zl];omega
  refine fin (X.take k++r.toList++Y.drop m) st' g1 g2 g3 ?_ ?_ ?_
  ·have al:(arrOf st).toList.length=P.flatten.length+X.length+Y.length+(S.flatten++rest).length:=by rw[ea];simp;omega
   rw[g4,q8l r.toList (sa+k) 0 (arrOf st) (by rw[<-zE];omega)]
   rw[zcv,rl]
   have t1:(arrOf st).toList.take (sa+k)=P.flatten++X.take k:=by
    rw[ea,<-eX,zq,zcA (by rw[zk,zl];omega)]
   have t2:(arrOf st).toList.drop (sa+k+(na - k+m))=Y.drop m++(S.flatten++rest):=by
    rw[ea,<-eY,q6S (by rw[zk,zk,zl];omega)]
   rw[t1,t2]
   simp
  ·refine (List.Perm.append_right _ (zaa _ r1)).trans ?_
   rw[<-zq,zy,zq,zy]
  ·refine zA.mpr ⟨zA.mpr ⟨sX.sublist (zP _ _),r2,fun x hx y hy=>?_⟩,sY.sublist (zah _ _),fun x hx y hy=>?_⟩
   ·rcases zr.mp (r1.mem_iff.mp hy) with hy|hy
    ·have:=sX
     rw[<-zy k X] at this
     exact(zA.mp this).2.2 x hx y hy
    ·exact zL (k2' x hx) (leY y (zad hy))
   ·rcases zr.mp hx with hx|hx
    ·exact zL (leX x (zad hx)) (m3' y hy)
    ·rcases zr.mp (r1.mem_iff.mp hx) with hx|hx
     ·exact zL (leX x (zar hx)) (m3' y hy)
     ·have:=sY
      rw[<-zy m Y] at this
      exact(zA.mp this).2.2 x hx y hy
 by_cases hle:na - k<=m
 ·rw [zj hle]
  refine zi (q7U c hk oa ob sA sB (show 0<((arrOf st).extract (sa+k) sb).size by omega) (show 0<((arrOf st).extract sb (sb+m)).size by omega) hd hl fun r st' hr q=>?_)
  refine zi (zaS (zi (zbs ?_)))
  have ef:failedOf st'=none:=q.2.2.2.trans R.fl
  have e0:(failedOf st').isNone=true:=by rw[ef];rfl
  refine zm ?_
  show Q (failedOf st').isNone _
  rw[e0]
  exact put r _ hr (q.1.trans hk) ef q.2.2.1 (by show List.foldl _ (arrOf st') _=_;rw[q.2.1])
 ·rw [zd hle]
  refine zi (q7V c hk oa ob sA sB (show 0<((arrOf st).extract (sa+k) sb).size by omega) (show 0<((arrOf st).extract sb (sb+m)).size by omega) hd hl fun r st' hr q=>?_)
  refine zi (zaS (zi (zbs ?_)))
  have ef:failedOf st'=none:=q.2.2.2.trans R.fl
  have e0:(failedOf st').isNone=true:=by rw[ef];rfl
  refine zm ?_
  show Q (failedOf st').isNone _
  rw[e0]
  exact put r _ hr (q.1.trans hk) ef q.2.2.1 (by show List.foldl _ (arrOf st') _=_;rw[q.2.1])
end
end Tim
namespace Tim
open PySem PySem.W PyProof.Rows
section
variable {prog:Program}{w:World}{A:Around}{E:Value->Shared->Prop}{s:Shared}{κ:SortKind}{O:KeyOrd}{kf:Keyed->O.α}{Ok:Keyed->Prop}
def Kx (kf:Keyed->O.α)(a:Array Keyed)(i:Nat):O.α:=kf (a.getD i (Value.none,Value.none))
theorem q3a {a b:Array Keyed}{i j:Nat}(h:a[i]? =b[j]?):Kx kf a i=Kx kf b j:=by
 unfold Kx
 rw[zbl,zbl,h]
theorem qcw {a:Array Keyed}{i:Nat}{x:Keyed}(h:a[i]? =some x):Kx kf a i=kf x:=by
 unfold Kx
 rw[zbl,h]
 rfl
theorem q4s (c:Cmp prog w A s κ O kf Ok){i j:Nat}{st:SortSt}{Q:Option Bool->SortSt->Prop}(hk:kindOf st=κ)(hi:i<(arrOf st).size)(hj:j<(arrOf st).size)(ok:∀x∈(arrOf st).toList,Ok x)(h:Q (some (O.blt (Kx kf (arrOf st) i) (Kx kf (arrOf st) j))) st):wpS (model prog w) A E s (ltAt' i j) Q st:=by
 obtain⟨x,x1,x2,x3⟩:=q0q hi
 obtain⟨y,y1,y2,y3⟩:=q0q hj
 rw[qcw x1,qcw y1] at h
 rw[ltAt'_eq]
 exact zi (zbs (zi (q0d x1 (zi (q0d y1 (w_lt c hk (ok x x3) (ok y y3) h))))))
structure Chg (st st':SortSt)(lo hi:Nat):Prop where
 kd:kindOf st'=kindOf st
 pd:pendingOf st'=pendingOf st
 fl:failedOf st'=failedOf st
 pm:(arrOf st').Perm (arrOf st)
 out:∀j,(j<lo\/hi<=j)->(arrOf st')[j]? =(arrOf st)[j]?
theorem Chg.refl (st:SortSt)(lo hi:Nat):Chg st st lo hi:=⟨rfl,rfl,rfl,Array.Perm.refl _,fun _ _=>rfl⟩
theorem Chg.rev {st st1:SortSt}{lo hi i j:Nat}(h:Chg st st1 lo hi)(hi':lo<=i)(hj:j<=hi)(hs:hi<=(arrOf st1).size):Chg st (setArr st1 (mirror (arrOf st1) i j ((j - i) / 2))) lo hi:=
 ⟨h.kd,h.pd,h.fl,(mirror_perm _ _ _ _).trans h.pm,fun k hk=>by
  show(mirror (arrOf st1) i j ((j - i) / 2))[k]? =_
  rw[getElem?_mirror_all (by omega),zd (by omega)]
  exact h.out k hk⟩
theorem Chg.bub {st st1:SortSt}{lo hi src d:Nat}(h:Chg st st1 lo hi)(h1:src<hi)(h2:d<=src)(h3:lo<=src - d)(hs:hi<=(arrOf st1).size):Chg st (setArr st1 (bubble (arrOf st1) src d)) lo hi:=
 ⟨h.kd,h.pd,h.fl,(bubble_perm _ _ _).trans h.pm,fun k hk=>by
  show(bubble (arrOf st1) src d)[k]? =_
  rw[getElem?_bubble (by omega) d h2,zd (by omega),zd (by omega)]
  exact h.out k hk⟩
theorem q9w {i j:Nat}{st:SortSt}{Q:Unit->SortSt->Prop}(h:Q () (setArr st (mirror (arrOf st) i j ((j - i) / 2)))):wpS (model prog w) A E s (reverseSlice' i j) Q st:=by
 rw[reverseSlice'_eq]
 exact zaS h
theorem w_down {i j:Nat}{st:SortSt}{Q:Unit->SortSt->Prop}(h:Q () (setArr st (bubble (arrOf st) i (i - j)))):wpS (model prog w) A E s (moveDown' i j) Q st:=by
 rw[moveDown'_eq]
 exact zaS h
theorem q9u {a:Array Keyed}{i j:Nat}(hj:j<=a.size)(k:Nat):Kx kf (mirror a i j ((j - i) / 2)) k=if i<=k/\k<j then Kx kf a (i+j - 1 - k) else Kx kf a k:=by
 have e:=getElem?_mirror_all (i:=i) hj k
 by_cases h1:i<=k/\k<j
 ·rw [zj h1] at e ⊢;exact q3a e
 ·rw [zd h1] at e ⊢;exact q3a e
theorem q57 {a:Array Keyed}{i j:Nat}(hj:j<=a.size)(heq:∀k,i<=k->k<j->Kx kf a k=Kx kf a (j - 1))(k:Nat):Kx kf (mirror a i j ((j - i) / 2)) k=Kx kf a k:=by
 rw[q9u hj]
 split
 ·rw [heq _ (by omega) (by omega),heq k (by omega) (by omega)]
 ·rfl
theorem q9v {a:Array Keyed}{src d:Nat}(hs:src<a.size)(hd:d<=src)(k:Nat):Kx kf (bubble a src d) k=if k=src - d then Kx kf a src else if src - d<k/\k<=src then Kx kf a (k - 1) else Kx kf a k:=by
 have e:=getElem?_bubble hs d hd k
 split
 ·rename_i h;rw[zj h] at e;exact q3a e
 ·rename_i h
  rw[zd h] at e
  split
  ·rename_i h2;rw[zj h2] at e;exact q3a e
  ·rename_i h2;rw[zd h2] at e;exact q3a e
def Upx (kf:Keyed->O.α)(a:Array Keyed)(lo m:Nat):Prop:=∀i j,i<=j->j<m->O.kle (Kx kf a (lo+i)) (Kx kf a (lo+j))
def Dnx (kf:Keyed->O.α)(a:Array Keyed)(lo m:Nat):Prop:=∀i j,i<=j->j<m->O.kle (Kx kf a (lo+j)) (Kx kf a (lo+i))
abbrev Eqx (kf:Keyed->O.α)(a:Array Keyed)(lo m q:Nat):Prop:=∀i,m - (q+1)<=i->i<m->Kx kf a (lo+i)=Kx kf a (lo+m - 1)
theorem Upx.one {a:Array Keyed}{lo:Nat}:Upx kf a lo 1:=fun i j h1 h2=>by
 have:i=j:=by omega
 subst this
 exact zaD _
theorem Upx.snoc {a:Array Keyed}{lo m:Nat}(h:Upx kf a lo m)(h1:1<=m)(hl:O.kle (Kx kf a (lo+m - 1)) (Kx kf a (lo+m))):Upx kf a lo (m+1):=fun i j hij hj=>by
 by_cases e:j=m
 ·subst e
  by_cases e2:i=j
  ·subst e2;exact zaD _
  ·have:=h i (j - 1) (by omega) (by omega)
   rw[show lo+(j - 1)=lo+j - 1 by omega] at this
   exact zL this hl
 ·exact h i j hij (by omega)
theorem Dnx.snoc {a:Array Keyed}{lo m:Nat}(h:Dnx kf a lo m)(h1:1<=m)(hl:O.kle (Kx kf a (lo+m)) (Kx kf a (lo+m - 1))):Dnx kf a lo (m+1):=fun i j hij hj=>by
 by_cases e:j=m
 ·subst e
  by_cases e2:i=j
  ·subst e2;exact zaD _
  ·have:=h i (j - 1) (by omega) (by omega)
   rw[show lo+(j - 1)=lo+j - 1 by omega] at this
   exact zL hl this
 ·exact h i j hij (by omega)
set_option hygiene false in
theorem w_two {α:Type}{c:Prop}[Decidable c]{p q:StateT SortSt Sem α}{R:SortSt->Prop}{Q:α->SortSt->Prop}{st:SortSt}(D:∀st0,R st0->wpS (model prog w) A E s q Q st0)(h1:c->(∀st0,R st0->wpS (model prog w) A E s q Q st0)->wpS (model prog w) A E s p Q st)(h2:¬c->R st):wpS (model prog w) A E s (if c then p else q) Q st:=by
 by_cases h:c
 ·rw [zj h];exact h1 h D
 ·rw [zd h];exact D st (h2 h)
theorem qbd (c:Cmp prog w A s κ O kf Ok){lo nrem:Nat}{st:SortSt}{Q:Option Nat->SortSt->Prop}(hk:kindOf st=κ)(ok:∀x∈(arrOf st).toList,Ok x)(hn:1<=nrem)(hs:lo+nrem<=(arrOf st).size)
  (h:∀m st',1<=m->m<=nrem->Chg st st' lo (lo+nrem)->Upx kf (arrOf st') lo m->Q (some m) st'):wpS (model prog w) A E s (countRun' lo nrem) Q st:=by
 obtain⟨st1,est⟩:∃st1,st1=st:=⟨st,rfl⟩
 have hk1:kindOf st1=κ:=by rw[est];exact hk
 have ok1:∀x∈(arrOf st1).toList,Ok x:=by rw[est];exact ok
 have sz:(arrOf st1).size=(arrOf st).size:=by rw[est]
 have u1:Upx kf (arrOf st1) lo 1:=Upx.one
 have hc0:Chg st st1 lo (lo+nrem):=by rw[est];exact Chg.refl _ _ _
 rw[<-est]
 refine zi (zaw (zat (I:=fun(x:Nat) (c:Option (Option Nat)×Nat) (st':SortSt)=>st1=st'/\c.1=none/\x=c.2/\Upx kf (arrOf st1) lo c.2)
  (Q:=fun(c:Option (Option Nat)×Nat) (st':SortSt)=>st1=st'/\c.1=none/\1<=c.2/\c.2<=nrem/\Upx kf (arrOf st1) lo c.2/\(c.2=nrem\/O.klt (Kx kf (arrOf st1) (lo+c.2)) (Kx kf (arrOf st1) (lo+c.2 - 1)))) ?_ ?_ (show _/\_ from⟨rfl,rfl,rfl,u1⟩)) ?_)
 ·rintro x ⟨r,n⟩ st2 hx1 hx2 ⟨rfl,rfl,e,u⟩
  dsimp only at e u ⊢
  subst e
  refine zi (q4s c hk1 (by omega) (by omega) ok1 ?_)
  dsimp only
  cases eb:O.blt (Kx kf (arrOf st1) (lo+x)) (Kx kf (arrOf st1) (lo+x - 1)) with
  |true=>
   rw[zj rfl]
   exact zm ⟨rfl,rfl,by show 1<=x;omega,by show x<=nrem;omega,u,.inr eb⟩
  |false=>
   rw[zd (by decide)]
   exact zm ⟨rfl,rfl,rfl,u.snoc (by omega) eb⟩
 ·rintro ⟨r,n⟩ st2 ⟨rfl,rfl,e,u⟩
  dsimp only at e u
  exact⟨rfl,rfl,by show 1<=n;omega,by show n<=nrem;omega,u,.inl (by show n=nrem;omega)⟩
 rintro⟨r,n⟩ st2 ⟨rfl,rfl,g1,g2,g3,g4⟩
 dsimp only at g1 g2 g3 g4 ⊢
 by_cases e:n=nrem
 ·rw [zj (by simpa using e)]
  exact zm (h n st1 g1 g2 hc0 g3)
 rw[zd (by simpa using e)]
 have hl:=g4.resolve_left e
 refine w_two (R:=fun st0=>Chg st st0 lo (lo+nrem)/\Dnx kf (arrOf st0) lo (n+1)) ?_ (fun hn1 D=>?_) (fun hn1=>⟨hc0,?_⟩)
 ·clear hl g3 g4 u1 hc0 sz ok1 hk1 est
  clear st1
  rintro st1 ⟨hc,dn⟩
  refine zi (zb4 (za1 ⟨rfl,?_⟩))
  refine zi (zaw (zat (I:=fun(x:Nat) (c:Option (Option Nat)×Nat×Nat) (st':SortSt)=>Chg st st' lo (lo+nrem)/\c.1=none/\x=c.2.1/\Dnx kf (arrOf st') lo c.2.1/\c.2.2+1<=c.2.1/\Eqx kf (arrOf st') lo c.2.1 c.2.2)
   (Q:=fun(c:Option (Option Nat)×Nat×Nat) (st':SortSt)=>Chg st st' lo (lo+nrem)/\c.1=none/\c.2.1<=nrem/\Dnx kf (arrOf st') lo c.2.1/\c.2.2+1<=c.2.1/\Eqx kf (arrOf st') lo c.2.1 c.2.2) ?_ ?_ (show _/\_ from⟨hc,rfl,rfl,dn,by show 0+1<=n+1;omega,fun i h1 h2=>by have h1':n+1 - (0+1)<=i:=h1;have h2':i<n+1:=h2;rw[show i=n by omega];show _=Kx kf _ (lo+(n+1) - 1);rw[show lo+(n+1) - 1=lo+n by omega]⟩)) ?_)
  ·clear dn hc
   rintro x ⟨r,n,q⟩ st1 hx1 hx2 ⟨hc,rfl,e,dn,hq,he⟩
   dsimp only at e dn hq he ⊢
   subst e
   have sz:(arrOf st1).size=(arrOf st).size:=hc.pm.size_eq
   have hk1:kindOf st1=κ:=hc.kd.trans hk
   have ok1:∀y∈(arrOf st1).toList,Ok y:=fun y hy=>ok y (hc.pm.toList.mem_iff.mp hy)
   refine zi (q4s c hk1 (by omega) (by omega) ok1 ?_)
   dsimp only
   have one:∀a,Eqx kf a lo (x+1) 0:=fun a i h1 h2=>by rw[show i=x by omega,show lo+(x+1) - 1=lo+x by omega]
   cases eb:O.blt (Kx kf (arrOf st1) (lo+x)) (Kx kf (arrOf st1) (lo+x - 1)) with
   |true=>
    rw[zj rfl]
    have dn':Dnx kf (arrOf st1) lo (x+1):=dn.snoc (by omega) (zZ eb)
    by_cases hq0:q>0
    ·rw [zj hq0]
     refine zi (q9w (zm ⟨hc.rev (by omega) (by omega) (by omega),rfl,rfl,fun i j h1 h2=>?_,by show 0+1<=x+1;omega,one _⟩))
     have kk:=q57 (kf:=kf) (a:=arrOf st1) (i:=lo+x - (q+1)) (j:=lo+x) (by omega) fun k h1 h2=>by
      have:=he (k - lo) (by omega) (by omega)
      rwa [show lo+(k - lo)=k by omega] at this
     show O.kle (Kx kf (mirror _ _ _ _) _) (Kx kf (mirror _ _ _ _) _)
     rw[kk,kk]
     exact dn' i j h1 h2
    ·rw [zd hq0]
     exact zm ⟨hc,rfl,rfl,dn',by show 0+1<=x+1;omega,one _⟩
   |false=>
    rw[zd (by decide)]
    refine zi (q4s c hk1 (by omega) (by omega) ok1 ?_)
    dsimp only
    cases eb2:O.blt (Kx kf (arrOf st1) (lo+x - 1)) (Kx kf (arrOf st1) (lo+x)) with
    |true=>
     rw[zj rfl]
     exact zm ⟨hc,rfl,by show x<=nrem;omega,dn,hq,he⟩
    |false=>
     rw[zd (by decide)]
     have eq:=O.total _ _ eb eb2
     refine zm ⟨hc,rfl,rfl,dn.snoc (by omega) eb2,by show q+1+1<=x+1;omega,fun i h1 h2=>?_⟩
     have h1':x+1 - (q+1+1)<=i:=h1
     have h2':i<x+1:=h2
     show _=Kx kf _ (lo+(x+1) - 1)
     rw[show lo+(x+1) - 1=lo+x by omega]
     by_cases ei:i=x
     ·rw [ei]
     ·rw [eq]
      exact he i (by omega) (by omega)
  ·rintro ⟨r,n,q⟩ st1 ⟨hc,rfl,e,z⟩
   dsimp only at e
   exact⟨hc,rfl,by show n<=nrem;omega,z⟩
  ·clear dn hc
   rintro⟨r,n,q⟩ st1 ⟨hc,rfl,hn,dn,hq,he⟩
   dsimp only at hn dn hq he ⊢
   have sz:(arrOf st1).size=(arrOf st).size:=hc.pm.size_eq
   have fin:∀st1,Chg st st1 lo (lo+nrem)->Dnx kf (arrOf st1) lo n->Chg st (setArr st1 (mirror (arrOf st1) lo (lo+n) ((lo+n - lo) / 2))) lo (lo+nrem)/\Upx kf (mirror (arrOf st1) lo (lo+n) ((lo+n - lo) / 2)) lo n:=fun st1 hc dn=>by
    have sz:(arrOf st1).size=(arrOf st).size:=hc.pm.size_eq
    refine⟨hc.rev (by omega) (by omega) (by omega),fun i j h1 h2=>?_⟩
    rw[q9u (by omega),q9u (by omega),zj (by omega),zj (by omega),show lo+(lo+n) - 1 - (lo+i)=lo+(n - 1 - i) by omega,show lo+(lo+n) - 1 - (lo+j)=lo+(n - 1 - j) by omega]
    exact dn _ _ (by omega) (by omega)
   refine w_two (R:=fun st0=>Chg st st0 lo (lo+nrem)/\Dnx kf (arrOf st0) lo n) ?_ (fun hq0 D=>?_) (fun _=>⟨hc,dn⟩)
   ·clear dn hc he sz
    clear st1
    rintro st1 ⟨hc,dn⟩
    refine zi (q9w ?_)
    obtain⟨hc2,u0⟩:=fin st1 hc dn
    generalize hst:setArr st1 (mirror (arrOf st1) lo (lo+n) ((lo+n - lo) / 2))=st3 at hc2
    have u1:Upx kf (arrOf st3) lo n:=by rw[<-hst];exact u0
    clear hst u0 fin dn hc
    clear st1
    obtain⟨st1,rfl⟩:∃st1,st1=st3:=⟨_,rfl⟩
    have sz:(arrOf st1).size=(arrOf st).size:=hc2.pm.size_eq
    have hk1:kindOf st1=κ:=hc2.kd.trans hk
    have ok1:∀y∈(arrOf st1).toList,Ok y:=fun y hy=>ok y (hc2.pm.toList.mem_iff.mp hy)
    refine zi (zaw (zat (I:=fun(x:Nat) (c:Option (Option Nat)×Nat) (st':SortSt)=>st1=st'/\c.1=none/\x=c.2/\Upx kf (arrOf st1) lo c.2)
     (Q:=fun(c:Option (Option Nat)×Nat) (st':SortSt)=>st1=st'/\c.1=none/\1<=c.2/\c.2<=nrem/\Upx kf (arrOf st1) lo c.2/\(c.2=nrem\/O.klt (Kx kf (arrOf st1) (lo+c.2)) (Kx kf (arrOf st1) (lo+c.2 - 1)))) ?_ ?_ (show _/\_ from⟨rfl,rfl,rfl,u1⟩)) ?_)
    ·rintro x ⟨r,n⟩ st2 hx1 hx2 ⟨rfl,rfl,e,u⟩
     dsimp only at e u ⊢
     subst e
     refine zi (q4s c hk1 (by omega) (by omega) ok1 ?_)
     dsimp only
     cases eb:O.blt (Kx kf (arrOf st1) (lo+x)) (Kx kf (arrOf st1) (lo+x - 1)) with
     |true=>
      rw[zj rfl]
      exact zm ⟨rfl,rfl,by show 1<=x;omega,by show x<=nrem;omega,u,.inr eb⟩
     |false=>
      rw[zd (by decide)]
      exact zm ⟨rfl,rfl,rfl,u.snoc (by omega) eb⟩
    ·rintro ⟨r,n⟩ st2 ⟨rfl,rfl,e,u⟩
     dsimp only at e u
     exact⟨rfl,rfl,by show 1<=n;omega,by show n<=nrem;omega,u,.inl (by show n=nrem;omega)⟩
    rintro⟨r,m⟩ st2 ⟨rfl,rfl,g1,g2,g3,_⟩
    exact zm (h m st1 g1 g2 hc2 g3)
   ·refine zi (q9w ?_)
    have kk:=q57 (kf:=kf) (a:=arrOf st1) (i:=lo+n - (q+1)) (j:=lo+n) (by omega) fun k h1 h2=>by
     have:=he (k - lo) (by omega) (by omega)
     rwa [show lo+(k - lo)=k by omega] at this
    exact D _ ⟨hc.rev (by omega) (by omega) (by omega),fun i j h1 h2=>by
     show O.kle (Kx kf (mirror _ _ _ _) _) (Kx kf (mirror _ _ _ _) _)
     rw[kk,kk]
     exact dn i j h1 h2⟩
 ·refine zi (q4s c hk1 (by omega) (by omega) ok1 ?_)
  dsimp only
  cases eb:O.blt (Kx kf (arrOf st1) lo) (Kx kf (arrOf st1) (lo+n - 1)) with
  |true=>
   rw[zj rfl]
   exact zm (h n st1 g1 g2 hc0 g3)
  |false=>
   rw[zd (by decide)]
   have eqs:∀i,i<n->Kx kf (arrOf st1) (lo+i)=Kx kf (arrOf st1) (lo+n - 1):=fun i hi=>by
    have a1:=g3 i (n - 1) (by omega) (by omega)
    rw[show lo+(n - 1)=lo+n - 1 by omega] at a1
    have a2:=g3 0 i (by omega) hi
    rw[zcv] at a2
    exact KeyOrd.kle_antisymm a1 (zL (show O.kle (Kx kf (arrOf st1) (lo+n - 1)) (Kx kf (arrOf st1) lo) from eb) a2)
   have kk:=q57 (kf:=kf) (a:=arrOf st1) (i:=lo) (j:=lo+n) (by omega) fun k h1 h2=>by
    have:=eqs (k - lo) (by omega)
    rwa [show lo+(k - lo)=k by omega] at this
   refine zi (q9w ?_)
   refine D _ ⟨hc0.rev (i:=lo) (j:=lo+n) (by omega) (by omega) (by omega),fun i j h1 h2=>?_⟩
   show O.kle (Kx kf (mirror _ _ _ _) _) (Kx kf (mirror _ _ _ _) _)
   rw[kk,kk]
   by_cases ej:j=n
   ·by_cases ei:i=n
    ·rw [ej,ei];exact zaD _
    ·rw [ej,eqs i (by omega)];exact zZ hl
   ·rw [eqs i (by omega),eqs j (by omega)];exact zaD _
 ·have hz:n=1:=by omega
  intro i j h1 h2
  subst hz
  by_cases ej:j=1
  ·by_cases ei:i=1
   ·rw [ej,ei];exact zaD _
   ·rw [ej,show i=0 by omega,zcv]
    exact zZ hl
  ·rw [show i=0 by omega,show j=0 by omega];exact zaD _
theorem w_bin (c:Cmp prog w A s κ O kf Ok){lo n m:Nat}{st:SortSt}{Q:Bool->SortSt->Prop}(hk:kindOf st=κ)(ok:∀x∈(arrOf st).toList,Ok x)(hm:1<=m)(hmn:m<=n)(hs:lo+n<=(arrOf st).size)(u0:Upx kf (arrOf st) lo m)
  (h:∀st',Chg st st' lo (lo+n)->Upx kf (arrOf st') lo n->Q true st'):wpS (model prog w) A E s (binarySort' lo n m) Q st:=by
 refine zi (zaw (zat (I:=fun(x:Nat) (c:Option Bool×Unit) (st':SortSt)=>Chg st st' lo (lo+n)/\c.1=none/\Upx kf (arrOf st') lo x)
  (Q:=fun(c:Option Bool×Unit) (st':SortSt)=>Chg st st' lo (lo+n)/\c.1=none/\Upx kf (arrOf st') lo n) ?_ ?_ (show _/\_ from⟨Chg.refl _ _ _,rfl,by rw[Nat.max_eq_left hm];exact u0⟩)) ?_)
 ·rintro k ⟨r,⟨⟩⟩ st1 hk1 hk2 ⟨hc,rfl,u⟩
  dsimp only
  have sz:(arrOf st1).size=(arrOf st).size:=hc.pm.size_eq
  have hkd:kindOf st1=κ:=hc.kd.trans hk
  have ok1:∀y∈(arrOf st1).toList,Ok y:=fun y hy=>ok y (hc.pm.toList.mem_iff.mp hy)
  refine zi (zaw (zat (I:=fun(y:Nat) (c:Option Bool×Nat×Nat) (st':SortSt)=>st1=st'/\c.1=none/\c.2.1<=c.2.2/\c.2.2<=k/\c.2.2 - c.2.1<=k - y/\(∀i,i<c.2.1->O.kle (Kx kf (arrOf st1) (lo+i)) (Kx kf (arrOf st1) (lo+k)))/\∀i,c.2.2<=i->i<k->O.klt (Kx kf (arrOf st1) (lo+k)) (Kx kf (arrOf st1) (lo+i)))
   (Q:=fun(c:Option Bool×Nat×Nat) (st':SortSt)=>st1=st'/\c.1=none/\c.2.1=c.2.2/\c.2.2<=k/\(∀i,i<c.2.1->O.kle (Kx kf (arrOf st1) (lo+i)) (Kx kf (arrOf st1) (lo+k)))/\∀i,c.2.2<=i->i<k->O.klt (Kx kf (arrOf st1) (lo+k)) (Kx kf (arrOf st1) (lo+i))) ?_ ?_ (show _/\_ from⟨rfl,rfl,zan _,zc _,zc _,fun i hi=>absurd hi (zcB _),fun i h1 h2=>absurd h2 (Nat.not_lt.mpr h1)⟩)) ?_)
  ·rintro y ⟨r,l,rr⟩ st2 _ hy ⟨rfl,rfl,g1,g2,g3,g4,g5⟩
   dsimp only at g1 g2 g3 g4 g5 ⊢
   by_cases hge:l≥rr
   ·rw [zj hge]
    exact zm ⟨rfl,rfl,by show l=rr;omega,g2,g4,g5⟩
   ·rw [zd hge]
    refine zi (q4s c hkd (by omega) (by omega) ok1 ?_)
    dsimp only
    cases e:O.blt (Kx kf (arrOf st1) (lo+k)) (Kx kf (arrOf st1) (lo+(l+rr) / 2)) with
    |true=>
     rw[zj rfl]
     exact zm ⟨rfl,rfl,by show l<=(l+rr) / 2;omega,by show(l+rr) / 2<=k;omega,by show(l+rr) / 2 - l<=k - (y+1);omega,g4,fun i h1 h2=>KeyOrd.klt_of_klt_of_kle e (u _ _ h1 h2)⟩
    |false=>
     rw[zd (by decide)]
     exact zm ⟨rfl,rfl,by show(l+rr) / 2+1<=rr;omega,g2,by show rr - ((l+rr) / 2+1)<=k - (y+1);omega,fun i hi=>zL (u i ((l+rr) / 2) (zcm hi) (by omega)) e,g5⟩
  ·rintro ⟨r,l,rr⟩ st2 ⟨rfl,rfl,g1,g2,g3,g4,g5⟩
   exact⟨rfl,rfl,by show l=rr;have g1':l<=rr:=g1;have g3':rr - l<=k - max 0 k:=g3;omega,g2,g4,g5⟩
  ·rintro ⟨r,l,rr⟩ st2 ⟨rfl,rfl,g1,g2,g4,g5⟩
   dsimp only at g1 g2 g4 g5 ⊢
   subst g1
   refine zi (w_down (zm ⟨hc.bub (by omega) (by omega) (by omega) (by omega),rfl,fun i j x y=>?_⟩))
   show O.kle (Kx kf (bubble _ _ _) _) (Kx kf (bubble _ _ _) _)
   have hkx:=q9v (kf:=kf) (a:=arrOf st1) (src:=lo+k) (d:=lo+k - (lo+l)) (by omega) (by omega)
   rw[hkx,hkx,show lo+k - (lo+k - (lo+l))=lo+l by omega]
   by_cases i1:i=l
   ·rw [zj (by omega)]
    by_cases j1:j=l
    ·rw [zj (by omega)];exact zaD _
    ·rw [zd (by omega),zj (by omega),show lo+j - 1=lo+(j - 1) by omega]
     exact zZ (g5 (j - 1) (by omega) (by omega))
   ·rw [zd (by omega)]
    by_cases i2:l<i/\i<=k
    ·rw [zj (by omega),zd (by omega),zj (by omega),show lo+i - 1=lo+(i - 1) by omega,show lo+j - 1=lo+(j - 1) by omega]
     exact u _ _ (by omega) (by omega)
    ·rw [zd (by omega)]
     by_cases j1:j=l
     ·rw [zj (by omega)];exact g4 i (by omega)
     ·rw [zd (by omega)]
      by_cases j2:l<j/\j<=k
      ·rw [zj (by omega),show lo+j - 1=lo+(j - 1) by omega]
       exact u _ _ (by omega) (by omega)
      ·rw [zd (by omega)]
       exact u _ _ x (by omega)
 ·rintro ⟨r,⟨⟩⟩ st1 ⟨hc,rfl,u⟩
  exact⟨hc,rfl,by rw[show max (max m 1) n=n by omega] at u;exact u⟩
 ·rintro ⟨r,⟨⟩⟩ st1 ⟨hc,rfl,u⟩
  exact zm (h st1 hc u)
end
end Tim
namespace Tim
open PySem PySem.W PyProof.Rows
section
variable {prog:Program}{w:World}{A:Around}{E:Value->Shared->Prop}{s:Shared}{κ:SortKind}{O:KeyOrd}{kf:Keyed->O.α}{Ok:Keyed->Prop}{a0:List Keyed}{st:SortSt}{Rs:List (List Keyed)}{rest:List Keyed}
theorem Rns.psize (R:Rns kf Ok a0 st Rs rest):(pendingOf st).size=Rs.length:=by
 have:=zM List.length R.pd
 rw[yC,q23,zE] at this
 exact this
theorem Rns.len (R:Rns kf Ok a0 st Rs rest):Rs.flatten.length+rest.length=a0.length:=by
 have:=R.pm.length_eq
 rw[R.arr,zk] at this
 exact this
theorem Rns.asize (R:Rns kf Ok a0 st Rs rest):(arrOf st).size=a0.length:=by rw[<-zE];exact R.pm.length_eq
theorem qaO {α:Type}{l:List α}{i:Nat}(h:i+1<l.length):∃P X Y S,l=P++X::Y::S/\i=P.length:=by
 refine⟨l.take i,l[i],l[i+1],l.drop (i+2),?_,by rw[zl];omega⟩
 rw[<-zbv (i:=i+1) h,<-zbv (i:=i) (by omega),zy]
theorem Rns.chg {st2:SortSt}{hi:Nat}(R:Rns kf Ok a0 st Rs rest)(h:Chg st st2 Rs.flatten.length hi):Rns kf Ok a0 st2 Rs ((arrOf st2).toList.drop Rs.flatten.length):=by
 refine⟨?_,h.pm.toList.trans R.pm,R.so,by rw[h.pd];exact R.pd,h.fl.trans R.fl⟩
 have e:(arrOf st2).toList.take Rs.flatten.length=Rs.flatten:=by
  have e1:(arrOf st).toList.take Rs.flatten.length=Rs.flatten:=by rw[R.arr];exact zcA rfl
  refine Eq.trans (zbi fun j=>?_) e1
  rw[zcd,zcd]
  split
  ·rename_i hj
   have:=h.out j (.inl hj)
   simpa using this
  ·rfl
 conv=>lhs;rw[<-zy Rs.flatten.length (arrOf st2).toList,e]
theorem Upx.srd {a:Array Keyed}{lo n:Nat}(h:Upx kf a lo n)(hn:lo+n<=a.size):Srd kf ((a.toList.drop lo).take n):=by
 refine zcq.mpr fun i j hi hj hij=>?_
 rw[zl] at hi hj
 have hi':i<n:=by omega
 have hj':j<n:=by omega
 have g:∀k (hk:k<n),Kx kf a (lo+k)=kf (((a.toList.drop lo).take n)[k]'(by rw[zl,zS,zE];omega)):=fun k hk=>by
  refine qcw ?_
  rw[List.getElem_take,zcn]
  simp[show lo+k<a.size by omega]
 rw[<-g i hi',<-g j hj']
 exact h i j (by omega) hj'
theorem Rns.push {n lo:Nat}(R:Rns kf Ok a0 st Rs rest)(hlo:lo=Rs.flatten.length)(h1:1<=n)(h2:n<=rest.length)(hs:Srd kf (rest.take n)):Rns kf Ok a0 (SortSt.mk' (kindOf st) (arrOf st) ((pendingOf st).push (lo,n,0)) (gallopOf st) (failedOf st)) (Rs++[rest.take n]) (rest.drop n):=by
 subst hlo
 refine⟨?_,R.pm,fun r hr=>?_,?_,R.fl⟩
 ·show (arrOf st).toList=_
  rw[R.arr]
  simp
 ·rcases zr.mp hr with hr|hr
  ·exact R.so r hr
  ·rw [zu.mp hr]
   exact⟨hs,fun z=>by have:=zM List.length z;rw[zl,zcy] at this;omega⟩
 ·show ((pendingOf st).push (Rs.flatten.length,n,0)).toList.map pr2=_
  rw[zac,zv,R.pd,q3D]
  simp[offs,pr2]
  omega
theorem Rns.power {pw:Nat}(R:Rns kf Ok a0 st Rs rest):Rns kf Ok a0 (SortSt.mk' (kindOf st) (arrOf st) ((pendingOf st).modify ((pendingOf st).size - 1) fun x=>match x with|(st,len,snd)=>(st,len,pw)) (gallopOf st) (failedOf st)) Rs rest:=by
 refine⟨R.arr,R.pm,R.so,?_,R.fl⟩
 show((pendingOf st).modify ((pendingOf st).size - 1) fun x=>match x with|(st,len,snd)=>(st,len,pw)).toList.map pr2=_
 rw[<-R.pd,Array.toList_modify]
 refine zbi fun j=>?_
 rw[zT,zT,List.getElem?_modify]
 cases(pendingOf st).toList[j]? with
 |none=>rfl
 |some p=>
  obtain⟨p1,p2,p3⟩:=p
  by_cases hj:(pendingOf st).size - 1=j
  ·simp [hj,pr2]
  ·simp [hj]
theorem q62 {n:Nat}(h:n<=rest.length):(Rs++[rest.take n]).flatten.length=Rs.flatten.length+n:=by
 rw[List.flatten_append,zk]
 simp
 omega
theorem use2 {F P:Nat->SortSt->Prop}{G:Prop}(h:∀o i,F o i->P o i)(k:(∀o i,F o i->P o i)->G):G:=k h
theorem q7k (c:Cmp prog w A s κ O kf Ok){Q:Unit->SortSt->Prop}(hk:kindOf st=κ)(o0:∀x∈(arrOf st).toList,Ok x)(hpd:pendingOf st= #[])(hfl:failedOf st=none)
  (h:∀st',(arrOf st').toList.Perm (arrOf st).toList->Srd kf (arrOf st').toList->failedOf st'=none->Q () st'):wpS (model prog w) A E s sortRuns' Q st:=by
 obtain⟨a0,ea0⟩:∃a0,a0=(arrOf st).toList:=⟨_,rfl⟩
 have sz:(arrOf st).size=a0.length:=by rw[ea0,zE]
 rw[<-ea0] at o0
 have R0:Rns kf Ok a0 st [] (arrOf st).toList:=⟨by simp,by rw[ea0],fun r hr=>(nomatch hr),by rw[hpd];rfl,hfl⟩
 refine zi (zbs ?_)
 refine zi (zaw (zat (I:=fun(x:Nat) (c:Option Unit×Nat) (st':SortSt)=>∃Rs rest,kindOf st'=κ/\Rns kf Ok a0 st' Rs rest/\c.1=none/\c.2=Rs.flatten.length/\x<=c.2)
  (Q:=fun(c:Option Unit×Nat) (st':SortSt)=>c.1=none/\∃Rs,kindOf st'=κ/\Rns kf Ok a0 st' Rs []) ?_ ?_ ⟨[],_,hk,R0,rfl,rfl,zc _⟩) ?_)
 ·rintro x ⟨r,lo⟩ st1 _ hx ⟨Rs,rest,hk1,R1,rfl,rfl,hxl⟩
  dsimp only at hxl ⊢
  have len1:=R1.len
  by_cases hge:Rs.flatten.length≥(arrOf st).size
  ·rw [zj hge]
   have er:rest=[]:=zba.mp (by omega)
   subst er
   exact zm ⟨rfl,_,hk1,R1⟩
  ·rw [zd hge]
   have as1:=R1.asize
   have ok1:∀y∈(arrOf st1).toList,Ok y:=fun y hy=>o0 y (R1.pm.mem_iff.mp hy)
   apply use2 (F:=fun m st2=>∃rest2,kindOf st2=κ/\Rns kf Ok a0 st2 Rs rest2/\1<=m/\m<=rest2.length/\Srd kf (rest2.take m))
   rotate_left
   ·intro key
    refine zi (qbd c hk1 ok1 (show 1<=(arrOf st).size - Rs.flatten.length by omega) (show Rs.flatten.length+((arrOf st).size - Rs.flatten.length)<=(arrOf st1).size by omega) fun m st2 m1 m2 hc u=>?_)
    try dsimp only
    have R2:=R1.chg hc
    have as2:=R2.asize
    have hk2:kindOf st2=κ:=hc.kd.trans hk1
    have m2:m<=(arrOf st).size - Rs.flatten.length:=m2
    split
    rotate_left
    ·have g1:=m1
     have g2:m<=((arrOf st2).toList.drop Rs.flatten.length).length:=by rw[zS,show(arrOf st2).toList.length=(arrOf st2).size from zE];omega
     have g3:Srd kf (((arrOf st2).toList.drop Rs.flatten.length).take m):=u.srd (by omega)
     exact key m st2 ⟨_,hk2,R2,g1,g2,g3⟩
    ·rename_i hlt
     refine zi (zb4 (za1 ⟨rfl,?_⟩))
     have ok2:∀y∈(arrOf st2).toList,Ok y:=fun y hy=>o0 y (R2.pm.mem_iff.mp hy)
     have f1:1<=min ((arrOf st).size - Rs.flatten.length) (minRun' (arrOf st).size (arrOf st).size 0):=Nat.le_min.mpr ⟨by omega,zab m1 (zbP hlt)⟩
     have f2:min ((arrOf st).size - Rs.flatten.length) (minRun' (arrOf st).size (arrOf st).size 0)<=(arrOf st).size - Rs.flatten.length:=Nat.min_le_left _ _
     refine zi (w_bin c hk2 ok2 m1 (Nat.le_min.mpr ⟨m2,zbP hlt⟩) (show Rs.flatten.length+min ((arrOf st).size - Rs.flatten.length) (minRun' (arrOf st).size (arrOf st).size 0)<=(arrOf st2).size by omega) u fun st3 hc3 u3=>?_)
     rw[zd (by decide)]
     have R3:=R2.chg hc3
     have hk3:kindOf st3=κ:=hc3.kd.trans hk2
     have as3:=R3.asize
     have g1:=f1
     have g2:min ((arrOf st).size - Rs.flatten.length) (minRun' (arrOf st).size (arrOf st).size 0)<=((arrOf st3).toList.drop Rs.flatten.length).length:=by rw[zS,show(arrOf st3).toList.length=(arrOf st3).size from zE];omega
     have g3:Srd kf (((arrOf st3).toList.drop Rs.flatten.length).take (min ((arrOf st).size - Rs.flatten.length) (minRun' (arrOf st).size (arrOf st).size 0))):=u3.srd (show Rs.flatten.length+min ((arrOf st).size - Rs.flatten.length) (minRun' (arrOf st).size (arrOf st).size 0)<=(arrOf st3).size by omega)
     exact key _ st3 ⟨_,hk3,R3,g1,g2,g3⟩
   ·rintro m st2 ⟨rest2,hk2,R2,g1,g2,g3⟩
    refine zi (zbs ?_)
    try dsimp only
    rcases hbk:(pendingOf st2).back? with _|⟨sB,nB,pB⟩
    ·simp only[hbk]
     refine zi (zaS (zm ?_))
     exact⟨_,_,hk2,R2.push rfl g1 g2 g3,rfl,(q62 g2).symm,Nat.add_le_add hxl g1⟩
    ·simp only[hbk]
     refine zi (zaw (zat (I:=fun(y:Nat) (c:Option Unit×Unit) (st':SortSt)=>c.1=none/\∃Rs',kindOf st'=κ/\Rns kf Ok a0 st' Rs' rest2)
      (Q:=fun(c:Option Unit×Unit) (st':SortSt)=>c.1=none/\∃Rs',kindOf st'=κ/\Rns kf Ok a0 st' Rs' rest2) ?_ ?_ (show _/\_ from⟨rfl,_,hk2,R2⟩)) ?_)
     ·rintro y ⟨r,⟨⟩⟩ st3 _ hy ⟨rfl,Rs',hk3,R3⟩
      refine zi (zbs ?_)
      try dsimp only
      split
      ·rename_i older heq
       split
       ·exact zm ⟨rfl,_,hk3,R3⟩
       ·have hp:1<(pendingOf st3).size:=by
         by_cases hp:(pendingOf st3).size>1
         ·exact hp
         ·rw [zd hp] at heq;cases heq
        have hps:=R3.psize
        obtain⟨P,X,Y,S,eR,eP⟩:=qaO (l:=Rs') (i:=(pendingOf st3).size - 2) (by omega)
        rw[eR] at R3
        refine zi (q59 c o0 hk3 eP R3 fun Z st4 hk4 R4=>?_)
        rw[zd (by decide)]
        exact zm ⟨rfl,_,hk4,R4⟩
      ·exact zm ⟨rfl,_,hk3,R3⟩
     ·rintro ⟨r,⟨⟩⟩ st3 z
      exact z
     ·rintro ⟨r,⟨⟩⟩ st3 ⟨rfl,Rs',hk3,R3⟩
      try dsimp only
      refine zi (zaS (zi (zaS (zm ?_))))
      have e0:=R2.len
      have e1:=R3.len
      have e2:Rs.flatten.length=Rs'.flatten.length:=by omega
      exact⟨_,_,hk3,R3.power.push e2 g1 g2 g3,rfl,(zM (· +_) e2).trans (q62 g2).symm,Nat.add_le_add hxl g1⟩
 ·rintro ⟨r,lo⟩ st1 ⟨Rs,rest,hk1,R1,rfl,rfl,hxl⟩
  dsimp only at hxl ⊢
  have len1:=R1.len
  have er:rest=[]:=zba.mp (by have:max 0 (arrOf st).size<=Rs.flatten.length:=hxl;omega)
  subst er
  exact⟨rfl,_,hk1,R1⟩
 ·rintro ⟨r,lo⟩ st1 ⟨rfl,Rs,hk1,R1⟩
  try dsimp only
  refine zi (zaw (zat (I:=fun(y:Nat) (c:Option Unit×Unit) (st':SortSt)=>c.1=none/\∃Rs,kindOf st'=κ/\Rns kf Ok a0 st' Rs []/\Rs.length<=max 1 (a0.length - y))
   (Q:=fun(c:Option Unit×Unit) (st':SortSt)=>c.1=none/\∃Rs,kindOf st'=κ/\Rns kf Ok a0 st' Rs []/\Rs.length<=1) ?_ ?_ (show _/\_ from⟨rfl,_,hk1,R1,?_⟩)) ?_)
  ·rintro y ⟨r,⟨⟩⟩ st3 _ hy ⟨rfl,Rs,hk3,R3,hlen⟩
   refine zi (zbs ?_)
   try dsimp only
   have hps:=R3.psize
   by_cases hp:(pendingOf st3).size<=1
   ·rw [zj hp]
    exact zm ⟨rfl,_,hk3,R3,by omega⟩
   ·rw [zd hp]
    have mrg:∀(i:Nat),i+1<Rs.length->∀{Q:Bool->SortSt->Prop},(∀(Rs4:List (List Keyed)) (st4:SortSt),kindOf st4=κ->Rns kf Ok a0 st4 Rs4 []->Rs4.length+1=Rs.length->Q true st4)->wpS (model prog w) A E s (mergeAt' i) Q st3:=fun i hi Q hq=>by
     obtain⟨P,X,Y,S,eR,eP⟩:=qaO hi
     rw[eR] at R3
     refine q59 c o0 hk3 eP R3 fun Z st4 hk4 R4=>hq _ _ hk4 R4 ?_
     rw[eR]
     simp
     omega
    split
    ·rename_i h3
     have h3':0<(pendingOf st3).size - 2:=h3
     split
     ·refine zi (mrg ((pendingOf st3).size - 2 - 1) (by omega) fun Rs4 st4 hk4 R4 h4=>?_)
      rw[zd (by decide)]
      exact zm ⟨rfl,_,hk4,R4,by omega⟩
     ·refine zi (mrg ((pendingOf st3).size - 2) (by omega) fun Rs4 st4 hk4 R4 h4=>?_)
      rw[zd (by decide)]
      exact zm ⟨rfl,_,hk4,R4,by omega⟩
    ·split
     ·rename_i z
      exact nomatch z
     ·refine zi (mrg ((pendingOf st3).size - 2) (by omega) fun Rs4 st4 hk4 R4 h4=>?_)
      rw[zd (by decide)]
      exact zm ⟨rfl,_,hk4,R4,by omega⟩
  ·rintro ⟨r,⟨⟩⟩ st3 ⟨rfl,Rs,hk3,R3,hlen⟩
   exact⟨rfl,_,hk3,R3,by have h2:Rs.length<=max 1 (a0.length - max 0 (arrOf st).size):=hlen;omega⟩
  ·have ln:=R1.len
   have:∀(l:List (List Keyed)),(∀r∈l,r≠[])->l.length<=l.flatten.length:=fun l=>by
    induction l with
    |nil=>intro _;simp
    |cons r l ih=>
     intro hr
     have h1:=ih fun z hz=>hr z (zX _ hz)
     have h2:0<r.length:=za9.mpr (hr r (.head _))
     rw[zbg,zk,zaf]
     omega
   have:=this Rs fun r hr=>(R1.so r hr).2
   rw[zcy] at ln
   omega
  ·rintro ⟨r,⟨⟩⟩ st3 ⟨rfl,Rs,hk3,R3,hlen⟩
   try dsimp only
   refine zm (h st3 (by rw[<-ea0];exact R3.pm) ?_ R3.fl)
   rw[R3.arr,zH]
   match Rs,R3.so,hlen with
   |[],_,_=>exact List.Pairwise.nil
   |[r],so,_=>simpa using(so r (by simp)).1
   |_::_::_,_,hl=>simp at hl
end
end Tim
namespace Srt
open PySem PySem.W PyProof.Rows
section
variable {prog:Program}{w:World}{A:Around}{E:Value->Shared->Prop}{s:Shared}
theorem q6K {α:Type}:∀l:List α,l.zip l=l.map fun v=>(v,v)
 |[]=>rfl
 |v::l=>by rw[List.zip_cons_cons,q6K l];rfl
theorem q7K {κ:SortKind}{a:Addr}{vs:List Value}{n:Nat}{P:PySem.Fin->Shared->Prop}{O:KeyOrd}{kv:Value->O.α}(ho:s.heap.get? a=some (seqObj "list" vs.toArray n))(hz:vs.length<=sizeLine)
  (hk:2<=vs.length->∀(h':Heap),(∀b o,b≠a->s.heap.get? b=some o->h'.get? b=some o)->∀(R:SortKind->Shared->Prop),R κ {s with heap:=h'}->wpAny (model prog w) A (keyKind' vs.toArray) R (fun _ _=>False) {s with heap:=h'})
  (ha:2<=vs.length->∀(h':Heap),(∀b o,b≠a->s.heap.get? b=some o->h'.get? b=some o)->∀(x y:Value) (C:Bool->Shared->Prop) (E:Value->Shared->Prop),x∈vs->y∈vs->C (O.blt (kv x) (kv y)) {s with heap:=h'}->wpAny (model prog w) A (keyLt' κ x y) C E {s with heap:=h'})
  (h:∀out:Array Value,(out.toList.Perm vs/\out.toList.Pairwise fun x y=>O.kle (kv x) (kv y))->P (.done (.ret .none)) {s with heap:=sortedHeap s.heap a vs out}):
  wpAny (model prog w) A (Builtin.«list.sort» ⟨[.ref a],[]⟩) P E s:=by
 have hlt:a<s.heap.objs.size:=zt ho
 obtain⟨e1,ho1⟩:∃e1,(s.heap.update a (Obj.mapSeq fun _=>(#[]:Array Value))).get? a=some (seqObj "list" #[] e1):=⟨_,get?_update_seq ho fun _=> #[]⟩
 have kp:∀b o,b≠a->s.heap.get? b=some o->(((s.heap.update a (Obj.mapSeq fun _=>(#[]:Array Value))).push (seqObj "tuple" vs.toArray 0)).push (seqObj "list" #[] 0)).get? b=some o:=fun b o hb e=>
  zo _ (zo _ (((za8 s.heap a (Obj.mapSeq fun _=>(#[]:Array Value))).2 b hb).trans e))
 have ho6:(((s.heap.update a (Obj.mapSeq fun _=>(#[]:Array Value))).push (seqObj "tuple" vs.toArray 0)).push (seqObj "list" #[] 0)).get? a=some (seqObj "list" #[] e1):=zo _ (zo _ ho1)
 rw[list_sort_plain]
 refine yD (listItems_at ho rfl (yD (listUpdate_at ho rfl (yD (seqEpoch_at ho1 rfl (yD (wpAny_newTuple (yD (wpAny_newList (zaX ?_) (zan _))) hz)))) (by rw[zw];exact hz) (zan _))))
 show wpAny (model prog w) A _ P E {s with heap:=((s.heap.update a (Obj.mapSeq fun _=>(#[]:Array Value))).push (seqObj "tuple" vs.toArray 0)).push (seqObj "list" #[] 0)}
 dsimp only
 by_cases h2:vs.length<2
 ·have h2':vs.toArray.size<2:=by rw[zw];exact h2
  rw[zj h2',zj h2']
  refine yD (zg ?_)
  rw[StateT.run_pure]
  refine yD (zg ?_)
  dsimp only
  have eo:Array.map (fun x:Value×Value=>x.2) (arrOf (SortSt.mk' general' (vs.toArray.zip vs.toArray) #[] 7 none))=vs.toArray:=by
   show Array.map (fun x:Value×Value=>x.2) (vs.toArray.zip vs.toArray)=vs.toArray
   apply Array.toList_inj.mp
   rw[Array.toList_map,Array.toList_zip]
   exact List.map_snd_zip (zc _)
  rw[eo]
  refine yD (seqEpoch_at ho6 rfl (yD (listUpdate_at ho6 rfl ?_ (zan _) (by rw[zw];exact Nat.le_succ_of_le hz))))
  simp only[bne_self_eq_false,Bool.false_eq_true,if_false]
  exact zg (h _ ⟨zcD _,L2.pw_two h2⟩)
 ·have h2':¬vs.toArray.size<2:=by rw[zw];exact h2
  rw[zd h2',zd h2']
  obtain⟨s6,es6⟩:∃s6:Shared,s6={s with heap:=((s.heap.update a (Obj.mapSeq fun _=>(#[]:Array Value))).push (seqObj "tuple" vs.toArray 0)).push (seqObj "list" #[] 0)}:=⟨_,rfl⟩
  have ho7:s6.heap.get? a=some (seqObj "list" #[] e1):=by rw[es6];exact ho6
  have hk':=hk (by omega) _ kp (fun κ' s0=>κ'=κ/\s0=s6) ⟨rfl,es6.symm⟩
  have ha':=ha (by omega) _ kp
  rw[<-es6] at hk' ha' ⊢
  refine yD (zak hk' (fun κ' s0 hκ=>?_) fun _ _ x=>x.elim)
  obtain⟨rfl,rfl⟩:=hκ
  have cm:Tim.Cmp prog w A s0 κ' O (fun x=>kv x.1) (fun x=>x.1∈vs):=⟨fun x y Q E hx hy hq=>ha' x.1 y.1 Q E hx hy hq⟩
  have eq2:(vs.toArray.zip vs.toArray).toList=vs.map fun v=>(v,v):=by
   rw[Array.toList_zip]
   exact q6K vs
  refine yD (zak (show wpS (model prog w) A E s0 sortRuns' (fun _ st'=>∃l:List Value,(arrOf st').toList=l.map (fun v=>(v,v))/\l.Perm vs/\(l.Pairwise fun x y=>O.kle (kv x) (kv y))/\failedOf st'=none) (SortSt.mk' κ' (vs.toArray.zip vs.toArray) #[] 7 none) from
   Tim.q7k cm rfl (fun x hx=>?_) rfl rfl fun st' pm so fl=>?_) ?_ fun _ _ e=>e)
  ·have hx:x∈(vs.toArray.zip vs.toArray).toList:=hx
   rw[eq2] at hx
   obtain⟨v,hv,rfl⟩:=zN.mp hx
   exact hv
  ·have pm:(arrOf st').toList.Perm (vs.toArray.zip vs.toArray).toList:=pm
   rw[eq2] at pm
   have e3:(arrOf st').toList=((arrOf st').toList.map (·.2)).map fun v=>(v,v):=by
    rw[zae]
    conv=>lhs;rw[<-zbf (arrOf st').toList]
    refine zaj fun x hx=>?_
    obtain⟨v,_,rfl⟩:=zN.mp (pm.mem_iff.mp hx)
    rfl
   refine⟨(arrOf st').toList.map (·.2),e3,?_,?_,fl⟩
   ·have:=pm.map (·.2)
    rwa [zae,show((fun x:Keyed=>x.2) ∘ fun v:Value=>(v,v))=id from rfl,zbf] at this
   ·rw [e3] at so
    exact(zbF (R:=fun x y:Keyed=>O.kle (kv x.1) (kv y.1))).mp (show(List.map (fun v:Value=>(v,v)) (List.map (fun x=>x.2) (arrOf st').toList)).Pairwise (fun x y=>O.kle (kv x.1) (kv y.1)) from so)
  rintro⟨⟨⟩,st'⟩ s' ⟨rfl,l,har,pm,so,hf⟩
  dsimp only
  have eo:Array.map (fun x:Value×Value=>x.2) (arrOf st')=l.toArray:=by
   apply Array.toList_inj.mp
   rw[Array.toList_map,har,zae]
   exact zbf _
  rw[eo]
  refine yD (seqEpoch_at ho7 rfl (yD (listUpdate_at ho7 rfl ?_ (zan _) (by rw[zw,pm.length_eq];exact Nat.le_succ_of_le hz))))
  rw[hf]
  simp only[bne_self_eq_false,Bool.false_eq_true,if_false]
  have hh:=h l.toArray ⟨pm,so⟩
  rw[es6]
  exact zg hh
theorem q6k {κ:SortKind}{l:Addr}{vs:List Value}{Q:Value->Shared->Prop}{O:KeyOrd}{kv:Value->O.α}(hl:s.heap.IsList l vs.toArray)(hz:vs.length<=sizeLine)
  (hk:2<=vs.length->∀(A':Around) (h':Heap),A'.units<=A.units+2->(∀b o,s.heap.get? b=some o->h'.get? b=some o)->∀(R:SortKind->Shared->Prop),R κ {s with heap:=h'}->wpAny (model prog w) A' (keyKind' vs.toArray) R (fun _ _=>False) {s with heap:=h'})
  (ha:2<=vs.length->∀(A':Around) (h':Heap),A'.units<=A.units+2->(∀b o,s.heap.get? b=some o->h'.get? b=some o)->∀(x y:Value) (C:Bool->Shared->Prop) (E:Value->Shared->Prop),x∈vs->y∈vs->C (O.blt (kv x) (kv y)) {s with heap:=h'}->wpAny (model prog w) A' (keyLt' κ x y) C E {s with heap:=h'})
  (h:∀out:Array Value,(out.toList.Perm vs/\out.toList.Pairwise fun x y=>O.kle (kv x) (kv y))->Q (.ref (s.heap.objs.size+1)) {s with heap:=sortedAll s.heap vs out}):
  wpAny (model prog w) A (call (.builtin "sorted") [.ref l]) Q E s:=by
 refine zcp kind_sorted plain_sorted entry_sorted (args_sorted1 _) ?_
 unfold Builtin.«sorted»
 refine yD (m:=checkCount "sorted" 1 1 _) (zg (yD (collect_list hl (yD (wpAny_newList ?_ hz)) hz)))
 have hsz:((s.heap.push (seqObj "list" #[] 0)).update s.heap.objs.size (Obj.mapSeq (· ++vs.toArray))).objs.size=s.heap.objs.size+1:=by
  rw[Heap.size_update,size_push']
 have hoL:(((s.heap.push (seqObj "list" #[] 0)).update s.heap.objs.size (Obj.mapSeq (· ++vs.toArray))).push (seqObj "list" vs.toArray 0)).get? (s.heap.objs.size+1)=some (seqObj "list" vs.toArray 0):=by
  rw[<-hsz];exact zC _ rfl
 have kp:∀b o,s.heap.get? b=some o->(((s.heap.push (seqObj "list" #[] 0)).update s.heap.objs.size (Obj.mapSeq (· ++vs.toArray))).push (seqObj "list" vs.toArray 0)).get? b=some o:=fun b o q=>by
  have hlt:b<s.heap.objs.size:=zt q
  rw[Heap.get?_push_ne _ _ _ (by rw[hsz];exact zB (zbh hlt)),Heap.get?_update_ne _ _ _ _ (zB hlt),Heap.get?_push_ne _ _ _ (zB hlt)]
  exact q
 have kq:∀b o,s.heap.get? b=some o->b≠s.heap.objs.size+1:=fun b o q=>zB (zbh (zt q))
 show wpAny _ _ _ _ _ {s with heap:=((s.heap.push (seqObj "list" #[] 0)).update s.heap.objs.size (Obj.mapSeq (· ++vs.toArray))).push (seqObj "list" vs.toArray 0)}
 rw[hsz]
 refine yD (zaX (zaH slot_list_sort ⟨_,hoL,rfl⟩ entry_list_sort (q7K (s:={s with heap:=_}) hoL hz (fun h2 h' k=>hk h2 _ h' (zc _) fun b o q=>k b o (kq b o q) (kp b o q)) (fun h2 h' k=>ha h2 _ h' (zc _) fun b o q=>k b o (kq b o q) (kp b o q)) fun out ho=>⟨_,rfl,?_⟩) (args_list_sort _)))
 exact zg ⟨_,rfl,h out ho⟩
end
end Srt
namespace L2
open PySem PySem.Spec PyProof.Rows PySem.W
def qaZ (K:W.Frag):List V->Hp->VK->Prop:=fun xs H Q=>∃(p:Addr) (l:List (Addr×List Int)) (m:Nat),xs=[.ref p]/\SqL K H p (l.map fun x=>V.ref x.1)/\1<=m/\(∀x∈l,H x.1=some (.tup (x.2.map V.int))/\x.2.length=m)/\
 ∀(q:Addr) (l':List (Addr×List Int)),H q=none->l'.Perm l->l'.Pairwise (fun a b=>¬b.2<a.2)->Q (.ref q) (upd H q (.lst (l'.map fun x=>V.ref x.1)))
section
variable {X:Cx}{pins:List (Addr×Obj)}{σ:St}{H:Hp}{s:Shared}{l:List (Addr×List Int)}{m:Nat}
theorem kindT (I:Inv X pins σ H s)(hm:1<=m)(hl:∀x∈l,H x.1=some (.tup (x.2.map V.int))/\x.2.length=m)(h2:2<=l.length){A:Around}{R:SortKind->Shared->Prop}(hR:R (tuples' true) s):wpAny (model X.prog X.w) A (keyKind' (l.map fun x=>Value.ref x.1).toArray) R (fun _ _=>False) s:=by
 obtain⟨fs,kt,hf⟩:∃fs:List Value,KatTups s.heap (l.map fun x=>Value.ref x.1) fs/\fs.length=l.length/\∀v∈fs,∃n t,v=Value.int n t:=by
  clear h2
  induction l with
  |nil=>exact⟨[],trivial,rfl,fun v hv=>nomatch hv⟩
  |cons x l ih=>
   obtain⟨fs,a1,a2,a3⟩:=ih fun y hy=>hl y (zX _ hy)
   obtain⟨e1,e2⟩:=hl x (.head _)
   obtain⟨o,us,n,g1,g2,g3,g4⟩:=q4I I e1
   have hlen:=q4W g4
   match us,x.2,g4,hlen,e2 with
   |_,_,.cons k t hr,_,_=>
    refine⟨.int k t::fs,KatTups.cons g1 g2 g3 (by simp) a1,by simpa using a2,fun v hv=>?_⟩
    rcases zU.mp hv with rfl|hv
    ·exact ⟨_,_,rfl⟩
    ·exact a3 v hv
   |_,_,.nil,_,e2=>simp at e2;omega
 refine kat_kind kt (by have:=hf.1;omega) (T:= .type "int") (fun v hv=>?_) (by decide) (by rw[show(Value.type "int" != Value.type "tuple")=true by decide];exact hR)
 obtain⟨n,t,rfl⟩:=hf.2 v hv
 exact .now
theorem ltT (I:Inv X pins σ H s){kd:Value->List Int}(hkd:∀x∈l,kd (.ref x.1)=x.2)(hl:∀x∈l,H x.1=some (.tup (x.2.map V.int))/\x.2.length=m){A:Around}{u v:Value}{C:Bool->Shared->Prop}{E:Value->Shared->Prop}(hi:u∈l.map fun x=>Value.ref x.1)(hj:v∈l.map fun x=>Value.ref x.1)(hC:C (Srt.LO.blt (kd u) (kd v)) s):wpAny (model X.prog X.w) A (keyLt' (tuples' true) u v) C E s:=by
 obtain⟨x,hx,rfl⟩:=zN.mp hi
 obtain⟨y,hy,rfl⟩:=zN.mp hj
 obtain⟨a1,a2⟩:=hl x hx
 obtain⟨b1,b2⟩:=hl y hy
 obtain⟨o,us,n,g1,g2,g3,g4⟩:=q4I I a1
 obtain⟨o',us',n',g1',g2',g3',g4'⟩:=q4I I b1
 have l1:=q4W g4
 have l2:=q4W g4'
 refine kat_lt g1 g3 g1' g3' ?_
 rw[show decide (us.toArray.size<us'.toArray.size)=false by simp;omega]
 refine Srt.lex g4 g4' (by omega) ?_
 have hC':C (decide (kd (.ref x.1)<kd (.ref y.1))) s:=hC
 rw[hkd x hx,hkd y hy] at hC'
 exact hC'
theorem keyT (hl:∀x∈l,H x.1=some (.tup (x.2.map V.int))/\x.2.length=m):∃kd:Value->List Int,∀x∈l,kd (.ref x.1)=x.2:=by
 refine⟨fun v=>match v with| .ref a=>(match H a with|some (.tup ys)=>ys.map (fun y=>match y with| .int n=>n|_=>0)|_=>[])|_=>[],fun x hx=>?_⟩
 dsimp only
 rw[(hl x hx).1]
 dsimp only
 rw[zae]
 exact zbf _
theorem outT {kd:Value->List Int}(hkd:∀x∈l,kd (.ref x.1)=x.2){out:Array Value}(pm:out.toList.Perm (l.map fun x=>Value.ref x.1))(so:out.toList.Pairwise fun x y=>Srt.LO.kle (kd x) (kd y)):
  ∃l':List (Addr×List Int),l'.Perm l/\out.toList=l'.map (fun x=>Value.ref x.1)/\l'.Pairwise (fun a b=>¬b.2<a.2):=by
 have g:∀x∈l,(fun v:Value=>((match v with| .ref a=>a|_=>0:Addr),kd v)) (Value.ref x.1)=x:=fun x hx=>by
  dsimp only
  rw[hkd x hx]
 refine⟨out.toList.map fun v=>((match v with| .ref a=>a|_=>0:Addr),kd v),?_,?_,?_⟩
 ·have:=pm.map fun v:Value=>((match v with| .ref a=>a|_=>0:Addr),kd v)
  rw[zae] at this
  refine this.trans (zbV ?_)
  conv=>rhs;rw[<-zbf l]
  exact zaj fun x hx=>g x hx
 ·rw [zae]
  conv=>lhs;rw[<-zbf out.toList]
  refine zaj fun v hv=>?_
  obtain⟨x,hx,rfl⟩:=zN.mp (pm.mem_iff.mp hv)
  rfl
 ·rw [zbF]
  exact so.imp fun {a b} hab=>zaT hab
theorem refsT:∀l':List (Addr×List Int),Vals (l'.map fun x=>V.ref x.1) (l'.map fun x=>Value.ref x.1)
 |[]=> .nil
 |_::l'=> .cons rfl (refsT l')
end
section
variable {X:Cx}
theorem qaT (K:W.Frag)(hK:X.K=K:=by rfl):q17 X (.builtin "sorted") (qaZ K):=by
 subst hK
 intro pins s σ H xs us Q I r h
 obtain⟨p,l,m,rfl,hq,hm,hl,q⟩:=h
 obtain⟨u,rfl,rx⟩:=q2K r
 cases rx
 obtain⟨its,rv,pl,hz⟩:=I.list hq
 have ei:its=l.map fun x=>Value.ref x.1:=by
  have:=q3I (ps:=l.map (·.1)) (by rw[zae];exact rv)
  rw[this,zae]
  rfl
 subst ei
 rw[yC] at hz
 obtain⟨kd,hkd⟩:=keyT hl
 refine Srt.q6k (κ:=tuples' true) (O:=Srt.LO) (kv:=kd) pl.isList (by rw[yC];exact hz) (fun h2 A h' _ kp R hR=>kindT (I.kept (t':=s.toks) kp) hm hl (by rw[yC] at h2;exact h2) hR) (fun h2 A h' _ kp x y C E hx hy hC=>ltT (I.kept (t':=s.toks) kp) hkd hl hx hy hC) fun out ho=>?_
 obtain⟨l',hp,ho',hs⟩:=outT hkd ho.1 ho.2
 obtain⟨e,he⟩:=sortedAll_at s.heap (l.map fun x=>Value.ref x.1) out
 refine⟨.ref (s.heap.objs.size+1),upd H (s.heap.objs.size+1) (.lst (l'.map fun x=>V.ref x.1)),I.laid (t':=s.toks) (fun _ _=>sortedAll_old) (zbq _) ⟨by rw[yC,hp.length_eq];exact hz,out.toList,e,by rw[ho'];exact refsT l',by simpa[seqObj] using he⟩,rfl,q _ _ (I.hok.fresh (zbq _)) hp hs⟩
end
end L2
namespace Mine
open PySem L2
local macro_rules| `(tactic| walk_at "s")=> `(tactic| exact⟨rfl,rfl,rfl,by walk_at "k",rfl,by walk_at "k",by walk_at "k"⟩)
theorem bl0 {P:List Value->Prop}(h:P []):∀us:List Value,us.length=0->P us:=fun us e=>by cases us with|nil=>exact h|cons=>cases e
theorem blS {n:Nat}{P:List Value->Prop}(h:∀a (us:List Value),us.length=n->P (a::us)):∀us:List Value,us.length=n+1->P us:=fun us e=>by cases us with|nil=>cases e|cons a us=>exact h a us (Nat.succ.inj e)
def top (i:Nat):Stmt:=PySem.Challenge.pw_delve_k32_papers_let_by.main.body.getD i (.Pass ⟨0,0,0,0⟩)
abbrev q8h:Stmt:=top 0
abbrev q3A:Stmt:=top 8
abbrev q2V:Stmt:=top 9
abbrev q2X:Stmt:=top 10
abbrev q2W:Stmt:=top 19
abbrev q4T:Stmt:=top 42
abbrev q6U:Stmt:=top 43
abbrev q2n:Stmt:=top 44
abbrev q1a:Stmt:=top 45
abbrev q1o:Stmt:=top 46
abbrev q1n:Stmt:=top 47
abbrev q0Z:Stmt:=top 48
abbrev q1H:Stmt:=top 56
abbrev q3P:Stmt:=top 57
abbrev q1m:Stmt:=top 58
abbrev q1A:Stmt:=top 59
abbrev q0s:Stmt:=top 60
abbrev q3Q:Stmt:=top 62
abbrev q0Y:Stmt:=top 63
abbrev q3R:Stmt:=top 64
abbrev q0T:Stmt:=top 66
abbrev q0S:Stmt:=top 67
abbrev q1K:Stmt:=top 68
abbrev q12:Stmt:=top 69
abbrev q0P:Stmt:=top 70
abbrev q1c:Stmt:=top 71
abbrev q1J:Stmt:=top 72
abbrev q0U:Stmt:=top 73
abbrev q1I:Stmt:=top 74
abbrev q1b:Stmt:=top 75
abbrev q0O:Stmt:=top 76
abbrev q1q:Stmt:=top 77
abbrev q0y:Stmt:=top 78
abbrev q1L:Stmt:=top 79
abbrev q0t:Stmt:=top 80
abbrev q0u:Stmt:=top 81
abbrev q1j:Stmt:=top 82
abbrev q1p:Stmt:=top 83
abbrev qbn:Stmt:=top 84
abbrev q1Z:Stmt:=qK (top 12) 0
abbrev qY:Stmt:=qK (top 12) 1
abbrev q1s:Stmt:=qK (top 13) 0
abbrev q1r:Stmt:=qK (top 13) 1
abbrev q21:Stmt:=qK (top 14) 0
abbrev q20:Stmt:=qK (top 14) 1
abbrev q1Y:Stmt:=qK (top 15) 0
abbrev q1X:Stmt:=qK (top 15) 1
abbrev q2p:Stmt:=qK (top 16) 0
abbrev q2o:Stmt:=qK (top 16) 1
abbrev q1N:Stmt:=qK (top 17) 0
abbrev q1M:Stmt:=qK (top 17) 1
abbrev q1u:Stmt:=qK (top 18) 0
abbrev q1t:Stmt:=qK (top 18) 1
abbrev q22:Stmt:=qK (top 50) 0
abbrev q08:Stmt:=qK (top 50) 1
abbrev qZ:Stmt:=qK (top 50) 2
abbrev qF:Stmt:=qK (top 50) 4
abbrev q2Y:Stmt:=qK (top 51) 0
abbrev q2Z:Stmt:=qK (top 51) 1
abbrev q30:Stmt:=qK (top 51) 2
abbrev q1U:Stmt:=qK (top 52) 0
abbrev q1V:Stmt:=qK (top 52) 1
abbrev q1W:Stmt:=qK (top 52) 2
abbrev q1R:Stmt:=qK (top 53) 0
abbrev q1S:Stmt:=qK (top 53) 1
abbrev q1T:Stmt:=qK (top 53) 2
abbrev q1O:Stmt:=qK (top 54) 0
abbrev q1P:Stmt:=qK (top 54) 1
abbrev q1Q:Stmt:=qK (top 54) 2
abbrev q1d:Stmt:=qK (top 55) 0
abbrev q1e:Stmt:=qK (top 55) 1
abbrev q1f:Stmt:=qK (top 55) 2
theorem q8g:FnScope ["number","least","most"] ["number","least","most"] (qh q3A):=by walk_at "s"
theorem q7t:FnScope ["bits","place"] ["bits","place"] (qh q2V):=by walk_at "s"
theorem q7u:FnScope ["parts","place","part"] ["parts","place","part"] (qh q2X):=by walk_at "s"
theorem q4w:FnScope ["gate","word"] ["gate"] (qh q2W):=by walk_at "s"
theorem q9D:FnScope ["cellar"] ["cellar"] (qh q4T):=by walk_at "s"
theorem q3b:FnScope ["cellar","stand","counts","number","thing","kind"] ["cellar","stand"] (qh q6U):=by walk_at "s"
theorem q6l:FnScope ["cellar","thing"] ["cellar","thing"] (qh q2n):=by walk_at "s"
theorem q4n:FnScope ["bits","all_bits"] ["bits","all_bits"] (qh q1a):=by walk_at "s"
theorem q4N:FnScope ["cellar"] ["cellar"] (qh q1o):=by walk_at "s"
theorem q5u:FnScope ["cellar"] ["cellar"] (qh q1n):=by walk_at "s"
theorem q4O:FnScope ["cellar"] ["cellar"] (qh q0Z):=by walk_at "s"
theorem q5v:FnScope ["way","room"] ["way","room"] (qh q1H):=by walk_at "s"
theorem q9E:FnScope ["cellar","stand"] ["cellar","stand"] (qh q3P):=by walk_at "s"
theorem q5t:FnScope ["cellar","stand"] ["cellar","stand"] (qh q1m):=by walk_at "s"
theorem q6m:FnScope ["cellar"] ["cellar"] (qh q1A):=by walk_at "s"
theorem q0X:FnScope ["cellar","pulls","takes","turns","unlocks"] ["cellar"] (qh q0s):=by walk_at "s"
theorem q2U:FnScope ["cellar","paper","numbers","stand","deed","number"] ["cellar","paper"] (qh q3Q):=by walk_at "s"
theorem q1E:FnScope ["cellar","numbers","line","stand","pairs"] ["cellar","numbers","line"] (qh q0Y):=by walk_at "s"
theorem q6T:FnScope ["cellar","numbers","line","pairs","number"] ["cellar","numbers","line","pairs"] (qh q3R):=by walk_at "s"
theorem q3O:FnScope ["_law_script","_law_k"] ["_law_script","_law_k"] (qh q0T):=by walk_at "s"
theorem q0e:FnScope ["_law_script","_law_first","_law_total","_law_found","_law_number","_law_k","_law_cell"] ["_law_script","_law_first","_law_total"] (qh q0S):=by walk_at "s"
theorem q2c:FnScope ["_law_number","_law_base","_law_kind","_law_way"] ["_law_number","_law_base"] (qh q1K):=by walk_at "s"
theorem q1G:FnScope ["_law_numbers_here","_law_ways","_law_things"] ["_law_numbers_here"] (qh q12):=by walk_at "s"
theorem qH:FnScope ["_law_script","_law_first","_law_numbers_here","_law_rooms","_law_base","_law_ways","_law_k","_law_number","_law_a","_law_b","_law_things","_law_levers","_law_wheels","_law_lists"] ["_law_script"] (qh q0P):=by walk_at "s"
theorem q0n:FnScope ["_law_cave_here","_law_stand","_law_kind","_law_total","_law_k"] ["_law_cave_here","_law_stand","_law_kind"] (qh q1c):=by walk_at "s"
theorem q3m:FnScope ["_law_cave_here","_law_stand","_law_k","_law_gate_here"] ["_law_cave_here","_law_stand","_law_k"] (qh q1J):=by walk_at "s"
theorem qB:FnScope ["_law_cave_here","_law_stand","_law_room","_law_taken","_law_unlocked","_law_bits","_law_high","_law_gone","_law_turned","_law_k","_law_a","_law_b","_law_gate_here","_law_back"] ["_law_cave_here","_law_stand"] (qh q0U):=by walk_at "s"
theorem qU:FnScope ["_law_cave_here","_law_stand","_law_room","_law_taken","_law_unlocked","_law_bits","_law_high","_law_gone","_law_turned","_law_k"] ["_law_cave_here","_law_stand"] (qh q1I):=by walk_at "s"
theorem q0D:FnScope ["_law_cave_here","_law_stand","_law_most","_law_known","_law_waiting","_law_deed","_law_other"] ["_law_cave_here","_law_stand","_law_most"] (qh q1b):=by walk_at "s"
theorem q0i:FnScope ["_law_cave_here","_law_stands","_law_number","_law_ahead","_law_stand","_law_turn","_law_fresh"] ["_law_cave_here","_law_stands"] (qh q0O):=by walk_at "s"
theorem qJ:FnScope ["_law_cave_here","_law_stands","_law_numbers_here","_law_near_here","_law_times","_law_paper_here","_law_k","_law_stand","_law_moves","_law_deed","_law_one","_law_other","_law_turn"] ["_law_cave_here","_law_stands","_law_numbers_here"] (qh q1q):=by walk_at "s"
theorem qD:FnScope ["_law_cave_here","_law_stand","_law_cell","_law_room","_law_taken","_law_unlocked","_law_bits","_law_high","_law_some"] ["_law_cave_here","_law_stand","_law_cell"] (qh q0y):=by walk_at "s"
theorem qV:FnScope ["_law_cave_here","_law_paper_here","_law_cell","_law_way","_law_at","_law_stand","_law_deed","_law_number","_law_some"] ["_law_cave_here","_law_paper_here","_law_cell"] (qh q1L):=by walk_at "s"
theorem q0r:FnScope ["_law_cave_here","_law_paper_here","_law_cell","_law_numbers_here","_law_bit","_law_stand","_law_other","_law_known","_law_stands","_law_fresh"] ["_law_cave_here","_law_paper_here","_law_cell","_law_numbers_here"] (qh q0t):=by walk_at "s"
theorem q0F:FnScope ["_law_cave_here","_law_stand","_law_doors","_law_k"] ["_law_cave_here","_law_stand"] (qh q0u):=by walk_at "s"
theorem q09:FnScope ["_law_cave_here","_law_paper_here","_law_number","_law_stand","_law_deed","_law_near_here","_law_moves","_law_nearer"] ["_law_cave_here","_law_paper_here"] (qh q1j):=by walk_at "s"
theorem q1F:FnScope ["_law_cave_here","_law_paper_here","_law_handed","_law_found"] ["_law_cave_here","_law_paper_here"] (qh q1p):=by walk_at "s"
theorem q3l:FnScope ["_law_script","_law_cave_here","_law_numbers_here","_law_stands","_law_paper_here","_law_cell"] ["_law_script"] (qh qbn):=by walk_at "s"
theorem q5I:FnScope ["self","word","numbers"] ["self","word","numbers"] (qh q1Z):=by walk_at "s"
theorem q4Q:FnScope ["self"] ["self"] (qh q1s):=by walk_at "s"
theorem q4P:FnScope ["self","held","opened","bars","water"] ["self","held","opened","bars","water"] (qh q1r):=by walk_at "s"
theorem q5K:FnScope ["self","kind"] ["self","kind"] (qh q21):=by walk_at "s"
theorem q5J:FnScope ["self","held","opened","bars","water"] ["self","held","opened","bars","water"] (qh q20):=by walk_at "s"
theorem q5H:FnScope ["self","kind"] ["self","kind"] (qh q1Y):=by walk_at "s"
theorem q5G:FnScope ["self","held","opened","bars","water"] ["self","held","opened","bars","water"] (qh q1X):=by walk_at "s"
theorem q6p:FnScope ["self","bar"] ["self","bar"] (qh q2p):=by walk_at "s"
theorem q6o:FnScope ["self","held","opened","bars","water"] ["self","held","opened","bars","water"] (qh q2o):=by walk_at "s"
theorem q5x:FnScope ["self","height","kind"] ["self","height","kind"] (qh q1N):=by walk_at "s"
theorem q5w:FnScope ["self","held","opened","bars","water"] ["self","held","opened","bars","water"] (qh q1M):=by walk_at "s"
theorem q4S:FnScope ["self","height"] ["self","height"] (qh q1u):=by walk_at "s"
theorem q4R:FnScope ["self","held","opened","bars","water"] ["self","held","opened","bars","water"] (qh q1t):=by walk_at "s"
theorem q5M:FnScope ["self","word","number","part"] ["self","word","number","part"] (qh q22):=by walk_at "s"
theorem q6n:FnScope ["self","cellar","stand"] ["self","cellar","stand"] (qh q08):=by walk_at "s"
theorem q5L:FnScope ["self"] ["self"] (qh qZ):=by walk_at "s"
theorem q3w:FnScope ["self","cellar"] ["self","cellar"] (qh qF):=by walk_at "s"
theorem q7v:FnScope ["self","number"] ["self","number"] (qh q2Y):=by walk_at "s"
theorem q3c:FnScope ["self","cellar","stand","way","opened"] ["self","cellar","stand"] (qh q2Z):=by walk_at "s"
theorem q3d:FnScope ["self","cellar","stand","way","other_end"] ["self","cellar","stand"] (qh q30):=by walk_at "s"
theorem q5D:FnScope ["self","number"] ["self","number"] (qh q1U):=by walk_at "s"
theorem q5E:FnScope ["self","cellar","stand"] ["self","cellar","stand"] (qh q1V):=by walk_at "s"
theorem q5F:FnScope ["self","cellar","stand"] ["self","cellar","stand"] (qh q1W):=by walk_at "s"
theorem q5A:FnScope ["self","number"] ["self","number"] (qh q1R):=by walk_at "s"
theorem q5B:FnScope ["self","cellar","stand"] ["self","cellar","stand"] (qh q1S):=by walk_at "s"
theorem q5C:FnScope ["self","cellar","stand"] ["self","cellar","stand"] (qh q1T):=by walk_at "s"
theorem q5y:FnScope ["self","number"] ["self","number"] (qh q1O):=by walk_at "s"
theorem q3n:FnScope ["self","cellar","stand","wheel"] ["self","cellar","stand"] (qh q1P):=by walk_at "s"
theorem q5z:FnScope ["self","cellar","stand"] ["self","cellar","stand"] (qh q1Q):=by walk_at "s"
theorem q4o:FnScope ["self","number"] ["self","number"] (qh q1d):=by walk_at "s"
theorem q1w:FnScope ["self","cellar","stand","way","gate"] ["self","cellar","stand"] (qh q1e):=by walk_at "s"
theorem q4p:FnScope ["self","cellar","stand"] ["self","cellar","stand"] (qh q1f):=by walk_at "s"
structure Cs where
 Gate:Addr
 Plain:Addr
 Door:Addr
 Need:Addr
 Bar:Addr
 Wade:Addr
 Float:Addr
 Deed:Addr
 Go:Addr
 Pull:Addr
 Take:Addr
 Turn:Addr
 Unlock:Addr
structure TxtR (a:Str->Value->Prop)(n:Str->Prop)(cs:Cs):Prop where
 wbm:n "all"
 wa7:n "any"
 waN:n "bool"
 vn:n "enumerate"
 war:n "int"
 ve:n "isinstance"
 wf:n "len"
 waz:n "list"
 wbd:n "max"
 waq:n "min"
 wu:n "range"
 vT:n "sorted"
 wbn:n "sum"
 vx:n "tuple"
 vw:∃t,a "ALL_BARS" (.int 255 t)
 wN:∃t,a "BARS" (.int 3 t)
 vP:∃t,a "FIRST" (.int 1 t)
 w6:∃t,a "FIRST_BARS" (.int 7 t)
 wT:∃t,a "FIRST_WATER" (.int 8 t)
 vA:∃t,a "LAST" (.int 2 t)
 vp:∃t,a "LAST_KIND" (.int 11 t)
 wX:∃t,a "LEVERS" (.int 5 t)
 wm:∃t,a "OPENED" (.int 2 t)
 wn:∃t,a "PAIR_NUMBER" (.int 1 t)
 wy:∃t,a "PAIR_ROOM" (.int 0 t)
 vO:∃t,a "PARTS" (.int 5 t)
 wc:∃t,a "ROOM" (.int 0 t)
 vN:∃t,a "ROOMS" (.int 0 t)
 wB:∃t,a "TAKEN" (.int 1 t)
 wz:∃t,a "THINGS" (.int 4 t)
 va:∃t,a "TOP_HEIGHT" (.int 9 t)
 wD:∃t,a "WATER" (.int 4 t)
 wC:∃t,a "WAYS" (.int 3 t)
 wY:∃t,a "WAY_A" (.int 0 t)
 vj:∃t,a "WAY_B" (.int 1 t)
 vq:∃t,a "WAY_BACK" (.int 3 t)
 wI:∃t,a "WAY_GATE" (.int 2 t)
 wW:∃t,a "WHEELS" (.int 6 t)
 c_Gate:a "Gate" (.ref cs.Gate)
 c_Plain:a "Plain" (.ref cs.Plain)
 c_Door:a "Door" (.ref cs.Door)
 c_Need:a "Need" (.ref cs.Need)
 c_Bar:a "Bar" (.ref cs.Bar)
 c_Wade:a "Wade" (.ref cs.Wade)
 c_Float:a "Float" (.ref cs.Float)
 c_Deed:a "Deed" (.ref cs.Deed)
 c_Go:a "Go" (.ref cs.Go)
 c_Pull:a "Pull" (.ref cs.Pull)
 c_Take:a "Take" (.ref cs.Take)
 c_Turn:a "Turn" (.ref cs.Turn)
 c_Unlock:a "Unlock" (.ref cs.Unlock)
abbrev Txt (mg:Str->Option Value)(cs:Cs):Prop:=TxtR (fun x v=>mg x=some v) (fun x=>mg x=none) cs
theorem TxtR.up {a a':Str->Value->Prop}{n n':Str->Prop}{cs:Cs}(h1:∀x v,a x v->a' x v)(h2:∀x,n x->n' x)(t:TxtR a n cs):TxtR a' n' cs:=⟨h2 _ t.wbm,h2 _ t.wa7,h2 _ t.waN,h2 _ t.vn,h2 _ t.war,h2 _ t.ve,h2 _ t.wf,h2 _ t.waz,h2 _ t.wbd,h2 _ t.waq,h2 _ t.wu,h2 _ t.vT,h2 _ t.wbn,h2 _ t.vx,t.vw.imp fun _=>h1 _ _,t.wN.imp fun _=>h1 _ _,t.vP.imp fun _=>h1 _ _,t.w6.imp fun _=>h1 _ _,t.wT.imp fun _=>h1 _ _,t.vA.imp fun _=>h1 _ _,t.vp.imp fun _=>h1 _ _,t.wX.imp fun _=>h1 _ _,t.wm.imp fun _=>h1 _ _,t.wn.imp fun _=>h1 _ _,t.wy.imp fun _=>h1 _ _,t.vO.imp fun _=>h1 _ _,t.wc.imp fun _=>h1 _ _,t.vN.imp fun _=>h1 _ _,t.wB.imp fun _=>h1 _ _,t.wz.imp fun _=>h1 _ _,t.va.imp fun _=>h1 _ _,t.wD.imp fun _=>h1 _ _,t.wC.imp fun _=>h1 _ _,t.wY.imp fun _=>h1 _ _,t.vj.imp fun _=>h1 _ _,t.vq.imp fun _=>h1 _ _,t.wI.imp fun _=>h1 _ _,t.wW.imp fun _=>h1 _ _,h1 _ _ t.c_Gate,h1 _ _ t.c_Plain,h1 _ _ t.c_Door,h1 _ _ t.c_Need,h1 _ _ t.c_Bar,h1 _ _ t.c_Wade,h1 _ _ t.c_Float,h1 _ _ t.c_Deed,h1 _ _ t.c_Go,h1 _ _ t.c_Pull,h1 _ _ t.c_Take,h1 _ _ t.c_Turn,h1 _ _ t.c_Unlock⟩
structure Tcl (K:W.Frag)(cs:Cs):Prop where
 cl_Plain:Cls K cs.Plain
 no_Plain_numbers:qG K cs.Plain "numbers"
 no_Plain_word:qG K cs.Plain "word"
 cl_Door:Cls K cs.Door
 no_Door_numbers:qG K cs.Door "numbers"
 no_Door_word:qG K cs.Door "word"
 cl_Need:Cls K cs.Need
 no_Need_kind:qG K cs.Need "kind"
 no_Need_numbers:qG K cs.Need "numbers"
 no_Need_word:qG K cs.Need "word"
 cl_Bar:Cls K cs.Bar
 no_Bar_bar:qG K cs.Bar "bar"
 no_Bar_numbers:qG K cs.Bar "numbers"
 no_Bar_word:qG K cs.Bar "word"
 cl_Wade:Cls K cs.Wade
 no_Wade_height:qG K cs.Wade "height"
 no_Wade_kind:qG K cs.Wade "kind"
 no_Wade_numbers:qG K cs.Wade "numbers"
 no_Wade_word:qG K cs.Wade "word"
 cl_Float:Cls K cs.Float
 no_Float_height:qG K cs.Float "height"
 no_Float_numbers:qG K cs.Float "numbers"
 no_Float_word:qG K cs.Float "word"
 cl_Go:Cls K cs.Go
 no_Go_number:qG K cs.Go "number"
 no_Go_part:qG K cs.Go "part"
 no_Go_word:qG K cs.Go "word"
 cl_Pull:Cls K cs.Pull
 no_Pull_number:qG K cs.Pull "number"
 no_Pull_part:qG K cs.Pull "part"
 no_Pull_word:qG K cs.Pull "word"
 cl_Take:Cls K cs.Take
 no_Take_number:qG K cs.Take "number"
 no_Take_part:qG K cs.Take "part"
 no_Take_word:qG K cs.Take "word"
 cl_Turn:Cls K cs.Turn
 no_Turn_number:qG K cs.Turn "number"
 no_Turn_part:qG K cs.Turn "part"
 no_Turn_word:qG K cs.Turn "word"
 cl_Unlock:Cls K cs.Unlock
 no_Unlock_number:qG K cs.Unlock "number"
 no_Unlock_part:qG K cs.Unlock "part"
 no_Unlock_word:qG K cs.Unlock "word"
-- ROOM 13
-- SLIM
-- DROP ok_deed_of
-- DROP ok_behind
-- DROP ok_deedsAt
-- PATCHED
-- DROP ok_cell
-- DROP ok_gate
-- DROP ok_heldL
-- DROP ok_cellar
-- DROP stand_b
-- DROP ok_stand
-- DROP vm_dtext
-- DROP vm_told
-- DROP vm_text
theorem r_seqZ {t u:TS}{nx bk ct:St->Hp->Prop}{rt:VK}{σ:St}{H:Hp}(q:∀z:TS,z=u->t ⟨z ⟨nx,rt,bk,ct⟩,rt,bk,ct⟩ σ H):tSeq t u ⟨nx,rt,bk,ct⟩ σ H:=q u rfl
theorem r_unz {z u:TS}{D:Ends}{σ:St}{H:Hp}(h:z=u)(q:u D σ H):z D σ H:=h▸q
local macro_rules| `(tactic| walk_at "ne")=> `(tactic| refine ifd (fun h=>absurd h (by walk_at "k")) (fun _=>?_))
local macro_rules| `(tactic| walk_at "eq")=> `(tactic| refine ifd (fun _=>?_) (fun h=>absurd rfl h))
local macro_rules| `(tactic| walk_at "at")=> `(tactic| first|rfl|exact atI0|exact qct (by assumption)|exact q0H (by assumption)|assumption)
local macro_rules| `(tactic| walk_at "hp")=> `(tactic| first|with_reducible assumption|with_reducible exact qc|((with_reducible apply q1k);(rotate_left;(with_reducible assumption));walk_at "hp")|exact qc)
local macro_rules| `(tactic| walk_at "sq")=> `(tactic| first|with_reducible assumption|((with_reducible apply SqT.of);walk_at "hp")|((with_reducible apply SqL.of);walk_at "hp")|((with_reducible refine' Same.seq ?s ?h);(case h=>with_reducible assumption);(case s=>walk_at "sm"))|((with_reducible refine' Same.tup ?s ?h);(case h=>with_reducible assumption);(case s=>walk_at "sm")))
local macro_rules| `(tactic| walk_at "sm")=> `(tactic| first|with_reducible assumption|with_reducible exact Same.refl _|((with_reducible refine Same.trans ?_ (Same.upd (by assumption)));walk_at "sm"))
local macro_rules| `(tactic| walk_at "side")=> `(tactic| first|assumption|omega|(exact⟨by omega,by omega⟩)|(exact Or.inl ⟨by omega,by omega⟩)|(exact Or.inr ⟨by omega,by omega⟩)|(exact⟨by omega,by omega,by omega⟩)|(exact⟨by omega,by omega,by decide⟩)|(exact⟨⟨by omega,by omega⟩,by omega,by omega⟩))
local macro_rules| `(tactic| walk_at "rd1")=> `(tactic| first|((with_reducible refine' r_var ?h ?_);(case h=>rfl))|(with_reducible first|refine' r_op ?_|refine' r_c ?_|refine' r_cons ?_|refine' r_nil ?_)|((with_reducible refine' r_seqZ ?_);intro _ _)|(with_reducible first|refine' r_asg ?_|refine' r_name ?_|refine' r_call ?_|refine' r_cb ?_|refine' r_I0 ?_|refine' r_test ?_|refine' r_bl ?_|refine' r_B ?_|refine' r_ifS ?_|refine' r_ret ?_|refine' r_eqI ?_|refine' r_eqS ?_|refine' r_eqB ?_|refine' r_neI ?_|refine' r_neS ?_|refine' r_and ?_|refine' r_or ?_|refine' r_not ?_|refine' r_un ?_|refine' r_U ?_|refine' r_isN ?_|refine' r_notN ?_|refine' r_andV ?_|refine' r_orV ?_|refine' r_notV ?_|refine' r_if ?_|refine' r_tup ?_|refine' r_lst ?_|refine' r_sl ?_|refine' r_np ?_|refine' r_pt ?_|refine' r_int ?_|refine' r_fld0 ?_|refine' qbq ?_|refine' r_vm0 ?_|refine' r_make ?_|refine' qbu ?_|refine' r_max2 ?_|refine' r_min2 ?_|refine' r_intb ?_|refine' r_next ?_|refine' r_drop ?_|refine' r_augS ?_|refine' r_ipI ?_|refine' r_gc ?_|refine' r_gn ?_|refine' r_bm ?_|refine' r_bm0 ?_|refine' r_for ?_|refine' r_rng1 ?_|refine' r_rng2 ?_|refine' r_comp ?_|refine' r_yes ?_|refine' r_iL ?_|refine' r_iT ?_|refine' r_eL ?_|refine' r_eT ?_|refine' iteT ?_|refine' iteF ?_|refine' ifnT ?_|refine' ifnF ?_|refine' q9G ?_|refine' q9H ?_|refine' q9I ?_|refine' r_dnew ?_|refine' r_dget ?_|refine' r_din ?_|refine' r_dnin ?_|refine' r_dput ?_|refine' r_cont ?_|refine' r_dgm2 ?_)|((with_reducible refine' r_I ?h ?_);(case h=>walk_at "side"))|((with_reducible refine' r_al ?h ?_);(case h=>rfl))|((with_reducible refine' q3x ?h ?e ?_);(case h=>walk_at "sq");(case e=>walk_at "at"))|((with_reducible refine' q2d ?h ?e ?_);(case h=>walk_at "sq");(case e=>walk_at "at"))|((with_reducible refine' r_lenT ?h ?_);(case h=>walk_at "sq"))|((with_reducible refine' r_lenL ?h ?_);(case h=>walk_at "sq"))|((with_reducible refine' r_refT ?h ?_);(case h=>walk_at "sq"))|((with_reducible refine' r_refL ?h ?_);(case h=>walk_at "sq"))|((with_reducible refine' qbr ?h ?_);(case h=>walk_at "sq"))|((with_reducible refine' qbs ?h ?_);(case h=>walk_at "sq"))|((with_reducible refine' r_tyL ?h ?_);(case h=>walk_at "hp"))|((with_reducible refine' r_gT ?h ?e ?_);(case h=>walk_at "sq");(case e=>rfl))|((with_reducible refine' r_rg ?h ?_);(case h=>walk_at "side"))|((with_reducible refine' r_rg2 ?h ?_);(case h=>walk_at "side"))|((with_reducible refine' r_unz ?h ?_);(case h=>assumption))|((dsimp only);(with_reducible refine' r_unz ?h ?_);(case h=>assumption)))
local macro_rules| `(tactic| walk_at "r")=> `(tactic| repeat (walk_at "rd1"))
local macro_rules| `(tactic| walk_at "rc")=> `(tactic| repeat (first|with_reducible refine' r_seq ?_|walk_at "rd1"))
open Ce
def q6j:Sp:=fun vs H Q _=>∃x t,vs=[.int x,.int t]/\0<=t/\Q (.bl (bit x t.toNat)) H
def q6e:Sp:=fun vs H Q _=>∃(p:Addr) (C:Cl),vs=[.ref p]/\ClAt H p C/\∀(q:Addr) (H':Hp),Same H H'->H' q=some (.tup [.int C.fst,.int 0,.int 0,.int C.bars,.int C.water])->Q (.ref q) H'
def dkV (g:Gt):V:=match g.dk with
 |some k=> .int k
 |none=> .non
def spDk:Sp:=fun vs H Q _=>∃(p:Addr) (C:Cl),vs=[.ref p]/\ClAt H p C/\ClOk C/\∀(q:Addr) (H':Hp),Same H H'->H q=none->H' q=some (.lst (C.ways.map fun x=>dkV x.g))->Q (.ref q) H'
def q5r:Sp:=fun vs H Q _=>∃(p q:Addr) (C:Cl) (rm tk op b wt:Int),vs=[.ref p,.ref q]/\ClAt H p C/\ClOk C/\H q=some (.tup [.int rm,.int tk,.int op,.int b,.int wt])/\(∀i,i<C.ways.length->bit op i=true->(dsOf C i).isSome=true)/\
 ∀(r:Addr) (H':Hp),Same H H'->H r=none->H' r=some (.lst (cl (hold C tk op)))->Q (.ref r) H'
theorem q53 {xs:List Int}{j:Nat}(h:j<xs.length):atI (xs.map V.int) (j:Int)=some (.int (xs.getD j 0)):=q0H (by simp[List.getD,h])
theorem q97 {C:Cl}{tk k:Int}{i:Nat}(hi:i<C.things.length):(cnt (tP C tk k) (i+1):Int)=(cnt (tP C tk k) i:Int)+(if bit tk i=true then(if k=C.things[i].2 then 1 else 0) else 0):=by
 show((cnt _ i+_:Nat):Int)=_
 have e:C.things.getD i (0,0)=C.things[i]:=by simp[List.getD,hi]
 unfold tP
 rw[e]
 by_cases h1:bit tk i=true
 ·by_cases h2:C.things[i].2=k
  ·simp [h1,h2]
  ·have:¬k=C.things[i].2:=fun z=>h2 z.symm
   simp[h1,h2,this]
 ·simp [h1]
theorem q99 {C:Cl}{op k:Int}{i:Nat}(hi:i<C.ways.length):(cnt (dP (dsOf C) op k) (i+1):Int)=(cnt (dP (dsOf C) op k) i:Int)+(if bit op i=true then(if C.ways[i].g.dk=some k then 1 else 0) else 0):=by
 show((cnt _ i+_:Nat):Int)=_
 have e:dsOf C i=C.ways[i].g.dk:=by simp[dsOf,hi]
 unfold dP
 rw[e]
 by_cases h1:bit op i=true
 ·by_cases h2:C.ways[i].g.dk=some k
  ·simp [h1,h2]
  ·simp [h1,h2]
 ·simp [h1]
section
variable {P:Program}{w:World}{K:W.Frag}{mg:Str->Option Value}{base:Heap}{cs:Cs}
theorem q7A (T:Txt mg cs)(L:Laid K mg "has_bit" q2V ["bits","place"]):Cal P w K mg base 1 "has_bit" ["bits","place"] q6j:=by
 refine L.cal (k:=0) q7t (fun vs H Q E h=>?_) (fun f cdv A outer s H vs Q E hr h=>?_)
 ·obtain ⟨x,t,rfl,_⟩:=h
  rfl
 ·obtain ⟨x,t,rfl,h0,k⟩:=h
  refine⟨_,(qg (qm (qP q01 (qi q41 (qi q4y (pv 0) (pv 1)) qb) qb (qp _)))),?_⟩
  walk_at "r"
  rw[q2x]
  exact k
theorem q9X (T:Txt mg cs)(L:Laid K mg "start" q4T ["cellar"]):Cal P w K mg base 1 "start" ["cellar"] q6e:=by
 obtain⟨t1,vP⟩:=T.vP
 obtain⟨t2,w6⟩:=T.w6
 obtain⟨t3,wT⟩:=T.wT
 refine L.cal (k:=0) q9D (fun vs H Q E h=>?_) (fun f cdv A outer s H vs Q E hr h=>?_)
 ·obtain ⟨p,C,rfl,_⟩:=h
  rfl
 ·obtain ⟨p,C,rfl,hC,k⟩:=h
  obtain⟨pw,pt,pl,pv',h0,_⟩:=hC.ex
  refine⟨_,(qg (qm (qA (qa (qj (qf K) (pv 0) (qt (v:= .int 1) rfl vP ⟨_,rfl⟩) (fun _ _=>rfl)) (qa qb (qa qb (qa (qj (qf K) (pv 0) (qt (v:= .int 7) rfl w6 ⟨_,rfl⟩) (fun _ _=>rfl)) (qa (qj (qf K) (pv 0) (qt (v:= .int 8) rfl wT ⟨_,rfl⟩) (fun _ _=>rfl)) qd)))))))),?_⟩
  walk_at "r"
  intro q hq
  exact k q _ (Same.upd hq) qc
theorem ok_dk (T:Txt mg cs)(L:Laid K mg "door_kinds" q0Z ["cellar"]):Cal P w K mg base 1 "door_kinds" ["cellar"] spDk:=by
 obtain⟨t1,wC⟩:=T.wC
 refine L.cal (k:=0) q4O (fun vs H Q E h=>?_) (fun f cdv A outer s H vs Q E hr h=>?_)
 ·obtain ⟨p,C,rfl,_⟩:=h
  rfl
 ·obtain ⟨p,C,rfl,hC,ok,k⟩:=h
  obtain⟨pw,pt,pl,pv',h0,h1,_⟩:=hC.ex
  obtain⟨wv,hw,hwl,hwg⟩:=h1.get
  have big:=qE
  refine⟨_,(qg (qm (q0C (q0p (N:=["a","b","gate","back"]) (own:=4) (caps:=[]) ["cellar"] (qh q0Z) (by walk_at "k")) rfl (qbB K (qj (qf K) (pv 0) (qt (v:= .int 3) rfl wC ⟨_,rfl⟩) (fun _ _=>rfl))) (fun _ _ _ _=>(q0g (n:=4) K rfl (qr (qk (i:=0) (show List.Nodup (["a","b","gate","back"]:List Str) by walk_at "k") rfl (Or.inl rfl)) (qr (qk (i:=1) (show List.Nodup (["a","b","gate","back"]:List Str) by walk_at "k") rfl (Or.inl rfl)) (qr (qk (i:=2) (show List.Nodup (["a","b","gate","back"]:List Str) by walk_at "k") rfl (Or.inl rfl)) (qr (qk (i:=3) (show List.Nodup (["a","b","gate","back"]:List Str) by walk_at "k") rfl (Or.inl rfl)) q0f)))))) (fun _ _ _ _=>q18) (fun _ _ _ _=>(q70 (qq q01 (qj (qf K) (pv 2) qb (fun _ _=>rfl)) qL (qp _)) (qj (qf K) (pv 2) qb (fun _ _=>rfl)) q8p))))),?_⟩
  walk_at "r"
  intro D hD
  refine qaA wv (fun i σ H'=>∃v0 v1 v2 v3,σ=[v0,v1,v2,v3]/\Same H H'/\H' D=some (.lst ((C.ways.take i).map fun x=>dkV x.g))) ⟨none,none,none,none,rfl,Same.upd hD,by rw[qc];rfl⟩ ?_ ?_ ?_
  ·rintro i σ H' ⟨_,_,_,_,rfl,s1,_⟩
   exact SqT.of (s1 _ _ hw)
  ·rintro i x σ H' hx ⟨v0,v1,v2,v3,rfl,s1,hD1⟩
   have hi:i<C.ways.length:=by rw[<-hwl];exact(yA hx).1
   obtain⟨p1,e,g,hp1,hg⟩:=hwg i hi
   rw[hx] at e
   cases e
   have hp2:=s1 _ _ hp1
   have hg2:=s1 _ _ hg
   have hl:=ok.wl
   rw[Gt.vs_eq] at hg2
   have fin:∀v,v=dkV C.ways[i].g->∃ys,H' D=some (.lst ys)/\ys.length<sizeLine/\∃v0 v1 v2 v3,([some (.int C.ways[i].a),some (.int C.ways[i].b),some (.ref g),some (.bl C.ways[i].back)]:St)=[v0,v1,v2,v3]/\Same H (upd H' D (.lst (ys++[v])))/\(upd H' D (.lst (ys++[v]))) D=some (.lst ((C.ways.take (i+1)).map fun x=>dkV x.g)):=by
    intro v ev
    subst ev
    refine⟨_,hD1,by simp;omega,_,_,_,_,rfl,s1.put hD,?_⟩
    rw[qc,q7X (fun x:Way=>dkV x.g) C.ways hi]
   walk_at "r"
   refine ifd (fun hd=>?_) (fun hd=>?_)
   ·obtain ⟨k1,ek⟩:=q8X hd
    rw[ek] at hg2
    walk_at "r"
    exact fin _ (by rw[ek];rfl)
   ·walk_at "r"
    refine fin _ ?_
    cases eg:C.ways[i].g with
    |door k1=>rw[eg] at hd;exact absurd rfl hd
    |_=>rfl
  ·rintro σ H' ⟨_,_,_,_,rfl,s1,hD1⟩
   rw[show wv.length=C.ways.length from hwl,zG] at hD1
   exact k D H' s1 hD hD1
theorem qbQ (T:Txt mg cs)(L:Laid K mg "held" q6U ["cellar","stand"])(wg:Cal P w K mg base 1 "has_bit" ["bits","place"] q6j)(wE:Cal P w K mg base 1 "door_kinds" ["cellar"] spDk):Cal P w K mg base 2 "held" ["cellar","stand"] q5r:=by
 obtain⟨t1,vp⟩:=T.vp
 obtain⟨t2,wm⟩:=T.wm
 obtain⟨t3,wB⟩:=T.wB
 obtain⟨t4,wz⟩:=T.wz
 refine L.cal (k:=1) q3b (fun vs H Q E h=>?_) (fun f cdv A outer s H vs Q E hr h=>?_)
 ·obtain ⟨p,q,C,_,_,_,_,_,rfl,_⟩:=h
  rfl
 ·obtain ⟨p,q,C,rm,tk,op,b,wt,rfl,hC,ok,hq,hdr,k⟩:=h
  obtain⟨pw,pt,pl,pv',h0,h1,h2,_⟩:=hC.ex
  obtain⟨tv,ht,htl,htg⟩:=h2.get
  have big:=qE
  refine⟨_,(qe (qv (i:=2) q3b.nd rfl (Or.inl rfl) (qi op_rep (q0h (qa qb qd)) (qi q05 (qt (v:= .int 11) rfl vp ⟨_,rfl⟩) qb)))
   (qe (q0z PassesOwn.never rfl (q8o K rfl T.vn (qa (qj (qf K) (pv 0) (qt (v:= .int 4) rfl wz ⟨_,rfl⟩) (fun _ _=>rfl)) qd)) (q0g (n:=2) K rfl (qr (qk (i:=3) q3b.nd rfl (Or.inl rfl)) (qr (qk (i:=4) q3b.nd rfl (Or.inl rfl)) q0f))) (qg (qN (q14 (qz wg hr (by decide) rfl (qa (qj (qf K) (pv 1) (qt (v:= .int 1) rfl wB ⟨_,rfl⟩) (fun _ _=>rfl)) (qa (pv 3) qd)))) (qg (q8m (pv 2) (qj (qf K) (pv 4) qb (fun _ _=>rfl)) (q5Z K) qb ip_add q6R)) qu)))
   (qe (q0z PassesOwn.never rfl (q5R K rfl T.vn (qa (qz wE hr (by decide) rfl (qa (pv 0) qd)) qd)) (q0g (n:=2) K rfl (qr (qk (i:=3) q3b.nd rfl (Or.inl rfl)) (qr (qk (i:=5) q3b.nd rfl (Or.inl rfl)) q0f))) (qg (qN (q14 (qz wg hr (by decide) rfl (qa (qj (qf K) (pv 1) (qt (v:= .int 2) rfl wm ⟨_,rfl⟩) (fun _ _=>rfl)) (qa (pv 3) qd)))) (qg (q8m (pv 2) (pv 5) (q5Z K) qb ip_sub q6R)) qu)))
   (qg (qm (pv 2)))))),?_⟩
  walk_at "r"
  intro p1 hp1
  walk_at "r"
  refine⟨p1,_,_,rfl,rfl,qc,by decide,by decide,by show 1*12<=sizeLine;decide,fun cs hcs=>?_⟩
  have hcs0:H cs=none:=(Same.upd hp1).free hcs
  have s0:Same H (upd (upd H p1 (.lst [.int 0])) cs (.lst (List.replicate (11+1:Int).toNat [V.int 0]).flatten)):=(Same.upd hp1).trans (Same.upd hcs)
  have h0':=s0 _ _ h0
  have ht':=s0 _ _ ht
  walk_at "r"
  refine q8P tv (fun i σ H'=>∃v3 v4 v5,σ=[some (.ref p),some (.ref q),some (.ref cs),v3,v4,v5]/\Same H H'/\H' cs=some (.lst (cl fun k=>(cnt (tP C tk k) i:Int)))) ⟨none,none,none,rfl,s0,by rw[qc];rfl⟩ ?_ ?_ ?_
  ·rintro i σ H' ⟨_,_,_,rfl,s1,_⟩
   exact SqT.of (s1 _ _ ht)
  ·rintro i x σ H' T1 hx ⟨v3,v4,v5,rfl,s1,hc⟩ hT1
   have hi:i<C.things.length:=by rw[<-htl];exact(yA hx).1
   obtain⟨p2,e,hp2⟩:=htg i hi
   rw[hx] at e
   cases e
   have hp3:H' p2=_:=s1 _ _ hp2
   have hq3:=s1 _ _ hq
   obtain⟨_,k0,k1⟩:=ok.t _ (zx hi)
   have sT:Same H (upd H' T1 (.tup [.int (i:Nat),.ref p2])):=s1.trans (Same.upd hT1)
   have hcT:(upd H' T1 (.tup [.int (i:Nat),.ref p2])) cs=some (.lst (cl fun k=>(cnt (tP C tk k) i:Int))):=q1k hc hT1
   walk_at "r"
   refine⟨tk,i,rfl,by omega,?_⟩
   rw[zh]
   walk_at "r"
   refine ite2 (fun hb=>?_) (fun hb=>?_)
   ·walk_at "r"
    refine q2d (SqL.of hcT) (q9c k0 k1) ?_
    walk_at "r"
    refine qaW hcT (cl_ix k0 k1) ?_
    refine⟨_,_,_,rfl,sT.put hcs0,?_⟩
    rw[qc,qb5 k0 k1]
    congr 2
    refine q37 fun k _ _=>?_
    rw[q97 hi,zj hb]
    by_cases ek:k=C.things[i].2
    ·rw [zj ek,zj ek,ek]
    ·rw [zd ek,zd ek];omega
   ·walk_at "r"
    refine⟨_,_,_,rfl,sT,?_⟩
    rw[hcT]
    congr 2
    refine q37 fun k _ _=>?_
    rw[q97 hi,zd hb];omega
  ·rintro σ H' ⟨v3,v4,v5,rfl,s1,hc⟩
   rw[show tv.length=C.things.length from htl] at hc
   walk_at "r"
   refine⟨p,C,rfl,hC.mono s1.ts,ok,fun dk H2 s2 hdk hdk2=>?_⟩
   have s12:=s1.trans s2
   have hc2:=s2 _ _ hc
   walk_at "r"
   refine q8P (C.ways.map fun x=>dkV x.g) (fun i σ H'=>∃v3 v4 v5,σ=[some (.ref p),some (.ref q),some (.ref cs),v3,v4,v5]/\Same H H'/\H' dk=some (.lst (C.ways.map fun x=>dkV x.g))/\H' cs=some (.lst (cl fun k=>(cnt (tP C tk k) C.things.length:Int) - (cnt (dP (dsOf C) op k) i:Int)))) ⟨v3,v4,v5,rfl,s12,hdk2,?_⟩ ?_ ?_ ?_
   ·rw [hc2]
    refine zM (fun l=>some (HO.lst l)) (q37 fun k _ _=>?_)
    show _=_ - ((0:Nat):Int)
    omega
   ·rintro i σ H' ⟨_,_,_,rfl,s3,h3,_⟩
    exact SqL.of h3
   ·rintro i x σ H' T1 hx ⟨v3,v4,v5,rfl,s3,hd3,hc3⟩ hT1
    have hi:i<C.ways.length:=by have:=(yA hx).1;simpa using this
    have ex:x=dkV C.ways[i].g:=by simpa[hi] using hx.symm
    subst ex
    have hq3:=s3 _ _ hq
    have hne:dk≠cs:=fun z=>by rw[z] at hdk;rw[hdk] at hc;cases hc
    have sT:Same H (upd H' T1 (.tup [.int (i:Nat),dkV C.ways[i].g])):=s3.trans (Same.upd hT1)
    have hcT:(upd H' T1 (.tup [.int (i:Nat),dkV C.ways[i].g])) cs=_:=q1k hc3 hT1
    have hdT:(upd H' T1 (.tup [.int (i:Nat),dkV C.ways[i].g])) dk=_:=q1k hd3 hT1
    walk_at "r"
    refine⟨op,i,rfl,by omega,?_⟩
    rw[zh]
    walk_at "r"
    refine ite2 (fun hb=>?_) (fun hb=>?_)
    ·have hsome:=hdr i hi hb
     have eds:dsOf C i=C.ways[i].g.dk:=by simp[dsOf,hi]
     rw[eds] at hsome
     obtain⟨k2,ek2⟩:=zaK.mp hsome
     have hgok:=(ok.w _ (zx hi)).2.2.2
     have hk2:0<=k2/\k2<12:=by
      cases eg:C.ways[i].g with
      |door j=>rw[eg] at ek2 hgok;cases ek2;exact hgok
      |_=>rw[eg] at ek2;cases ek2
     have ev:dkV C.ways[i].g= .int k2:=by unfold dkV;rw[ek2]
     rw[ev] at hcT hdT sT ⊢
     walk_at "r"
     refine q2d (SqL.of hcT) (q9c hk2.1 hk2.2) ?_
     walk_at "r"
     refine qaW hcT (cl_ix hk2.1 hk2.2) ?_
     refine⟨_,_,_,rfl,sT.put hcs0,up_oth hdT hne,?_⟩
     rw[qc,qb5 hk2.1 hk2.2]
     congr 2
     refine q37 fun k _ _=>?_
     rw[q99 hi,zj hb,ek2]
     by_cases ek:k=k2
     ·rw [zj ek,zj (by rw[ek]),ek];omega
     ·rw [zd ek,zd (by intro z;exact ek (zD z).symm)];omega
    ·walk_at "r"
     refine⟨_,_,_,rfl,sT,hdT,?_⟩
     rw[hcT]
     congr 2
     refine q37 fun k _ _=>?_
     rw[q99 hi,zd hb];omega
   ·rintro σ H' ⟨v3,v4,v5,rfl,s3,hd3,hc3⟩
    walk_at "r"
    rw[yC] at hc3
    exact k cs H' s3 hcs0 hc3
def q9a (cs:Cs):Gt->Addr
 | .plain=>cs.Plain
 | .door _=>cs.Door
 | .need _=>cs.Need
 | .bar _=>cs.Bar
 | .wade _ _=>cs.Wade
 | .float _=>cs.Float
def fldB (q:Addr)(g:Gt):List (Str×V):=putF "numbers" (.ref q) (putF "word" (.str g.word) [])
def flds (q:Addr):Gt->List (Str×V)
 | .need k=>putF "kind" (.int k) (fldB q (.need k))
 | .bar b=>putF "bar" (.int b) (fldB q (.bar b))
 | .wade h k=>putF "kind" (.int k) (putF "height" (.int h) (fldB q (.wade h k)))
 | .float h=>putF "height" (.int h) (fldB q (.float h))
 |g=>fldB q g
theorem qcd (q:Addr)(g:Gt):(flds q g).lookup ("lets":Str)=none:=by
 cases g<;>(unfold flds;first|unfold fldB|skip)<;>simp only[fldB,qT]<;>repeat (first|rfl|rw[zd (by walk_at "k")])
theorem qaw (q:Addr)(k:Int):(flds q (.need k)).lookup ("kind":Str)=some (.int k):=by
 unfold flds;rw[qT,if_pos rfl]
theorem qce (q:Addr)(k:Int):(flds q (.bar k)).lookup ("bar":Str)=some (.int k):=by
 unfold flds;rw[qT,if_pos rfl]
theorem qau (q:Addr)(h k:Int):(flds q (.wade h k)).lookup ("kind":Str)=some (.int k):=by
 unfold flds;rw[qT,if_pos rfl]
theorem qav (q:Addr)(h k:Int):(flds q (.wade h k)).lookup ("height":Str)=some (.int h):=by
 unfold flds;rw[qT,if_neg (by walk_at "k"),qT,if_pos rfl]
theorem q8Q (q:Addr)(h:Int):(flds q (.float h)).lookup ("height":Str)=some (.int h):=by
 unfold flds;rw[qT,if_pos rfl]
structure GObj (cs:Cs)(H:Hp)(p:Addr)(g:Gt):Prop where
 ex:∃dx q,H p=some (.ins (q9a cs g) dx (flds q g))/\H q=some (.tup (g.ns.map V.int))
theorem GObj.mono {cs:Cs}{H H':Hp}{p:Addr}{g:Gt}(s:Same H H')(h:GObj cs H p g):GObj cs H' p g:=let ⟨dx,q,h1,h2⟩:=h.ex;⟨dx,q,s _ _ h1,s _ _ h2⟩
def q2b (K:W.Frag):Sp:=fun vs H Q _=>∃(p C dx q:Addr) (z:Str),vs=[.ref p,.str z,.ref q]/\H p=some (.ins C dx [])/\Cls K C/\qG K C "word"/\qG K C "numbers"/\Q .non (upd H p (.ins C dx (putF "numbers" (.ref q) (putF "word" (.str z) []))))
def spMk (cs:Cs)(wd:Str):Sp:=fun vs H Q _=>∃(p dx:Addr) (g:Gt),vs= .ref p::g.ns.map V.int/\g.word=wd/\H p=some (.ins (q9a cs g) dx [])/\∀H',(∀b o,H b=some o->b≠p->H' b=some o)->GObj cs H' p g->Q .non H'
def qbi (cs:Cs):Sp:=fun vs H Q _=>∃(p:Addr) (g:Gt),vs=[.ref p]/\H p=some (.tup g.vs)/\∀(x:Addr) (H':Hp),Same H H'->H x=none->GObj cs H' x g->Q (.ref x) H'
def q3k (cs:Cs)(wd:Str):Sp:=fun vs H Q _=>∃(p hl:Addr) (g:Gt) (f:Int->Int) (op:Bool) (bars wt:Int),vs=[.ref p,.ref hl,.bl op,.int bars,.int wt]/\g.word=wd/\GObj cs H p g/\g.ok/\H hl=some (.lst (cl f))/\Q (.bl (q44 g f op bars wt)) H
theorem qa4 (T:Txt mg cs)(L:LaidC K mg "Gate" "__init__" "Gate.__init__" q1Z ["self","word","numbers"]):CCal P w K mg base 1 "Gate" "__init__" ["self","word","numbers"] (q2b K):=by
 refine L.cc (k:=0) q5I (fun vs H Q E h=>?_) (fun f cdv A outer s H vs Q E hr h=>?_)
 ·obtain ⟨p,C,dx,q,z,rfl,_⟩:=h
  rfl
 ·obtain ⟨p,C,dx,q,z,rfl,hp,cl,nw,nn,k⟩:=h
  refine⟨_,(qe (q1y K (pv 0) (pv 1) rfl)
   (qg (q1y K (pv 0) (pv 2) rfl))),?_⟩
  walk_at "r"
  refine q2A hp cl nw (by decide) ?_
  walk_at "r"
  refine q2A qc cl nn (by show 1<1000;decide) ?_
  rw[q29]
  exact k
theorem qae (T:Txt mg cs)(TC:Tcl K cs)(L:LaidI K mg "Plain" cs.Plain "Plain.__init__" q1s ["self"])(wb:CCal P w K mg base 1 "Gate" "__init__" ["self","word","numbers"] (q2b K)):Makes P w K mg base 2 "Plain" cs.Plain ["self"] (spMk cs "plain"):=by
 refine L.makes (k:=1) q4Q (fun vs H Q E h=>?_) (fun f cdv A outer s H vs Q E hr h=>?_)
 ·obtain ⟨p,dx,g,rfl,hw,_⟩:=h
  cases g<;>first|rfl|exact absurd hw (by simp only[Gt.word];walk_at "k")
 ·obtain ⟨p,dx,g,rfl,hw,hp,k⟩:=h
  cases g<;>first|exact absurd hw (by simp only[Gt.word];walk_at "k")|skip
  refine⟨_,(qg (q07 (q3X wb hr (by decide) rfl (qa (pv 0) (qa qL (qa (qA qd) qd)))))),?_⟩
  walk_at "r"
  intro t ht
  refine⟨p,cs.Plain,dx,t,_,rfl,q1k hp ht,TC.cl_Plain,TC.no_Plain_word,TC.no_Plain_numbers,?_⟩
  walk_at "r"
  have hpt:p≠t:=qy hp ht
  refine k _ (fun b o hb hbp=>?_) ⟨dx,t,qc,by rw[qw hpt.symm];exact qc⟩
  rw[qw hbp,qw (qy hb ht)]
  exact hb
theorem qc2 (T:Txt mg cs)(TC:Tcl K cs)(L:LaidI K mg "Door" cs.Door "Door.__init__" q21 ["self","kind"])(wb:CCal P w K mg base 1 "Gate" "__init__" ["self","word","numbers"] (q2b K)):Makes P w K mg base 2 "Door" cs.Door ["self","kind"] (spMk cs "door"):=by
 refine L.makes (k:=1) q5K (fun vs H Q E h=>?_) (fun f cdv A outer s H vs Q E hr h=>?_)
 ·obtain ⟨p,dx,g,rfl,hw,_⟩:=h
  cases g<;>first|rfl|exact absurd hw (by simp only[Gt.word];walk_at "k")
 ·obtain ⟨p,dx,g,rfl,hw,hp,k⟩:=h
  cases g<;>first|exact absurd hw (by simp only[Gt.word];walk_at "k")|skip
  rename_i n
  refine⟨_,(qg (q07 (q3X wb hr (by decide) rfl (qa (pv 0) (qa qL (qa (qA (qa (pv 1) qd)) qd)))))),?_⟩
  walk_at "r"
  intro t ht
  refine⟨p,cs.Door,dx,t,_,rfl,q1k hp ht,TC.cl_Door,TC.no_Door_word,TC.no_Door_numbers,?_⟩
  walk_at "r"
  have hpt:p≠t:=qy hp ht
  refine k _ (fun b o hb hbp=>?_) ⟨dx,t,qc,by rw[qw hpt.symm];exact qc⟩
  rw[qw hbp,qw (qy hb ht)]
  exact hb
theorem qc1 (T:Txt mg cs)(TC:Tcl K cs)(L:LaidI K mg "Need" cs.Need "Need.__init__" q1Y ["self","kind"])(wb:CCal P w K mg base 1 "Gate" "__init__" ["self","word","numbers"] (q2b K)):Makes P w K mg base 2 "Need" cs.Need ["self","kind"] (spMk cs "need"):=by
 refine L.makes (k:=1) q5H (fun vs H Q E h=>?_) (fun f cdv A outer s H vs Q E hr h=>?_)
 ·obtain ⟨p,dx,g,rfl,hw,_⟩:=h
  cases g<;>first|rfl|exact absurd hw (by simp only[Gt.word];walk_at "k")
 ·obtain ⟨p,dx,g,rfl,hw,hp,k⟩:=h
  cases g<;>first|exact absurd hw (by simp only[Gt.word];walk_at "k")|skip
  rename_i n
  refine⟨_,(qe (q07 (q3X wb hr (by decide) rfl (qa (pv 0) (qa qL (qa (qA (qa (pv 1) qd)) qd)))))
   (qg (q1y K (pv 0) (pv 1) rfl))),?_⟩
  walk_at "r"
  intro t ht
  refine⟨p,cs.Need,dx,t,_,rfl,q1k hp ht,TC.cl_Need,TC.no_Need_word,TC.no_Need_numbers,?_⟩
  walk_at "r"
  refine q2A qc TC.cl_Need TC.no_Need_kind (by show 2<1000;decide) ?_
  rw[q29]
  have hpt:p≠t:=qy hp ht
  refine k _ (fun b o hb hbp=>?_) ⟨dx,t,qc,by rw[qw hpt.symm];exact qc⟩
  rw[qw hbp,qw (qy hb ht)]
  exact hb
theorem mk_bar (T:Txt mg cs)(TC:Tcl K cs)(L:LaidI K mg "Bar" cs.Bar "Bar.__init__" q2p ["self","bar"])(wb:CCal P w K mg base 1 "Gate" "__init__" ["self","word","numbers"] (q2b K)):Makes P w K mg base 2 "Bar" cs.Bar ["self","bar"] (spMk cs "bar"):=by
 refine L.makes (k:=1) q6p (fun vs H Q E h=>?_) (fun f cdv A outer s H vs Q E hr h=>?_)
 ·obtain ⟨p,dx,g,rfl,hw,_⟩:=h
  cases g<;>first|rfl|exact absurd hw (by simp only[Gt.word];walk_at "k")
 ·obtain ⟨p,dx,g,rfl,hw,hp,k⟩:=h
  cases g<;>first|exact absurd hw (by simp only[Gt.word];walk_at "k")|skip
  rename_i n
  refine⟨_,(qe (q07 (q3X wb hr (by decide) rfl (qa (pv 0) (qa qL (qa (qA (qa (pv 1) qd)) qd)))))
   (qg (q1y K (pv 0) (pv 1) rfl))),?_⟩
  walk_at "r"
  intro t ht
  refine⟨p,cs.Bar,dx,t,_,rfl,q1k hp ht,TC.cl_Bar,TC.no_Bar_word,TC.no_Bar_numbers,?_⟩
  walk_at "r"
  refine q2A qc TC.cl_Bar TC.no_Bar_bar (by show 2<1000;decide) ?_
  rw[q29]
  have hpt:p≠t:=qy hp ht
  refine k _ (fun b o hb hbp=>?_) ⟨dx,t,qc,by rw[qw hpt.symm];exact qc⟩
  rw[qw hbp,qw (qy hb ht)]
  exact hb
theorem qaf (T:Txt mg cs)(TC:Tcl K cs)(L:LaidI K mg "Float" cs.Float "Float.__init__" q1u ["self","height"])(wb:CCal P w K mg base 1 "Gate" "__init__" ["self","word","numbers"] (q2b K)):Makes P w K mg base 2 "Float" cs.Float ["self","height"] (spMk cs "float"):=by
 refine L.makes (k:=1) q4S (fun vs H Q E h=>?_) (fun f cdv A outer s H vs Q E hr h=>?_)
 ·obtain ⟨p,dx,g,rfl,hw,_⟩:=h
  cases g<;>first|rfl|exact absurd hw (by simp only[Gt.word];walk_at "k")
 ·obtain ⟨p,dx,g,rfl,hw,hp,k⟩:=h
  cases g<;>first|exact absurd hw (by simp only[Gt.word];walk_at "k")|skip
  rename_i n
  refine⟨_,(qe (q07 (q3X wb hr (by decide) rfl (qa (pv 0) (qa qL (qa (qA (qa (pv 1) qd)) qd)))))
   (qg (q1y K (pv 0) (pv 1) rfl))),?_⟩
  walk_at "r"
  intro t ht
  refine⟨p,cs.Float,dx,t,_,rfl,q1k hp ht,TC.cl_Float,TC.no_Float_word,TC.no_Float_numbers,?_⟩
  walk_at "r"
  refine q2A qc TC.cl_Float TC.no_Float_height (by show 2<1000;decide) ?_
  rw[q29]
  have hpt:p≠t:=qy hp ht
  refine k _ (fun b o hb hbp=>?_) ⟨dx,t,qc,by rw[qw hpt.symm];exact qc⟩
  rw[qw hbp,qw (qy hb ht)]
  exact hb
theorem qbX (T:Txt mg cs)(TC:Tcl K cs)(L:LaidI K mg "Wade" cs.Wade "Wade.__init__" q1N ["self","height","kind"])(wb:CCal P w K mg base 1 "Gate" "__init__" ["self","word","numbers"] (q2b K)):Makes P w K mg base 2 "Wade" cs.Wade ["self","height","kind"] (spMk cs "wade"):=by
 refine L.makes (k:=1) q5x (fun vs H Q E h=>?_) (fun f cdv A outer s H vs Q E hr h=>?_)
 ·obtain ⟨p,dx,g,rfl,hw,_⟩:=h
  cases g<;>first|rfl|exact absurd hw (by simp only[Gt.word];walk_at "k")
 ·obtain ⟨p,dx,g,rfl,hw,hp,k⟩:=h
  cases g<;>first|exact absurd hw (by simp only[Gt.word];walk_at "k")|skip
  rename_i n1 n2
  refine⟨_,(qe (q07 (q3X wb hr (by decide) rfl (qa (pv 0) (qa qL (qa (qA (qa (pv 1) (qa (pv 2) qd))) qd)))))
   (qe (q1y K (pv 0) (pv 1) rfl)
   (qg (q1y K (pv 0) (pv 2) rfl)))),?_⟩
  walk_at "r"
  intro t ht
  refine⟨p,cs.Wade,dx,t,_,rfl,q1k hp ht,TC.cl_Wade,TC.no_Wade_word,TC.no_Wade_numbers,?_⟩
  walk_at "r"
  refine q2A qc TC.cl_Wade TC.no_Wade_height (by show 2<1000;decide) ?_
  walk_at "r"
  refine q2A qc TC.cl_Wade TC.no_Wade_kind (by show 3<1000;decide) ?_
  rw[q29,q29]
  have hpt:p≠t:=qy hp ht
  refine k _ (fun b o hb hbp=>?_) ⟨dx,t,qc,by rw[qw hpt.symm];exact qc⟩
  rw[qw hbp,qw (qy hb ht)]
  exact hb
theorem q2s {H:Hp}{Q:VK}{g:Gt}{x dx:Addr}(hx:H x=none)(hdx:H dx=none)(ne:dx≠x)(k:∀(x:Addr) (H':Hp),Same H H'->H x=none->GObj cs H' x g->Q (.ref x) H'):spMk cs g.word (.ref x::(g.ns.map V.int++[])) (upd (upd H dx (.own x)) x (.ins (q9a cs g) dx [])) (fun v H2=>v= .non/\Q (.ref x) H2) E0:=by
 refine⟨x,dx,g,by rw[zH],rfl,qc,fun H' hk ho=>⟨rfl,k x H' (fun b o hb=>?_) hx ho⟩⟩
 refine hk b o ?_ (qy hb hx)
 rw[qw (qy hb hx),qw (qy hb hdx)]
 exact hb
theorem q7B (T:Txt mg cs)(L:Laid K mg "gate_of" q2W ["gate"])(wM:Makes P w K mg base 2 "Plain" cs.Plain ["self"] (spMk cs "plain"))(wR:Makes P w K mg base 2 "Door" cs.Door ["self","kind"] (spMk cs "door"))(wQ:Makes P w K mg base 2 "Need" cs.Need ["self","kind"] (spMk cs "need"))
  (vk:Makes P w K mg base 2 "Bar" cs.Bar ["self","bar"] (spMk cs "bar"))(wS:Makes P w K mg base 2 "Wade" cs.Wade ["self","height","kind"] (spMk cs "wade"))(wK:Makes P w K mg base 2 "Float" cs.Float ["self","height"] (spMk cs "float")):Cal P w K mg base 4 "gate_of" ["gate"] (qbi cs):=by
 refine L.cal (k:=3) q4w (fun vs H Q E h=>?_) (fun f cdv A outer s H vs Q E hr h=>?_)
 ·obtain ⟨p,g,rfl,_⟩:=h
  rfl
 ·obtain ⟨p,g,rfl,hp,k⟩:=h
  refine⟨_,(qe (qv (i:=1) q4w.nd rfl (Or.inl rfl) (qj (qf K) (pv 0) qb (fun _ _=>rfl)))
   (qe (qN (qq q01 (pv 1) qL (qp _)) (qg (qm (qbF wM hr (by decide) rfl))) qu)
   (qe (qN (qq q01 (pv 1) qL (qp _)) (qg (qm (q2E wR hr (by decide) rfl (qa (qj (qf K) (pv 0) qb (fun _ _=>rfl)) qd)))) qu)
   (qe (qN (qq q01 (pv 1) qL (qp _)) (qg (qm (q2E wQ hr (by decide) rfl (qa (qj (qf K) (pv 0) qb (fun _ _=>rfl)) qd)))) qu)
   (qe (qN (qq q01 (pv 1) qL (qp _)) (qg (qm (q2E vk hr (by decide) rfl (qa (qj (qf K) (pv 0) qb (fun _ _=>rfl)) qd)))) qu)
   (qe (qN (qq q01 (pv 1) qL (qp _)) (qg (qm (q2E wS hr (by decide) rfl (qa (qj (qf K) (pv 0) qb (fun _ _=>rfl)) (qa (qj (qf K) (pv 0) qb (fun _ _=>rfl)) qd))))) qu)
   (qe (qN (qq q01 (pv 1) qL (qp _)) (qg (qm (q2E wK hr (by decide) rfl (qa (qj (qf K) (pv 0) qb (fun _ _=>rfl)) qd)))) qu)
   (qg q9K)))))))),?_⟩
  have hp':=hp
  rw[Gt.vs_eq] at hp'
  walk_at "r"
  refine ifd (fun h1=>?_) (fun h1=>?_)
  ·cases g<;>first|exact absurd h1 (by simp only[Gt.word];walk_at "k")|skip
   walk_at "r"
   exact fun x dx hx hdx ne=>q2s hx hdx ne k
  walk_at "r"
  refine ifd (fun h2=>?_) (fun h2=>?_)
  ·cases g<;>first|exact absurd h2 (by simp only[Gt.word];walk_at "k")|skip
   walk_at "r"
   exact fun x dx hx hdx ne=>q2s hx hdx ne k
  walk_at "r"
  refine ifd (fun h3=>?_) (fun h3=>?_)
  ·cases g<;>first|exact absurd h3 (by simp only[Gt.word];walk_at "k")|skip
   walk_at "r"
   exact fun x dx hx hdx ne=>q2s hx hdx ne k
  walk_at "r"
  refine ifd (fun h4=>?_) (fun h4=>?_)
  ·cases g<;>first|exact absurd h4 (by simp only[Gt.word];walk_at "k")|skip
   walk_at "r"
   exact fun x dx hx hdx ne=>q2s hx hdx ne k
  walk_at "r"
  refine ifd (fun h5=>?_) (fun h5=>?_)
  ·cases g<;>first|exact absurd h5 (by simp only[Gt.word];walk_at "k")|skip
   walk_at "r"
   exact fun x dx hx hdx ne=>q2s hx hdx ne k
  walk_at "r"
  refine ifd (fun h6=>?_) (fun h6=>?_)
  ·cases g<;>first|exact absurd h6 (by simp only[Gt.word];walk_at "k")|skip
   walk_at "r"
   exact fun x dx hx hdx ne=>q2s hx hdx ne k
  cases g
  ·exact absurd rfl h1
  ·exact absurd rfl h2
  ·exact absurd rfl h3
  ·exact absurd rfl h4
  ·exact absurd rfl h5
  ·exact absurd rfl h6
theorem q4G (T:Txt mg cs)(TC:Tcl K cs)(L:LaidM K cs.Plain "lets" "Plain.lets" q1r ["self","held","opened","bars","water"]):VMeth P w K mg base 2 cs.Plain "lets" ["self","held","opened","bars","water"] (q3k cs "plain"):=by
 refine L.vm (k:=1) TC.cl_Plain q4P (fun vs H Q E h=>?_) (fun f cdv A outer s H vs Q E hr h=>?_)
 ·obtain ⟨p,hl,g,fn,op,bars,wt,rfl,_⟩:=h
  rfl
 ·obtain ⟨p,hl,g,fn,op,bars,wt,rfl,hw,ho,ok,hh,k⟩:=h
  obtain⟨dx,q,hp,hq⟩:=ho.ex
  cases g<;>first|exact absurd hw (by simp only[Gt.word];walk_at "k")|skip
  refine⟨_,(qg (qm q1g)),?_⟩
  walk_at "r"
  exact k
theorem q5d (T:Txt mg cs)(TC:Tcl K cs)(L:LaidM K cs.Door "lets" "Door.lets" q20 ["self","held","opened","bars","water"]):VMeth P w K mg base 2 cs.Door "lets" ["self","held","opened","bars","water"] (q3k cs "door"):=by
 refine L.vm (k:=1) TC.cl_Door q5J (fun vs H Q E h=>?_) (fun f cdv A outer s H vs Q E hr h=>?_)
 ·obtain ⟨p,hl,g,fn,op,bars,wt,rfl,_⟩:=h
  rfl
 ·obtain ⟨p,hl,g,fn,op,bars,wt,rfl,hw,ho,ok,hh,k⟩:=h
  obtain⟨dx,q,hp,hq⟩:=ho.ex
  cases g<;>first|exact absurd hw (by simp only[Gt.word];walk_at "k")|skip
  rename_i n
  refine⟨_,(qg (qm (pv 2))),?_⟩
  walk_at "r"
  exact k
theorem q5c (T:Txt mg cs)(TC:Tcl K cs)(L:LaidM K cs.Need "lets" "Need.lets" q1X ["self","held","opened","bars","water"]):VMeth P w K mg base 2 cs.Need "lets" ["self","held","opened","bars","water"] (q3k cs "need"):=by
 refine L.vm (k:=1) TC.cl_Need q5G (fun vs H Q E h=>?_) (fun f cdv A outer s H vs Q E hr h=>?_)
 ·obtain ⟨p,hl,g,fn,op,bars,wt,rfl,_⟩:=h
  rfl
 ·obtain ⟨p,hl,g,fn,op,bars,wt,rfl,hw,ho,ok,hh,k⟩:=h
  obtain⟨dx,q,hp,hq⟩:=ho.ex
  cases g<;>first|exact absurd hw (by simp only[Gt.word];walk_at "k")|skip
  rename_i n
  refine⟨_,(qg (qm (qP q40 (qj (qM K) (pv 1) (q0B K (pv 0) rfl) (fun _ _=>rfl)) qb (qp _)))),?_⟩
  have ok':0<=n/\n<12:=ok
  walk_at "r"
  refine q1B hp TC.cl_Need TC.no_Need_kind (qaw q n) ?_
  refine q2d (SqL.of hh) (q9c ok'.1 ok'.2) ?_
  walk_at "r"
  exact k
theorem q6d (T:Txt mg cs)(TC:Tcl K cs)(L:LaidM K cs.Bar "lets" "Bar.lets" q2o ["self","held","opened","bars","water"])(wg:Cal P w K mg base 1 "has_bit" ["bits","place"] q6j):VMeth P w K mg base 2 cs.Bar "lets" ["self","held","opened","bars","water"] (q3k cs "bar"):=by
 refine L.vm (k:=1) TC.cl_Bar q6o (fun vs H Q E h=>?_) (fun f cdv A outer s H vs Q E hr h=>?_)
 ·obtain ⟨p,hl,g,fn,op,bars,wt,rfl,_⟩:=h
  rfl
 ·obtain ⟨p,hl,g,fn,op,bars,wt,rfl,hw,ho,ok,hh,k⟩:=h
  obtain⟨dx,q,hp,hq⟩:=ho.ex
  cases g<;>first|exact absurd hw (by simp only[Gt.word];walk_at "k")|skip
  rename_i n
  refine⟨_,(qg (qm (qz wg hr (by decide) rfl (qa (pv 3) (qa (q0B K (pv 0) rfl) qd))))),?_⟩
  have ok':0<=n/\n<8:=ok
  walk_at "r"
  refine q1B hp TC.cl_Bar TC.no_Bar_bar (qce q n) ?_
  walk_at "r"
  exact⟨bars,n,rfl,ok'.1,k⟩
theorem q5b (T:Txt mg cs)(TC:Tcl K cs)(L:LaidM K cs.Wade "lets" "Wade.lets" q1M ["self","held","opened","bars","water"]):VMeth P w K mg base 2 cs.Wade "lets" ["self","held","opened","bars","water"] (q3k cs "wade"):=by
 refine L.vm (k:=1) TC.cl_Wade q5w (fun vs H Q E h=>?_) (fun f cdv A outer s H vs Q E hr h=>?_)
 ·obtain ⟨p,hl,g,fn,op,bars,wt,rfl,_⟩:=h
  rfl
 ·obtain ⟨p,hl,g,fn,op,bars,wt,rfl,hw,ho,ok,hh,k⟩:=h
  obtain⟨dx,q,hp,hq⟩:=ho.ex
  cases g<;>first|exact absurd hw (by simp only[Gt.word];walk_at "k")|skip
  rename_i n1 n2
  refine⟨_,(qg (qm (q9Q (qP q9V (pv 4) (q0B K (pv 0) rfl) (qp _)) (q27 (qP q40 (qj (qM K) (pv 1) (q0B K (pv 0) rfl) (fun _ _=>rfl)) qb (qp _)))))),?_⟩
  have ok':(0<=n1/\n1<10)/\0<=n2/\n2<12:=ok
  walk_at "r"
  refine q1B hp TC.cl_Wade TC.no_Wade_height (qav q n1 n2) ?_
  walk_at "r"
  have k':Q (.bl (decide (wt<=n1)||decide (0<fn n2))) H:=k
  refine ifd (fun h1=>?_) (fun h1=>?_)
  ·rw [ze h1,Bool.true_or] at k'
   exact k'
  ·rw [zf h1,zci] at k'
   walk_at "r"
   refine q1B hp TC.cl_Wade TC.no_Wade_kind (qau q n1 n2) ?_
   refine q2d (SqL.of hh) (q9c ok'.2.1 ok'.2.2) ?_
   walk_at "r"
   exact k'
theorem q4H (T:Txt mg cs)(TC:Tcl K cs)(L:LaidM K cs.Float "lets" "Float.lets" q1t ["self","held","opened","bars","water"]):VMeth P w K mg base 2 cs.Float "lets" ["self","held","opened","bars","water"] (q3k cs "float"):=by
 refine L.vm (k:=1) TC.cl_Float q4R (fun vs H Q E h=>?_) (fun f cdv A outer s H vs Q E hr h=>?_)
 ·obtain ⟨p,hl,g,fn,op,bars,wt,rfl,_⟩:=h
  rfl
 ·obtain ⟨p,hl,g,fn,op,bars,wt,rfl,hw,ho,ok,hh,k⟩:=h
  obtain⟨dx,q,hp,hq⟩:=ho.ex
  cases g<;>first|exact absurd hw (by simp only[Gt.word];walk_at "k")|skip
  rename_i n
  refine⟨_,(qg (qm (qP q7z (pv 4) (q0B K (pv 0) rfl) (qp _)))),?_⟩
  walk_at "r"
  refine q1B hp TC.cl_Float TC.no_Float_height (q8Q q n) ?_
  walk_at "r"
  exact k
def dcls (cs:Cs):Wd->Addr
 | .go=>cs.Go
 | .pull=>cs.Pull
 | .take=>cs.Take
 | .turn=>cs.Turn
 | .unlock=>cs.Unlock
def dfl (d:Wd)(n:Int):List (Str×V):=putF "part" (.int d.part) (putF "number" (.int n) (putF "word" (.str d.str) []))
theorem qck (d:Wd)(n:Int):(dfl d n).lookup ("word":Str)=some (.str d.str):=by
 unfold dfl;simp only[qT];repeat (first|rw[if_pos rfl]|rw[if_pos trivial]|rw[if_neg (by walk_at "k")])
theorem q0m (d:Wd)(n:Int):(dfl d n).lookup ("number":Str)=some (.int n):=by
 unfold dfl;simp only[qT];repeat (first|rw[if_pos rfl]|rw[if_pos trivial]|rw[if_neg (by walk_at "k")])
theorem q8Y (d:Wd)(n:Int):(dfl d n).lookup ("part":Str)=some (.int d.part):=by
 unfold dfl;simp only[qT];repeat (first|rw[if_pos rfl]|rw[if_pos trivial]|rw[if_neg (by walk_at "k")])
theorem q4d (d:Wd)(n:Int){m:Str}(h1:m≠"part")(h2:m≠"number")(h3:m≠"word"):(dfl d n).lookup m=none:=by
 unfold dfl;simp only[qT];rw[if_neg h1,if_neg h2,if_neg h3];rfl
theorem df_can (d:Wd)(n:Int):(dfl d n).lookup ("can":Str)=none:=q4d d n (by walk_at "k") (by walk_at "k") (by walk_at "k")
theorem qcm (d:Wd)(n:Int):(dfl d n).lookup ("fits":Str)=none:=q4d d n (by walk_at "k") (by walk_at "k") (by walk_at "k")
theorem qcn (d:Wd)(n:Int):(dfl d n).lookup ("done":Str)=none:=q4d d n (by walk_at "k") (by walk_at "k") (by walk_at "k")
theorem qcl (d:Wd)(n:Int):(dfl d n).lookup ("told":Str)=none:=q4d d n (by walk_at "k") (by walk_at "k") (by walk_at "k")
theorem q3t (d:Wd)(n:Int):(dfl d n).lookup ("own_part":Str)=none:=q4d d n (by walk_at "k") (by walk_at "k") (by walk_at "k")
structure DObj (cs:Cs)(H:Hp)(p:Addr)(d:Wd)(n:Int):Prop where
 ex:∃dx,H p=some (.ins (dcls cs d) dx (dfl d n))
theorem DObj.mono {cs:Cs}{H H':Hp}{p:Addr}{d:Wd}{n:Int}(s:Same H H')(h:DObj cs H p d n):DObj cs H' p d n:=let ⟨dx,h1⟩:=h.ex;⟨dx,s _ _ h1⟩
structure DCl (K:W.Frag)(cs:Cs)(d:Wd):Prop where
 cl:Cls K (dcls cs d)
 nw:qG K (dcls cs d) "word"
 nn:qG K (dcls cs d) "number"
 np:qG K (dcls cs d) "part"
theorem q2I {K:W.Frag}{cs:Cs}(TC:Tcl K cs)(d:Wd):DCl K cs d:=by
 cases d
 ·exact ⟨TC.cl_Go,TC.no_Go_word,TC.no_Go_number,TC.no_Go_part⟩
 ·exact ⟨TC.cl_Pull,TC.no_Pull_word,TC.no_Pull_number,TC.no_Pull_part⟩
 ·exact ⟨TC.cl_Take,TC.no_Take_word,TC.no_Take_number,TC.no_Take_part⟩
 ·exact ⟨TC.cl_Turn,TC.no_Turn_word,TC.no_Turn_number,TC.no_Turn_part⟩
 ·exact ⟨TC.cl_Unlock,TC.no_Unlock_word,TC.no_Unlock_number,TC.no_Unlock_part⟩
def RowAt (H:Hp)(C:Cl)(i:Nat)(r:Addr):Wd->Prop
 | .go=>∃x,C.ways[i]? =some x/\q2m H r x
 | .pull=>∃x,C.levers[i]? =some x/\q04 H r x
 | .take=>∃x,C.things[i]? =some x/\q04 H r x
 | .turn=>∃x,C.wheels[i]? =some x/\q04 H r x
 | .unlock=>∃x,C.ways[i]? =some x/\q2m H r x
def q2T:Sp:=fun vs H Q _=>∃n a b:Int,vs=[.int n,.int a,.int b]/\Q (.bl (decide (a<=n)&&decide (n<=b))) H
def q4L:Sp:=fun vs H Q _=>∃(r:Addr) (x:Way) (rm:Int),vs=[.ref r,.int rm]/\q2m H r x/\Q (.bl (q16 x rm)) H
def q6h:Sp:=fun vs H Q _=>∃(q:Addr) (s:Sd) (j:Nat) (n:Int),vs=[.ref q,.int j,.int n]/\j<5/\H q=some (.tup s.vs)/\∀(r:Addr) (H':Hp),Same H H'->H' r=some (.tup (s.vs.set j (.int n)))->Q (.ref r) H'
def q2M (K:W.Frag):Sp:=fun vs H Q _=>∃(p C dx:Addr) (z:Str) (n t:Int),vs=[.ref p,.str z,.int n,.int t]/\H p=some (.ins C dx [])/\Cls K C/\qG K C "word"/\qG K C "number"/\qG K C "part"/\Q .non (upd H p (.ins C dx (putF "part" (.int t) (putF "number" (.int n) (putF "word" (.str z) [])))))
def q2a (cs:Cs)(d:Wd):Sp:=fun vs H Q _=>∃(p dx:Addr) (n:Int),vs=[.ref p,.int n]/\H p=some (.ins (dcls cs d) dx [])/\∀H',(∀b o,H b=some o->b≠p->H' b=some o)->DObj cs H' p d n->Q .non H'
def q4m (cs:Cs)(d:Wd):Sp:=fun vs H Q _=>∃(p c:Addr) (C:Cl) (i:Nat),vs=[.ref p,.ref c]/\DObj cs H p d i/\ClAt H c C/\i<C.num d/\∀r,RowAt H C i r d->Q (.ref r) H
def q3M (cs:Cs)(d:Wd):Sp:=fun vs H Q _=>∃(p c q:Addr) (C:Cl) (s:Sd) (i:Nat),vs=[.ref p,.ref c,.ref q]/\DObj cs H p d i/\ClAt H c C/\ClOk C/\H q=some (.tup s.vs)/\s.ok C/\i<C.num d/\∀H',Same H H'->Q (.bl (canB C s i d)) H'
def qbk (cs:Cs)(d:Wd):Sp:=fun vs H Q _=>∃(p c q:Addr) (C:Cl) (s:Sd) (n:Int),vs=[.ref p,.ref c,.ref q]/\DObj cs H p d n/\ClAt H c C/\ClOk C/\H q=some (.tup s.vs)/\s.ok C/\∀H',Same H H'->Q (.bl (canD C s d n)) H'
def q3N (cs:Cs)(d:Wd):Sp:=fun vs H Q _=>∃(p c q:Addr) (C:Cl) (s:Sd) (n:Int),vs=[.ref p,.ref c,.ref q]/\DObj cs H p d n/\ClAt H c C/\ClOk C/\H q=some (.tup s.vs)/\s.ok C/\canD C s d n=true/\∀(r:Addr) (H':Hp),Same H H'->H' r=some (.tup (q0N C s d n).vs)->Q (.ref r) H'
def q6g (cs:Cs)(d:Wd):Sp:=fun vs H Q _=>∃(p:Addr) (n:Int),vs=[.ref p]/\DObj cs H p d n/\∀(r:Addr) (H':Hp),Same H H'->H' r=some (.tup [.str d.str,.int n])->Q (.ref r) H'
theorem q8v (T:Txt mg cs)(L:Laid K mg "within" q3A ["number","least","most"]):Cal P w K mg base 1 "within" ["number","least","most"] q2T:=by
 refine L.cal (k:=0) q8g (fun vs H Q E h=>?_) (fun f cdv A outer s H vs Q E hr h=>?_)
 ·obtain ⟨n,a,b,rfl,_⟩:=h
  rfl
 ·obtain ⟨n,a,b,rfl,k⟩:=h
  refine⟨_,(qe (qN (PW.pt (q33 (q14 (qx q4g rfl T.ve q25 (qa (pv 0) (qa (q6t (v:= .ty "bool") rfl T.waN q9o rfl) qd)))) (q2f (q2C (q14 (qx q4g rfl T.ve q25 (qa (pv 0) (qa (q6t (v:= .ty "int") rfl T.war q9n rfl) qd)))))))) (qg (qm q1g)) qu)
   (qg (qm (q9T q9V q9V (pv 1) (pv 0) (pv 2))))),?_⟩
  walk_at "r"
  refine ifd (fun h=>?_) (fun h=>?_)
  ·walk_at "r"
   rw[ze h,zay] at k
   exact k
  ·rw [zf h,zaz] at k
   exact k
theorem qa7 (T:Txt mg cs)(L:Laid K mg "can_enter" q1H ["way","room"]):Cal P w K mg base 1 "can_enter" ["way","room"] q4L:=by
 obtain⟨t1,wY⟩:=T.wY
 obtain⟨t2,vj⟩:=T.vj
 obtain⟨t3,vq⟩:=T.vq
 refine L.cal (k:=0) q5v (fun vs H Q E h=>?_) (fun f cdv A outer s H vs Q E hr h=>?_)
 ·obtain ⟨r,x,rm,rfl,_⟩:=h
  rfl
 ·obtain ⟨r,x,rm,rfl,hW,k⟩:=h
  obtain⟨g,hr1,hg⟩:=hW
  unfold q16 at k
  refine⟨_,(qg (qm (q9Q (qP q01 (pv 1) (qj (qf K) (pv 0) (qt (v:= .int 0) rfl wY ⟨_,rfl⟩) (fun _ _=>rfl)) (qp _)) (q27 (q1C (qP q01 (pv 1) (qj (qf K) (pv 0) (qt (v:= .int 1) rfl vj ⟨_,rfl⟩) (fun _ _=>rfl)) (qp _)) (q27 (qj (qf K) (pv 0) (qt (v:= .int 3) rfl vq ⟨_,rfl⟩) (fun _ _=>rfl)))))))),?_⟩
  walk_at "r"
  refine ifd (fun h=>?_) (fun h=>?_)
  ·rw [ze h,Bool.true_or] at k
   exact k
  ·rw [zf h,zci] at k
   walk_at "r"
   refine ifd (fun h=>?_) (fun h=>?_)
   ·rw [ze h,zay] at k
    walk_at "r"
    exact k
   ·rw [zf h,zaz] at k
    exact k
theorem q7C (T:Txt mg cs)(L:Laid K mg "changed" q2X ["parts","place","part"]):Cal P w K mg base 1 "changed" ["parts","place","part"] q6h:=by
 refine L.cal (k:=0) q7u (fun vs H Q E h=>?_) (fun f cdv A outer s H vs Q E hr h=>?_)
 ·obtain ⟨q,s,j,n,rfl,_⟩:=h
  rfl
 ·obtain ⟨q,st,j,n,rfl,hj,hq,k⟩:=h
  have big:=qE
  refine⟨_,(qg (qm (qi (q1h K) (qi (q1h K) (qX (q0Q K) (pv 0) q0A (q00 (pv 1))) (qA (qa (pv 2) qd))) (qX (q0Q K) (pv 0) (q00 (qi q05 (pv 1) qb)) q0A)))),?_⟩
  obtain rfl|rfl|rfl|rfl|rfl:j=0\/j=1\/j=2\/j=3\/j=4:=by omega
  ·walk_at "r"
   refine⟨q,_,rfl,SqT.of hq,fun e=>absurd (show(0:Nat)=5 from zM List.length e) (by decide),fun t1 ht1=>?_⟩
   have s1:=Same.upd (o:= .tup (cutV st.vs none (some ((0:Nat):Int)))) ht1
   have h1:(upd H t1 (.tup (cutV st.vs none (some ((0:Nat):Int))))) t1=some (.tup []):=qc
   generalize upd H t1 (.tup (cutV st.vs none (some ((0:Nat):Int))))=H1 at s1 h1 ⊢
   walk_at "r"
   intro t2 ht2
   have s2:=Same.upd (o:= .tup [.int n]) ht2
   have h2:=qc (H:=H1) (a:=t2) (o:= .tup [.int n])
   have h12:=s2 _ _ h1
   generalize upd H1 t2 (.tup [.int n])=H2 at s2 h2 h12 ⊢
   refine qbw (SqT.of h12) (SqT.of h2) (by show 1<=sizeLine;omega) ?_
   have hq2:=s2 _ _ (s1 _ _ hq)
   walk_at "r"
   refine⟨q,_,rfl,SqT.of hq2,fun e=>absurd (show(4:Nat)=5 from zM List.length e) (by decide),fun t3 ht3=>?_⟩
   have s3:=Same.upd (o:= .tup (cutV st.vs (some (((0:Nat):Int)+1)) none)) ht3
   have h3:(upd H2 t3 (.tup (cutV st.vs (some (((0:Nat):Int)+1)) none))) t3=some (.tup [.int st.tk,.int st.op,.int st.b,.int st.wt]):=qc
   generalize upd H2 t3 (.tup (cutV st.vs (some (((0:Nat):Int)+1)) none))=H3 at s3 h3 ⊢
   refine q2e (SqT.of (s3 _ _ h2)) (SqT.of h3) rfl fun t4 ht4=>?_
   exact k t4 _ (((s1.trans s2).trans s3).trans (Same.upd ht4)) qc
  ·walk_at "r"
   refine⟨q,_,rfl,SqT.of hq,fun e=>absurd (show(1:Nat)=5 from zM List.length e) (by decide),fun t1 ht1=>?_⟩
   have s1:=Same.upd (o:= .tup (cutV st.vs none (some ((1:Nat):Int)))) ht1
   have h1:(upd H t1 (.tup (cutV st.vs none (some ((1:Nat):Int))))) t1=some (.tup [.int st.rm]):=qc
   generalize upd H t1 (.tup (cutV st.vs none (some ((1:Nat):Int))))=H1 at s1 h1 ⊢
   walk_at "r"
   intro t2 ht2
   have s2:=Same.upd (o:= .tup [.int n]) ht2
   have h2:=qc (H:=H1) (a:=t2) (o:= .tup [.int n])
   have h12:=s2 _ _ h1
   generalize upd H1 t2 (.tup [.int n])=H2 at s2 h2 h12 ⊢
   refine q2e (SqT.of h12) (SqT.of h2) rfl fun t5 ht5=>?_
   have s5:=Same.upd (o:= .tup [.int st.rm,.int n]) ht5
   have h5:=qc (H:=H2) (a:=t5) (o:= .tup [.int st.rm,.int n])
   have hq2:=s5 _ _ (s2 _ _ (s1 _ _ hq))
   show(tSl _ _ _ _) _ (upd H2 t5 (.tup [.int st.rm,.int n])) _
   generalize upd H2 t5 (.tup [.int st.rm,.int n])=H5 at s5 h5 hq2 ⊢
   walk_at "r"
   refine⟨q,_,rfl,SqT.of hq2,fun e=>absurd (show(3:Nat)=5 from zM List.length e) (by decide),fun t3 ht3=>?_⟩
   have s3:=Same.upd (o:= .tup (cutV st.vs (some (((1:Nat):Int)+1)) none)) ht3
   have h3:(upd H5 t3 (.tup (cutV st.vs (some (((1:Nat):Int)+1)) none))) t3=some (.tup [.int st.op,.int st.b,.int st.wt]):=qc
   generalize upd H5 t3 (.tup (cutV st.vs (some (((1:Nat):Int)+1)) none))=H3 at s3 h3 ⊢
   refine q2e (SqT.of (s3 _ _ h5)) (SqT.of h3) rfl fun t4 ht4=>?_
   exact k t4 _ ((((s1.trans s2).trans s5).trans s3).trans (Same.upd ht4)) qc
  ·walk_at "r"
   refine⟨q,_,rfl,SqT.of hq,fun e=>absurd (show(2:Nat)=5 from zM List.length e) (by decide),fun t1 ht1=>?_⟩
   have s1:=Same.upd (o:= .tup (cutV st.vs none (some ((2:Nat):Int)))) ht1
   have h1:(upd H t1 (.tup (cutV st.vs none (some ((2:Nat):Int))))) t1=some (.tup [.int st.rm,.int st.tk]):=qc
   generalize upd H t1 (.tup (cutV st.vs none (some ((2:Nat):Int))))=H1 at s1 h1 ⊢
   walk_at "r"
   intro t2 ht2
   have s2:=Same.upd (o:= .tup [.int n]) ht2
   have h2:=qc (H:=H1) (a:=t2) (o:= .tup [.int n])
   have h12:=s2 _ _ h1
   generalize upd H1 t2 (.tup [.int n])=H2 at s2 h2 h12 ⊢
   refine q2e (SqT.of h12) (SqT.of h2) rfl fun t5 ht5=>?_
   have s5:=Same.upd (o:= .tup [.int st.rm,.int st.tk,.int n]) ht5
   have h5:=qc (H:=H2) (a:=t5) (o:= .tup [.int st.rm,.int st.tk,.int n])
   have hq2:=s5 _ _ (s2 _ _ (s1 _ _ hq))
   show(tSl _ _ _ _) _ (upd H2 t5 (.tup [.int st.rm,.int st.tk,.int n])) _
   generalize upd H2 t5 (.tup [.int st.rm,.int st.tk,.int n])=H5 at s5 h5 hq2 ⊢
   walk_at "r"
   refine⟨q,_,rfl,SqT.of hq2,fun e=>absurd (show(2:Nat)=5 from zM List.length e) (by decide),fun t3 ht3=>?_⟩
   have s3:=Same.upd (o:= .tup (cutV st.vs (some (((2:Nat):Int)+1)) none)) ht3
   have h3:(upd H5 t3 (.tup (cutV st.vs (some (((2:Nat):Int)+1)) none))) t3=some (.tup [.int st.b,.int st.wt]):=qc
   generalize upd H5 t3 (.tup (cutV st.vs (some (((2:Nat):Int)+1)) none))=H3 at s3 h3 ⊢
   refine q2e (SqT.of (s3 _ _ h5)) (SqT.of h3) rfl fun t4 ht4=>?_
   exact k t4 _ ((((s1.trans s2).trans s5).trans s3).trans (Same.upd ht4)) qc
  ·walk_at "r"
   refine⟨q,_,rfl,SqT.of hq,fun e=>absurd (show(3:Nat)=5 from zM List.length e) (by decide),fun t1 ht1=>?_⟩
   have s1:=Same.upd (o:= .tup (cutV st.vs none (some ((3:Nat):Int)))) ht1
   have h1:(upd H t1 (.tup (cutV st.vs none (some ((3:Nat):Int))))) t1=some (.tup [.int st.rm,.int st.tk,.int st.op]):=qc
   generalize upd H t1 (.tup (cutV st.vs none (some ((3:Nat):Int))))=H1 at s1 h1 ⊢
   walk_at "r"
   intro t2 ht2
   have s2:=Same.upd (o:= .tup [.int n]) ht2
   have h2:=qc (H:=H1) (a:=t2) (o:= .tup [.int n])
   have h12:=s2 _ _ h1
   generalize upd H1 t2 (.tup [.int n])=H2 at s2 h2 h12 ⊢
   refine q2e (SqT.of h12) (SqT.of h2) rfl fun t5 ht5=>?_
   have s5:=Same.upd (o:= .tup [.int st.rm,.int st.tk,.int st.op,.int n]) ht5
   have h5:=qc (H:=H2) (a:=t5) (o:= .tup [.int st.rm,.int st.tk,.int st.op,.int n])
   have hq2:=s5 _ _ (s2 _ _ (s1 _ _ hq))
   show(tSl _ _ _ _) _ (upd H2 t5 (.tup [.int st.rm,.int st.tk,.int st.op,.int n])) _
   generalize upd H2 t5 (.tup [.int st.rm,.int st.tk,.int st.op,.int n])=H5 at s5 h5 hq2 ⊢
   walk_at "r"
   refine⟨q,_,rfl,SqT.of hq2,fun e=>absurd (show(1:Nat)=5 from zM List.length e) (by decide),fun t3 ht3=>?_⟩
   have s3:=Same.upd (o:= .tup (cutV st.vs (some (((3:Nat):Int)+1)) none)) ht3
   have h3:(upd H5 t3 (.tup (cutV st.vs (some (((3:Nat):Int)+1)) none))) t3=some (.tup [.int st.wt]):=qc
   generalize upd H5 t3 (.tup (cutV st.vs (some (((3:Nat):Int)+1)) none))=H3 at s3 h3 ⊢
   refine q2e (SqT.of (s3 _ _ h5)) (SqT.of h3) rfl fun t4 ht4=>?_
   exact k t4 _ ((((s1.trans s2).trans s5).trans s3).trans (Same.upd ht4)) qc
  ·walk_at "r"
   refine⟨q,_,rfl,SqT.of hq,fun e=>absurd (show(4:Nat)=5 from zM List.length e) (by decide),fun t1 ht1=>?_⟩
   have s1:=Same.upd (o:= .tup (cutV st.vs none (some ((4:Nat):Int)))) ht1
   have h1:(upd H t1 (.tup (cutV st.vs none (some ((4:Nat):Int))))) t1=some (.tup [.int st.rm,.int st.tk,.int st.op,.int st.b]):=qc
   generalize upd H t1 (.tup (cutV st.vs none (some ((4:Nat):Int))))=H1 at s1 h1 ⊢
   walk_at "r"
   intro t2 ht2
   have s2:=Same.upd (o:= .tup [.int n]) ht2
   have h2:=qc (H:=H1) (a:=t2) (o:= .tup [.int n])
   have h12:=s2 _ _ h1
   generalize upd H1 t2 (.tup [.int n])=H2 at s2 h2 h12 ⊢
   refine q2e (SqT.of h12) (SqT.of h2) rfl fun t5 ht5=>?_
   have s5:=Same.upd (o:= .tup [.int st.rm,.int st.tk,.int st.op,.int st.b,.int n]) ht5
   have h5:=qc (H:=H2) (a:=t5) (o:= .tup [.int st.rm,.int st.tk,.int st.op,.int st.b,.int n])
   have hq2:=s5 _ _ (s2 _ _ (s1 _ _ hq))
   show(tSl _ _ _ _) _ (upd H2 t5 (.tup [.int st.rm,.int st.tk,.int st.op,.int st.b,.int n])) _
   generalize upd H2 t5 (.tup [.int st.rm,.int st.tk,.int st.op,.int st.b,.int n])=H5 at s5 h5 hq2 ⊢
   walk_at "r"
   refine⟨q,_,rfl,SqT.of hq2,fun e=>absurd (show(0:Nat)=5 from zM List.length e) (by decide),fun t3 ht3=>?_⟩
   have s3:=Same.upd (o:= .tup (cutV st.vs (some (((4:Nat):Int)+1)) none)) ht3
   have h3:(upd H5 t3 (.tup (cutV st.vs (some (((4:Nat):Int)+1)) none))) t3=some (.tup []):=qc
   generalize upd H5 t3 (.tup (cutV st.vs (some (((4:Nat):Int)+1)) none))=H3 at s3 h3 ⊢
   refine qbv (SqT.of (s3 _ _ h5)) (SqT.of h3) (by show 5<=sizeLine;omega) ?_
   exact k t5 _ (((s1.trans s2).trans s5).trans s3) (s3 _ _ h5)
theorem qa8 (T:Txt mg cs)(L:LaidC K mg "Deed" "__init__" "Deed.__init__" q22 ["self","word","number","part"]):CCal P w K mg base 1 "Deed" "__init__" ["self","word","number","part"] (q2M K):=by
 refine L.cc (k:=0) q5M (fun vs H Q E h=>?_) (fun f cdv A outer s H vs Q E hr h=>?_)
 ·obtain ⟨p,C,dx,z,n,t,rfl,_⟩:=h
  rfl
 ·obtain ⟨p,C,dx,z,n,t,rfl,hp,cl,nw,nn,np,k⟩:=h
  refine⟨_,(qe (q1y K (pv 0) (pv 1) rfl)
   (qe (q1y K (pv 0) (pv 2) rfl)
   (qg (q1y K (pv 0) (pv 3) rfl)))),?_⟩
  walk_at "r"
  refine q2A hp cl nw (by decide) ?_
  walk_at "r"
  refine q2A qc cl nn (by show 1<1000;decide) ?_
  walk_at "r"
  refine q2A qc cl np (by show 2<1000;decide) ?_
  rw[q29,q29]
  exact k
theorem q5U {H:Hp}{Q:VK}{p dx:Addr}{d:Wd}{n:Int}(k:∀H',(∀b o,H b=some o->b≠p->H' b=some o)->DObj cs H' p d n->Q .non H'):Q .non (upd H p (.ins (dcls cs d) dx (putF "part" (.int d.part) (putF "number" (.int n) (putF "word" (.str d.str) []))))):=
 k _ (fun b o hb hbp=>by rw[qw hbp];exact hb) ⟨dx,qc⟩
theorem mk_go (T:Txt mg cs)(TC:Tcl K cs)(L:LaidI K mg "Go" cs.Go "Go.__init__" q2Y ["self","number"])(we:CCal P w K mg base 1 "Deed" "__init__" ["self","word","number","part"] (q2M K)):Makes P w K mg base 2 "Go" cs.Go ["self","number"] (q2a cs .go):=by
 obtain⟨t1,wC⟩:=T.wC
 have D:=q2I TC .go
 refine L.makes (k:=1) q7v (fun vs H Q E h=>?_) (fun f cdv A outer s H vs Q E hr h=>?_)
 ·obtain ⟨p,dx,n,rfl,_⟩:=h
  rfl
 ·obtain ⟨p,dx,n,rfl,hp,k⟩:=h
  refine⟨_,(qg (q07 (q3X we hr (by decide) rfl (qa (pv 0) (qa qL (qa (pv 1) (qa (qt (v:= .int 3) rfl wC ⟨_,rfl⟩) qd))))))),?_⟩
  walk_at "r"
  refine⟨p,_,dx,_,n,_,rfl,hp,D.cl,D.nw,D.nn,D.np,?_⟩
  walk_at "r"
  exact q5U k
theorem qc0 (T:Txt mg cs)(TC:Tcl K cs)(L:LaidI K mg "Pull" cs.Pull "Pull.__init__" q1U ["self","number"])(we:CCal P w K mg base 1 "Deed" "__init__" ["self","word","number","part"] (q2M K)):Makes P w K mg base 2 "Pull" cs.Pull ["self","number"] (q2a cs .pull):=by
 obtain⟨t1,wX⟩:=T.wX
 have D:=q2I TC .pull
 refine L.makes (k:=1) q5D (fun vs H Q E h=>?_) (fun f cdv A outer s H vs Q E hr h=>?_)
 ·obtain ⟨p,dx,n,rfl,_⟩:=h
  rfl
 ·obtain ⟨p,dx,n,rfl,hp,k⟩:=h
  refine⟨_,(qg (q07 (q3X we hr (by decide) rfl (qa (pv 0) (qa qL (qa (pv 1) (qa (qt (v:= .int 5) rfl wX ⟨_,rfl⟩) qd))))))),?_⟩
  walk_at "r"
  refine⟨p,_,dx,_,n,_,rfl,hp,D.cl,D.nw,D.nn,D.np,?_⟩
  walk_at "r"
  exact q5U k
theorem qbZ (T:Txt mg cs)(TC:Tcl K cs)(L:LaidI K mg "Take" cs.Take "Take.__init__" q1R ["self","number"])(we:CCal P w K mg base 1 "Deed" "__init__" ["self","word","number","part"] (q2M K)):Makes P w K mg base 2 "Take" cs.Take ["self","number"] (q2a cs .take):=by
 obtain⟨t1,wz⟩:=T.wz
 have D:=q2I TC .take
 refine L.makes (k:=1) q5A (fun vs H Q E h=>?_) (fun f cdv A outer s H vs Q E hr h=>?_)
 ·obtain ⟨p,dx,n,rfl,_⟩:=h
  rfl
 ·obtain ⟨p,dx,n,rfl,hp,k⟩:=h
  refine⟨_,(qg (q07 (q3X we hr (by decide) rfl (qa (pv 0) (qa qL (qa (pv 1) (qa (qt (v:= .int 4) rfl wz ⟨_,rfl⟩) qd))))))),?_⟩
  walk_at "r"
  refine⟨p,_,dx,_,n,_,rfl,hp,D.cl,D.nw,D.nn,D.np,?_⟩
  walk_at "r"
  exact q5U k
theorem qbY (T:Txt mg cs)(TC:Tcl K cs)(L:LaidI K mg "Turn" cs.Turn "Turn.__init__" q1O ["self","number"])(we:CCal P w K mg base 1 "Deed" "__init__" ["self","word","number","part"] (q2M K)):Makes P w K mg base 2 "Turn" cs.Turn ["self","number"] (q2a cs .turn):=by
 obtain⟨t1,wW⟩:=T.wW
 have D:=q2I TC .turn
 refine L.makes (k:=1) q5y (fun vs H Q E h=>?_) (fun f cdv A outer s H vs Q E hr h=>?_)
 ·obtain ⟨p,dx,n,rfl,_⟩:=h
  rfl
 ·obtain ⟨p,dx,n,rfl,hp,k⟩:=h
  refine⟨_,(qg (q07 (q3X we hr (by decide) rfl (qa (pv 0) (qa qL (qa (pv 1) (qa (qt (v:= .int 6) rfl wW ⟨_,rfl⟩) qd))))))),?_⟩
  walk_at "r"
  refine⟨p,_,dx,_,n,_,rfl,hp,D.cl,D.nw,D.nn,D.np,?_⟩
  walk_at "r"
  exact q5U k
theorem q8z (T:Txt mg cs)(TC:Tcl K cs)(L:LaidI K mg "Unlock" cs.Unlock "Unlock.__init__" q1d ["self","number"])(we:CCal P w K mg base 1 "Deed" "__init__" ["self","word","number","part"] (q2M K)):Makes P w K mg base 2 "Unlock" cs.Unlock ["self","number"] (q2a cs .unlock):=by
 obtain⟨t1,wC⟩:=T.wC
 have D:=q2I TC .unlock
 refine L.makes (k:=1) q4o (fun vs H Q E h=>?_) (fun f cdv A outer s H vs Q E hr h=>?_)
 ·obtain ⟨p,dx,n,rfl,_⟩:=h
  rfl
 ·obtain ⟨p,dx,n,rfl,hp,k⟩:=h
  refine⟨_,(qg (q07 (q3X we hr (by decide) rfl (qa (pv 0) (qa qL (qa (pv 1) (qa (qt (v:= .int 3) rfl wC ⟨_,rfl⟩) qd))))))),?_⟩
  walk_at "r"
  refine⟨p,_,dx,_,n,_,rfl,hp,D.cl,D.nw,D.nn,D.np,?_⟩
  walk_at "r"
  exact q5U k
theorem q8A {H:Hp}{Q:VK}{d:Wd}{n:Int}{x dx:Addr}(hx:H x=none)(hdx:H dx=none)(ne:dx≠x)(k:∀(x:Addr) (H':Hp),Same H H'->H x=none->DObj cs H' x d n->Q (.ref x) H'):q2a cs d (.ref x::([.int n]++[])) (upd (upd H dx (.own x)) x (.ins (dcls cs d) dx [])) (fun v H2=>v= .non/\Q (.ref x) H2) E0:=by
 refine⟨x,dx,n,rfl,qc,fun H' hk ho=>⟨rfl,k x H' (fun b o hb=>?_) hx ho⟩⟩
 refine hk b o ?_ (qy hb hx)
 rw[qw (qy hb hx),qw (qy hb hdx)]
 exact hb
theorem q5a {d:Wd}(L:LaidM K (dcls cs d) "own_part" "Deed.own_part" qF ["self","cellar"])(D:DCl K cs d):VMeth P w K mg base 1 (dcls cs d) "own_part" ["self","cellar"] (q4m cs d):=by
 refine L.vm (k:=0) D.cl q3w (fun vs H Q E h=>?_) (fun f cdv A outer s H vs Q E hr h=>?_)
 ·obtain ⟨p,c,C,i,rfl,_⟩:=h
  rfl
 ·obtain ⟨p,c,C,i,rfl,ho,hC,hi,k⟩:=h
  obtain⟨dx,hp⟩:=ho.ex
  obtain⟨pw,pt,pl,pv',h0,hw,ht,hl,hv⟩:=hC.ex
  refine⟨_,(qg (qm (qj (qf K) (qj (qf K) (pv 1) (q0B K (pv 0) rfl) (fun _ _=>rfl)) (q0B K (pv 0) rfl) (fun _ _=>rfl)))),?_⟩
  walk_at "r"
  refine q1B hp D.cl D.np (q8Y d i) ?_
  cases d
  ·obtain ⟨xs,hx,hxl,hxg⟩:=hw.get
   obtain⟨r,e,hr1⟩:=hxg i hi
   refine q3x (SqT.of h0) (v:= .ref pw) rfl ?_
   walk_at "r"
   refine q1B hp D.cl D.nn (q0m _ i) ?_
   refine q3x (SqT.of hx) (q0H e) ?_
   exact k r ⟨_,yB hi,hr1⟩
  ·obtain ⟨xs,hx,hxl,hxg⟩:=hl.get
   obtain⟨r,e,hr1⟩:=hxg i hi
   refine q3x (SqT.of h0) (v:= .ref pl) rfl ?_
   walk_at "r"
   refine q1B hp D.cl D.nn (q0m _ i) ?_
   refine q3x (SqT.of hx) (q0H e) ?_
   exact k r ⟨_,yB hi,hr1⟩
  ·obtain ⟨xs,hx,hxl,hxg⟩:=ht.get
   obtain⟨r,e,hr1⟩:=hxg i hi
   refine q3x (SqT.of h0) (v:= .ref pt) rfl ?_
   walk_at "r"
   refine q1B hp D.cl D.nn (q0m _ i) ?_
   refine q3x (SqT.of hx) (q0H e) ?_
   exact k r ⟨_,yB hi,hr1⟩
  ·obtain ⟨xs,hx,hxl,hxg⟩:=hv.get
   obtain⟨r,e,hr1⟩:=hxg i hi
   refine q3x (SqT.of h0) (v:= .ref pv') rfl ?_
   walk_at "r"
   refine q1B hp D.cl D.nn (q0m _ i) ?_
   refine q3x (SqT.of hx) (q0H e) ?_
   exact k r ⟨_,yB hi,hr1⟩
  ·obtain ⟨xs,hx,hxl,hxg⟩:=hw.get
   obtain⟨r,e,hr1⟩:=hxg i hi
   refine q3x (SqT.of h0) (v:= .ref pw) rfl ?_
   walk_at "r"
   refine q1B hp D.cl D.nn (q0m _ i) ?_
   refine q3x (SqT.of hx) (q0H e) ?_
   exact k r ⟨_,yB hi,hr1⟩
theorem num_at {H:Hp}{c:Addr}{C:Cl}(hC:ClAt H c C)(d:Wd):∃(vs:List V) (p:Addr) (xs:List V),H c=some (.tup vs)/\atI vs d.part=some (.ref p)/\H p=some (.tup xs)/\xs.length=C.num d/\atI vs 2=some (.int C.lst):=by
 obtain⟨pw,pt,pl,pv',h0,hw,ht,hl,hv⟩:=hC.ex
 cases d
 ·obtain ⟨xs,hx,hxl,_⟩:=hw.get
  exact⟨_,pw,xs,h0,rfl,hx,hxl,rfl⟩
 ·obtain ⟨xs,hx,hxl,_⟩:=hl.get
  exact⟨_,pl,xs,h0,rfl,hx,hxl,rfl⟩
 ·obtain ⟨xs,hx,hxl,_⟩:=ht.get
  exact⟨_,pt,xs,h0,rfl,hx,hxl,rfl⟩
 ·obtain ⟨xs,hx,hxl,_⟩:=hv.get
  exact⟨_,pv',xs,h0,rfl,hx,hxl,rfl⟩
 ·obtain ⟨xs,hx,hxl,_⟩:=hw.get
  exact⟨_,pw,xs,h0,rfl,hx,hxl,rfl⟩
theorem q5k {d:Wd}(T:Txt mg cs)(L:LaidM K (dcls cs d) "can" "Deed.can" q08 ["self","cellar","stand"])(D:DCl K cs d)(ww:Cal P w K mg base 1 "within" ["number","least","most"] q2T)(vf:VMeth P w K mg base 5 (dcls cs d) "fits" ["self","cellar","stand"] (q3M cs d)):VMeth P w K mg base 6 (dcls cs d) "can" ["self","cellar","stand"] (qbk cs d):=by
 obtain⟨t1,wc⟩:=T.wc
 obtain⟨t2,vA⟩:=T.vA
 refine L.vm (k:=5) D.cl q6n (fun vs H Q E h=>?_) (fun f cdv A outer s H vs Q E hr h=>?_)
 ·obtain ⟨p,c,q,C,st,n,rfl,_⟩:=h
  rfl
 ·obtain ⟨p,c,q,C,st,n,rfl,ho,hC,ok,hq,sok,k⟩:=h
  obtain⟨dx,hp⟩:=ho.ex
  obtain⟨vs,pp,xs,h0,hpp,hx,hxl,hlast⟩:=num_at hC d
  have hq':H q=some (.tup [.int st.rm,.int st.tk,.int st.op,.int st.b,.int st.wt]):=hq
  refine⟨_,(qe (qN (PW.pt (q33 (qq q01 (qj (qf K) (pv 2) (qt (v:= .int 0) rfl wc ⟨_,rfl⟩) (fun _ _=>rfl)) (qj (qf K) (pv 1) (qt (v:= .int 2) rfl vA ⟨_,rfl⟩) (fun _ _=>rfl)) (qp _)) (q2f (q2C (q14 (qz ww hr (by decide) rfl (qa (q0B K (pv 0) rfl) (qa qb (qa (qi q2h (qx (lenK K) rfl T.wf q02 (qa (qj (qf K) (pv 1) (q0B K (pv 0) rfl) (fun _ _=>rfl)) qd)) qb) qd))))))))) (qg (qm q1g)) qu)
   (qg (qm (q3V (k:=5) (hr.mono (by decide)) (pv 0) (qa (pv 1) (qa (pv 2) qd)))))),?_⟩
  walk_at "r"
  refine ifd (fun h1=>?_) (fun h1=>?_)
  ·walk_at "r"
   have:=k H (Same.refl _)
   rw[q65 h1] at this
   exact this
  walk_at "r"
  refine q1B hp D.cl D.nn (q0m d n) ?_
  walk_at "r"
  refine q1B hp D.cl D.np (q8Y d n) ?_
  refine q3x (SqT.of h0) hpp ?_
  walk_at "r"
  refine⟨n,0,_,rfl,?_⟩
  walk_at "r"
  by_cases hin:0<=n/\n<(C.num d:Int)
  ·have e:(decide (0<=n)&&decide (n<=(xs.length:Int) - 1))=true:=by
    rw[ze (p:=0<=n) hin.1,ze (p:=n<=(xs.length:Int) - 1) (by rw[hxl];omega)]
    rfl
   rw[e]
   walk_at "r"
   obtain⟨i,rfl⟩:∃i:Nat,n=(i:Int):=⟨n.toNat,by omega⟩
   refine r_vm hp vf (qcm d _) ?_
   walk_at "r"
   refine⟨p,c,q,C,st,i,rfl,ho,hC,ok,hq,sok,by omega,fun H' s'=>?_⟩
   have:=k H' s'
   rw[q9e h1] at this
   exact this
  ·have e:(decide (0<=n)&&decide (n<=(xs.length:Int) - 1))=false:=by
    rw[Bool.and_eq_false_iff]
    by_cases h3:0<=n
    ·right;rw[hxl];exact zf (by omega)
    ·left;exact zf h3
   rw[e]
   walk_at "r"
   have:=k H (Same.refl _)
   rw[show canD C st d n=false from by
    by_cases h3:0<=n
    ·exact q6G (by omega)
    ·exact q7i (by omega)] at this
   exact this
theorem q2R {d:Wd}(L:LaidM K (dcls cs d) "told" "Deed.told" qZ ["self"])(D:DCl K cs d):VMeth P w K mg base 1 (dcls cs d) "told" ["self"] (q6g cs d):=by
 refine L.vm (k:=0) D.cl q5L (fun vs H Q E h=>?_) (fun f cdv A outer s H vs Q E hr h=>?_)
 ·obtain ⟨p,n,rfl,_⟩:=h
  rfl
 ·obtain ⟨p,n,rfl,ho,k⟩:=h
  obtain⟨dx,hp⟩:=ho.ex
  refine⟨_,(qg (qm (qA (qa (q0B K (pv 0) rfl) (qa (q0B K (pv 0) rfl) qd))))),?_⟩
  walk_at "r"
  refine q1B hp D.cl D.nw (qck d n) ?_
  walk_at "r"
  refine q1B hp D.cl D.nn (q0m d n) ?_
  walk_at "r"
  intro r hr1
  exact k r _ (Same.upd hr1) qc
theorem q7m (T:Txt mg cs)(D:DCl K cs .go)(L:LaidM K cs.Go "fits" "Go.fits" q2Z ["self","cellar","stand"])(vo:VMeth P w K mg base 1 (dcls cs .go) "own_part" ["self","cellar"] (q4m cs .go))(wL:Cal P w K mg base 1 "can_enter" ["way","room"] q4L)(wg:Cal P w K mg base 1 "has_bit" ["bits","place"] q6j)
  (vL:Cal P w K mg base 4 "gate_of" ["gate"] (qbi cs))(vl:∀g:Gt,VMeth P w K mg base 2 (q9a cs g) "lets" ["self","held","opened","bars","water"] (q3k cs g.word))(vg:Cal P w K mg base 2 "held" ["cellar","stand"] q5r):VMeth P w K mg base 5 (dcls cs .go) "fits" ["self","cellar","stand"] (q3M cs .go):=by
 obtain⟨t1,wc⟩:=T.wc
 obtain⟨t2,wm⟩:=T.wm
 obtain⟨t3,wI⟩:=T.wI
 obtain⟨t4,wN⟩:=T.wN
 obtain⟨t5,wD⟩:=T.wD
 refine LaidM.vm (k:=4) L D.cl q3c (fun vs H Q E h=>?_) (fun f cdv A outer s H vs Q E hr h=>?_)
 ·obtain ⟨p,c,q,C,st,i,rfl,_⟩:=h
  rfl
 ·obtain ⟨p,c,q,C,st,i,rfl,ho,hC,ok,hq,sok,hi,k⟩:=h
  obtain⟨dx,hp⟩:=ho.ex
  replace hq:H q=some (.tup [.int st.rm,.int st.tk,.int st.op,.int st.b,.int st.wt]):=hq
  refine⟨_,(qe (qv (i:=3) q3c.nd rfl (Or.inl rfl) (q3V (k:=1) (hr.mono (by decide)) (pv 0) (qa (pv 1) qd)))
   (qe (qN (q2C (q14 (qz wL hr (by decide) rfl (qa (pv 3) (qa (qj (qf K) (pv 2) (qt (v:= .int 0) rfl wc ⟨_,rfl⟩) (fun _ _=>rfl)) qd))))) (qg (qm q1g)) qu)
   (qe (qv (i:=4) q3c.nd rfl (Or.inl rfl) (qz wg hr (by decide) rfl (qa (qj (qf K) (pv 2) (qt (v:= .int 2) rfl wm ⟨_,rfl⟩) (fun _ _=>rfl)) (qa (q0B K (pv 0) rfl) qd))))
   (qg (qm (q3V (k:=2) (hr.mono (by decide)) (qz vL hr (by decide) rfl (qa (qj (qf K) (pv 3) (qt (v:= .int 2) rfl wI ⟨_,rfl⟩) (fun _ _=>rfl)) qd)) (qa (qz vg hr (by decide) rfl (qa (pv 1) (qa (pv 2) qd))) (qa (pv 4) (qa (qj (qf K) (pv 2) (qt (v:= .int 3) rfl wN ⟨_,rfl⟩) (fun _ _=>rfl)) (qa (qj (qf K) (pv 2) (qt (v:= .int 4) rfl wD ⟨_,rfl⟩) (fun _ _=>rfl)) qd)))))))))),?_⟩
  walk_at "r"
  refine r_vm hp vo (q3t _ _) ?_
  walk_at "r"
  refine⟨p,c,C,i,rfl,ho,hC,hi,fun r hrow=>?_⟩
  obtain⟨x,hx,hW⟩:=hrow
  have xok:=ok.w x (zbn hx)
  have ecan:canB C st i .go=(q16 x st.rm&&q44 x.g (hold C st.tk st.op) (bit st.op i) st.b st.wt):=by simp[canB,hx]
  obtain⟨g,hr1,hg⟩:=id hW
  walk_at "r"
  refine⟨r,x,st.rm,rfl,hW,?_⟩
  walk_at "r"
  cases he:q16 x st.rm with
  |false=>
   walk_at "r"
   have:=k H (Same.refl _)
   rw[ecan,he] at this
   exact this
  |true=>
   walk_at "r"
   refine q1B hp D.cl D.nn (q0m _ _) ?_
   walk_at "r"
   refine⟨st.op,i,rfl,by omega,?_⟩
   rw[zh]
   walk_at "r"
   refine⟨g,x.g,rfl,hg,fun o H1 s1 ho0 hob=>?_⟩
   obtain⟨dxo,qo,hpo,hqo⟩:=hob.ex
   have hq1:=s1 _ _ hq
   refine r_vm hpo (vl x.g) (qcd qo x.g) ?_
   walk_at "r"
   refine⟨c,q,C,st.rm,st.tk,st.op,st.b,st.wt,rfl,hC.mono s1.ts,ok,hq1,sok.dr,fun hl H2 s2 hl0 hl2=>?_⟩
   have hq2:=s2 _ _ hq1
   walk_at "r"
   refine⟨o,hl,x.g,hold C st.tk st.op,_,_,_,rfl,rfl,hob.mono s2,xok.2.2.2,hl2,?_⟩
   have:=k H2 (s1.trans s2)
   rw[ecan,he,zay] at this
   exact this
theorem q5g (T:Txt mg cs)(D:DCl K cs .pull)(L:LaidM K cs.Pull "fits" "Pull.fits" q1V ["self","cellar","stand"])(vo:VMeth P w K mg base 1 (dcls cs .pull) "own_part" ["self","cellar"] (q4m cs .pull)):VMeth P w K mg base 5 (dcls cs .pull) "fits" ["self","cellar","stand"] (q3M cs .pull):=by
 obtain⟨t1,wc⟩:=T.wc
 obtain⟨t2,wy⟩:=T.wy
 refine LaidM.vm (k:=4) L D.cl q5E (fun vs H Q E h=>?_) (fun f cdv A outer s H vs Q E hr h=>?_)
 ·obtain ⟨p,c,q,C,st,i,rfl,_⟩:=h
  rfl
 ·obtain ⟨p,c,q,C,st,i,rfl,ho,hC,ok,hq,sok,hi,k⟩:=h
  obtain⟨dx,hp⟩:=ho.ex
  replace hq:H q=some (.tup [.int st.rm,.int st.tk,.int st.op,.int st.b,.int st.wt]):=hq
  refine⟨_,(qg (qm (qP q01 (qj (qf K) (pv 2) (qt (v:= .int 0) rfl wc ⟨_,rfl⟩) (fun _ _=>rfl)) (qj (qf K) (q3V (k:=1) (hr.mono (by decide)) (pv 0) (qa (pv 1) qd)) (qt (v:= .int 0) rfl wy ⟨_,rfl⟩) (fun _ _=>rfl)) (qp _)))),?_⟩
  walk_at "r"
  refine r_vm hp vo (q3t _ _) ?_
  walk_at "r"
  refine⟨p,c,C,i,rfl,ho,hC,hi,fun r hrow=>?_⟩
  obtain⟨x,hx,hP⟩:=hrow
  have ecan:canB C st i .pull=decide (st.rm=x.1):=by simp[canB,hx]
  replace hP:H r=some (.tup [.int x.1,.int x.2]):=hP
  walk_at "r"
  have:=k H (Same.refl _)
  rw[ecan] at this
  exact this
theorem q5f (T:Txt mg cs)(D:DCl K cs .take)(L:LaidM K cs.Take "fits" "Take.fits" q1S ["self","cellar","stand"])(vo:VMeth P w K mg base 1 (dcls cs .take) "own_part" ["self","cellar"] (q4m cs .take))(wg:Cal P w K mg base 1 "has_bit" ["bits","place"] q6j):VMeth P w K mg base 5 (dcls cs .take) "fits" ["self","cellar","stand"] (q3M cs .take):=by
 obtain⟨t1,wc⟩:=T.wc
 obtain⟨t2,wy⟩:=T.wy
 obtain⟨t3,wB⟩:=T.wB
 refine LaidM.vm (k:=4) L D.cl q5B (fun vs H Q E h=>?_) (fun f cdv A outer s H vs Q E hr h=>?_)
 ·obtain ⟨p,c,q,C,st,i,rfl,_⟩:=h
  rfl
 ·obtain ⟨p,c,q,C,st,i,rfl,ho,hC,ok,hq,sok,hi,k⟩:=h
  obtain⟨dx,hp⟩:=ho.ex
  replace hq:H q=some (.tup [.int st.rm,.int st.tk,.int st.op,.int st.b,.int st.wt]):=hq
  refine⟨_,(qg (qm (q1C (qP q01 (qj (qf K) (pv 2) (qt (v:= .int 0) rfl wc ⟨_,rfl⟩) (fun _ _=>rfl)) (qj (qf K) (q3V (k:=1) (hr.mono (by decide)) (pv 0) (qa (pv 1) qd)) (qt (v:= .int 0) rfl wy ⟨_,rfl⟩) (fun _ _=>rfl)) (qp _)) (q27 (pe_not (qz wg hr (by decide) rfl (qa (qj (qf K) (pv 2) (qt (v:= .int 1) rfl wB ⟨_,rfl⟩) (fun _ _=>rfl)) (qa (q0B K (pv 0) rfl) qd)))))))),?_⟩
  walk_at "r"
  refine r_vm hp vo (q3t _ _) ?_
  walk_at "r"
  refine⟨p,c,C,i,rfl,ho,hC,hi,fun r hrow=>?_⟩
  obtain⟨x,hx,hP⟩:=hrow
  have ecan:canB C st i .take=(decide (st.rm=x.1)&& !bit st.tk i):=by simp[canB,hx]
  replace hP:H r=some (.tup [.int x.1,.int x.2]):=hP
  have k':=k H (Same.refl _)
  rw[ecan] at k'
  walk_at "r"
  refine ifd (fun h1=>?_) (fun h1=>?_)
  ·rw [ze h1,zay] at k'
   walk_at "r"
   refine q1B hp D.cl D.nn (q0m _ _) ?_
   walk_at "r"
   refine⟨st.tk,i,rfl,by omega,?_⟩
   rw[zh]
   walk_at "r"
   exact k'
  ·rw [zf h1,zaz] at k'
   exact k'
theorem q5e (T:Txt mg cs)(D:DCl K cs .turn)(L:LaidM K cs.Turn "fits" "Turn.fits" q1P ["self","cellar","stand"])(vo:VMeth P w K mg base 1 (dcls cs .turn) "own_part" ["self","cellar"] (q4m cs .turn)):VMeth P w K mg base 5 (dcls cs .turn) "fits" ["self","cellar","stand"] (q3M cs .turn):=by
 obtain⟨t1,wc⟩:=T.wc
 obtain⟨t2,wy⟩:=T.wy
 obtain⟨t3,wD⟩:=T.wD
 obtain⟨t4,wn⟩:=T.wn
 refine LaidM.vm (k:=4) L D.cl q3n (fun vs H Q E h=>?_) (fun f cdv A outer s H vs Q E hr h=>?_)
 ·obtain ⟨p,c,q,C,st,i,rfl,_⟩:=h
  rfl
 ·obtain ⟨p,c,q,C,st,i,rfl,ho,hC,ok,hq,sok,hi,k⟩:=h
  obtain⟨dx,hp⟩:=ho.ex
  replace hq:H q=some (.tup [.int st.rm,.int st.tk,.int st.op,.int st.b,.int st.wt]):=hq
  refine⟨_,(qe (qv (i:=3) q3n.nd rfl (Or.inl rfl) (q3V (k:=1) (hr.mono (by decide)) (pv 0) (qa (pv 1) qd)))
   (qg (qm (q1C (qP q01 (qj (qf K) (pv 2) (qt (v:= .int 0) rfl wc ⟨_,rfl⟩) (fun _ _=>rfl)) (qj (qf K) (pv 3) (qt (v:= .int 0) rfl wy ⟨_,rfl⟩) (fun _ _=>rfl)) (qp _)) (q27 (qP q3y (qj (qf K) (pv 2) (qt (v:= .int 4) rfl wD ⟨_,rfl⟩) (fun _ _=>rfl)) (qj (qf K) (pv 3) (qt (v:= .int 1) rfl wn ⟨_,rfl⟩) (fun _ _=>rfl)) (qp _))))))),?_⟩
  walk_at "r"
  refine r_vm hp vo (q3t _ _) ?_
  walk_at "r"
  refine⟨p,c,C,i,rfl,ho,hC,hi,fun r hrow=>?_⟩
  obtain⟨x,hx,hP⟩:=hrow
  have ecan:canB C st i .turn=(decide (st.rm=x.1)&& !decide (st.wt=x.2)):=by simp[canB,hx]
  replace hP:H r=some (.tup [.int x.1,.int x.2]):=hP
  have k':=k H (Same.refl _)
  rw[ecan] at k'
  walk_at "r"
  refine ifd (fun h1=>?_) (fun h1=>?_)
  ·rw [ze h1,zay] at k'
   walk_at "r"
   exact k'
  ·rw [zf h1,zaz] at k'
   exact k'
theorem q4k (T:Txt mg cs)(D:DCl K cs .unlock)(L:LaidM K cs.Unlock "fits" "Unlock.fits" q1e ["self","cellar","stand"])(vo:VMeth P w K mg base 1 (dcls cs .unlock) "own_part" ["self","cellar"] (q4m cs .unlock))(wL:Cal P w K mg base 1 "can_enter" ["way","room"] q4L)(wg:Cal P w K mg base 1 "has_bit" ["bits","place"] q6j)
  (vg:Cal P w K mg base 2 "held" ["cellar","stand"] q5r):VMeth P w K mg base 5 (dcls cs .unlock) "fits" ["self","cellar","stand"] (q3M cs .unlock):=by
 obtain⟨t1,wc⟩:=T.wc
 obtain⟨t2,wm⟩:=T.wm
 obtain⟨t3,wI⟩:=T.wI
 refine LaidM.vm (k:=4) L D.cl q1w (fun vs H Q E h=>?_) (fun f cdv A outer s H vs Q E hr h=>?_)
 ·obtain ⟨p,c,q,C,st,i,rfl,_⟩:=h
  rfl
 ·obtain ⟨p,c,q,C,st,i,rfl,ho,hC,ok,hq,sok,hi,k⟩:=h
  obtain⟨dx,hp⟩:=ho.ex
  replace hq:H q=some (.tup [.int st.rm,.int st.tk,.int st.op,.int st.b,.int st.wt]):=hq
  refine⟨_,(qe (qv (i:=3) q1w.nd rfl (Or.inl rfl) (q3V (k:=1) (hr.mono (by decide)) (pv 0) (qa (pv 1) qd)))
   (qe (qv (i:=4) q1w.nd rfl (Or.inl rfl) (qj (qf K) (pv 3) (qt (v:= .int 2) rfl wI ⟨_,rfl⟩) (fun _ _=>rfl)))
   (qe (qN (PW.pt (q33 (qq q3y (qj (qf K) (pv 4) qb (fun _ _=>rfl)) qL (qp _)) (q33 (q2C (q14 (qz wL hr (by decide) rfl (qa (pv 3) (qa (qj (qf K) (pv 2) (qt (v:= .int 0) rfl wc ⟨_,rfl⟩) (fun _ _=>rfl)) qd))))) (q2f (q14 (qz wg hr (by decide) rfl (qa (qj (qf K) (pv 2) (qt (v:= .int 2) rfl wm ⟨_,rfl⟩) (fun _ _=>rfl)) (qa (q0B K (pv 0) rfl) qd)))))))) (qg (qm q1g)) qu)
   (qg (qm (qP q40 (qj (qM K) (qz vg hr (by decide) rfl (qa (pv 1) (qa (pv 2) qd))) (qj (qf K) (pv 4) qb (fun _ _=>rfl)) (fun _ _=>rfl)) qb (qp _))))))),?_⟩
  walk_at "r"
  refine r_vm hp vo (q3t _ _) ?_
  walk_at "r"
  refine⟨p,c,C,i,rfl,ho,hC,hi,fun r hrow=>?_⟩
  obtain⟨x,hx,hW⟩:=hrow
  have xok:=ok.w x (zbn hx)
  obtain⟨g,hr1,hg⟩:=id hW
  have hg':=hg
  rw[Gt.vs_eq] at hg'
  walk_at "r"
  refine ifn (fun hn=>?_) (fun hn=>?_)
  ·walk_at "r"
   have hdk:x.g.dk=none:=by
    have:=q58 x.g
    rw[zf hn] at this
    cases e:x.g.dk with
    |none=>rfl
    |some k=>rw[e] at this;cases this
   have:=k H (Same.refl _)
   rw[show canB C st i .unlock=false by simp[canB,hx,hdk]] at this
   exact this
  obtain⟨kd,ekd⟩:=q8X hn
  have hk:0<=kd/\kd<12:=by have:=xok.2.2.2;rw[ekd] at this;exact this
  have edk:x.g.dk=some kd:=by rw[ekd];rfl
  have ecan:canB C st i .unlock=((q16 x st.rm&& !bit st.op i)&&decide (0<hold C st.tk st.op kd)):=by simp[canB,hx,edk]
  have hg2:H g=some (.tup [.str "door",.int kd]):=by rw[ekd] at hg;exact hg
  walk_at "r"
  refine⟨r,x,st.rm,rfl,hW,?_⟩
  walk_at "r"
  cases he:q16 x st.rm with
  |false=>
   walk_at "r"
   have:=k H (Same.refl _)
   rw[ecan,he] at this
   exact this
  |true=>
   walk_at "r"
   refine q1B hp D.cl D.nn (q0m _ _) ?_
   walk_at "r"
   refine⟨st.op,i,rfl,by omega,?_⟩
   rw[zh]
   walk_at "r"
   cases hb:bit st.op i with
   |true=>
    walk_at "r"
    have:=k H (Same.refl _)
    rw[ecan,he,hb] at this
    exact this
   |false=>
    walk_at "r"
    refine⟨c,q,C,st.rm,st.tk,st.op,st.b,st.wt,rfl,hC,ok,hq,sok.dr,fun hl H2 s2 hl0 hl2=>?_⟩
    have hg3:=s2 _ _ hg2
    walk_at "r"
    refine q2d (SqL.of hl2) (q9c hk.1 hk.2) ?_
    walk_at "r"
    have:=k H2 s2
    rw[ecan,he,hb] at this
    exact this
theorem q7n (T:Txt mg cs)(D:DCl K cs .go)(L:LaidM K cs.Go "done" "Go.done" q30 ["self","cellar","stand"])(vo:VMeth P w K mg base 1 (dcls cs .go) "own_part" ["self","cellar"] (q4m cs .go))(wj:Cal P w K mg base 1 "changed" ["parts","place","part"] q6h):VMeth P w K mg base 2 (dcls cs .go) "done" ["self","cellar","stand"] (q3N cs .go):=by
 obtain⟨t1,wc⟩:=T.wc
 obtain⟨t2,wY⟩:=T.wY
 obtain⟨t3,vj⟩:=T.vj
 refine LaidM.vm (k:=1) L D.cl q3d (fun vs H Q E h=>?_) (fun f cdv A outer s H vs Q E hr h=>?_)
 ·obtain ⟨p,c,q,C,st,n,rfl,_⟩:=h
  rfl
 ·obtain ⟨p,c,q,C,st,n,rfl,ho,hC,ok,hq,sok,hcan,k⟩:=h
  obtain⟨hl,i,rfl,hi,hcb⟩:=q2k hcan
  obtain⟨dx,hp⟩:=ho.ex
  have hq':H q=some (.tup [.int st.rm,.int st.tk,.int st.op,.int st.b,.int st.wt]):=hq
  refine⟨_,(qe (qv (i:=3) q3d.nd rfl (Or.inl rfl) (q3V (k:=1) (hr.mono (by decide)) (pv 0) (qa (pv 1) qd)))
   (qe (qv (i:=4) q3d.nd rfl (Or.inl rfl) (q70 (qq q01 (qj (qf K) (pv 2) (qt (v:= .int 0) rfl wc ⟨_,rfl⟩) (fun _ _=>rfl)) (qj (qf K) (pv 3) (qt (v:= .int 0) rfl wY ⟨_,rfl⟩) (fun _ _=>rfl)) (qp _)) (qj (qf K) (pv 3) (qt (v:= .int 1) rfl vj ⟨_,rfl⟩) (fun _ _=>rfl)) (qj (qf K) (pv 3) (qt (v:= .int 0) rfl wY ⟨_,rfl⟩) (fun _ _=>rfl))))
   (qg (qm (qz wj hr (by decide) rfl (qa (pv 2) (qa (qt (v:= .int 0) rfl wc ⟨_,rfl⟩) (qa (pv 4) qd)))))))),?_⟩
  walk_at "r"
  refine r_vm hp vo (q3t _ _) ?_
  walk_at "r"
  refine⟨p,c,C,i,rfl,ho,hC,hi,fun r hrow=>?_⟩
  obtain⟨x,hx,hW⟩:=hrow
  obtain⟨g,hr1,hg⟩:=id hW
  have edone:q0N C st .go (i:Int)={st with rm:=if st.rm=x.a then x.b else x.a}:=by
   show q1z C st ((i:Int)).toNat .go=_
   rw[zh];simp[q1z,hx]
  rw[edone] at k
  walk_at "r"
  refine ifd (fun h1=>?_) (fun h1=>?_)
  ·rw [zj h1] at k
   walk_at "r"
   exact⟨q,st,0,_,rfl,by decide,hq,fun r H' s' hr'=>k r H' s' hr'⟩
  ·rw [zd h1] at k
   walk_at "r"
   exact⟨q,st,0,_,rfl,by decide,hq,fun r H' s' hr'=>k r H' s' hr'⟩
theorem q5j (T:Txt mg cs)(D:DCl K cs .pull)(L:LaidM K cs.Pull "done" "Pull.done" q1W ["self","cellar","stand"])(vo:VMeth P w K mg base 1 (dcls cs .pull) "own_part" ["self","cellar"] (q4m cs .pull))(wj:Cal P w K mg base 1 "changed" ["parts","place","part"] q6h):VMeth P w K mg base 2 (dcls cs .pull) "done" ["self","cellar","stand"] (q3N cs .pull):=by
 obtain⟨t1,wN⟩:=T.wN
 obtain⟨t2,wn⟩:=T.wn
 refine LaidM.vm (k:=1) L D.cl q5F (fun vs H Q E h=>?_) (fun f cdv A outer s H vs Q E hr h=>?_)
 ·obtain ⟨p,c,q,C,st,n,rfl,_⟩:=h
  rfl
 ·obtain ⟨p,c,q,C,st,n,rfl,ho,hC,ok,hq,sok,hcan,k⟩:=h
  obtain⟨hl,i,rfl,hi,hcb⟩:=q2k hcan
  obtain⟨dx,hp⟩:=ho.ex
  have hq':H q=some (.tup [.int st.rm,.int st.tk,.int st.op,.int st.b,.int st.wt]):=hq
  refine⟨_,(qg (qm (qz wj hr (by decide) rfl (qa (pv 2) (qa (qt (v:= .int 3) rfl wN ⟨_,rfl⟩) (qa (qi q5S (qj (qf K) (pv 2) (qt (v:= .int 3) rfl wN ⟨_,rfl⟩) (fun _ _=>rfl)) (qj (qf K) (q3V (k:=1) (hr.mono (by decide)) (pv 0) (qa (pv 1) qd)) (qt (v:= .int 1) rfl wn ⟨_,rfl⟩) (fun _ _=>rfl))) qd)))))),?_⟩
  walk_at "r"
  refine r_vm hp vo (q3t _ _) ?_
  walk_at "r"
  refine⟨p,c,C,i,rfl,ho,hC,hi,fun r hrow=>?_⟩
  obtain⟨x,hx,hP⟩:=hrow
  replace hP:H r=some (.tup [.int x.1,.int x.2]):=hP
  have edone:q0N C st .pull (i:Int)={st with b:=Builtin.bitXor st.b x.2}:=by
   show q1z C st ((i:Int)).toNat .pull=_
   rw[zh];simp[q1z,hx]
  rw[edone] at k
  walk_at "r"
  exact⟨q,st,3,_,rfl,by decide,hq,fun r H' s' hr'=>k r H' s' hr'⟩
theorem q5i (T:Txt mg cs)(D:DCl K cs .take)(L:LaidM K cs.Take "done" "Take.done" q1T ["self","cellar","stand"])(wj:Cal P w K mg base 1 "changed" ["parts","place","part"] q6h):VMeth P w K mg base 2 (dcls cs .take) "done" ["self","cellar","stand"] (q3N cs .take):=by
 obtain⟨t1,wB⟩:=T.wB
 refine LaidM.vm (k:=1) L D.cl q5C (fun vs H Q E h=>?_) (fun f cdv A outer s H vs Q E hr h=>?_)
 ·obtain ⟨p,c,q,C,st,n,rfl,_⟩:=h
  rfl
 ·obtain ⟨p,c,q,C,st,n,rfl,ho,hC,ok,hq,sok,hcan,k⟩:=h
  obtain⟨hl,i,rfl,hi,hcb⟩:=q2k hcan
  obtain⟨dx,hp⟩:=ho.ex
  have hq':H q=some (.tup [.int st.rm,.int st.tk,.int st.op,.int st.b,.int st.wt]):=hq
  have hi8:(i:Int)<8:=by have h2:i<C.things.length:=hi;have:=ok.tl;omega
  have hb:bit st.tk i=false:=by
   have h2:i<C.things.length:=hi
   simp only[canB,yB h2,Bool.and_eq_true,Bool.not_eq_true'] at hcb
   exact hcb.2
  have edone:q0N C st .take (i:Int)={st with tk:=st.tk+2 ^ i}:=by
   show q1z C st ((i:Int)).toNat .take=_
   rw[zh];rfl
  rw[edone] at k
  refine⟨_,(qg (qm (qz wj hr (by decide) rfl (qa (pv 2) (qa (qt (v:= .int 1) rfl wB ⟨_,rfl⟩) (qa (qi qbH (qj (qf K) (pv 2) (qt (v:= .int 1) rfl wB ⟨_,rfl⟩) (fun _ _=>rfl)) (qi q28 qb (q0B K (pv 0) rfl))) qd)))))),?_⟩
  walk_at "r"
  refine q1B hp D.cl D.nn (q0m _ _) ?_
  walk_at "r"
  rw[zh,zaF,q9p hb]
  exact⟨q,st,1,_,rfl,by decide,hq,fun r H' s' hr'=>k r H' s' hr'⟩
theorem q5h (T:Txt mg cs)(D:DCl K cs .turn)(L:LaidM K cs.Turn "done" "Turn.done" q1Q ["self","cellar","stand"])(vo:VMeth P w K mg base 1 (dcls cs .turn) "own_part" ["self","cellar"] (q4m cs .turn))(wj:Cal P w K mg base 1 "changed" ["parts","place","part"] q6h):VMeth P w K mg base 2 (dcls cs .turn) "done" ["self","cellar","stand"] (q3N cs .turn):=by
 obtain⟨t1,wD⟩:=T.wD
 obtain⟨t2,wn⟩:=T.wn
 refine LaidM.vm (k:=1) L D.cl q5z (fun vs H Q E h=>?_) (fun f cdv A outer s H vs Q E hr h=>?_)
 ·obtain ⟨p,c,q,C,st,n,rfl,_⟩:=h
  rfl
 ·obtain ⟨p,c,q,C,st,n,rfl,ho,hC,ok,hq,sok,hcan,k⟩:=h
  obtain⟨hl,i,rfl,hi,hcb⟩:=q2k hcan
  obtain⟨dx,hp⟩:=ho.ex
  refine⟨_,(qg (qm (qz wj hr (by decide) rfl (qa (pv 2) (qa (qt (v:= .int 4) rfl wD ⟨_,rfl⟩) (qa (qj (qf K) (q3V (k:=1) (hr.mono (by decide)) (pv 0) (qa (pv 1) qd)) (qt (v:= .int 1) rfl wn ⟨_,rfl⟩) (fun _ _=>rfl)) qd)))))),?_⟩
  walk_at "r"
  refine r_vm hp vo (q3t _ _) ?_
  walk_at "r"
  refine⟨p,c,C,i,rfl,ho,hC,hi,fun r hrow=>?_⟩
  obtain⟨x,hx,hP⟩:=hrow
  replace hP:H r=some (.tup [.int x.1,.int x.2]):=hP
  have edone:q0N C st .turn (i:Int)={st with wt:=x.2}:=by
   show q1z C st ((i:Int)).toNat .turn=_
   rw[zh];simp[q1z,hx]
  rw[edone] at k
  walk_at "r"
  exact⟨q,st,4,_,rfl,by decide,hq,fun r H' s' hr'=>k r H' s' hr'⟩
theorem q4l (T:Txt mg cs)(D:DCl K cs .unlock)(L:LaidM K cs.Unlock "done" "Unlock.done" q1f ["self","cellar","stand"])(wj:Cal P w K mg base 1 "changed" ["parts","place","part"] q6h):VMeth P w K mg base 2 (dcls cs .unlock) "done" ["self","cellar","stand"] (q3N cs .unlock):=by
 obtain⟨t1,wm⟩:=T.wm
 refine LaidM.vm (k:=1) L D.cl q4p (fun vs H Q E h=>?_) (fun f cdv A outer s H vs Q E hr h=>?_)
 ·obtain ⟨p,c,q,C,st,n,rfl,_⟩:=h
  rfl
 ·obtain ⟨p,c,q,C,st,n,rfl,ho,hC,ok,hq,sok,hcan,k⟩:=h
  obtain⟨hl,i,rfl,hi,hcb⟩:=q2k hcan
  obtain⟨dx,hp⟩:=ho.ex
  have hq':H q=some (.tup [.int st.rm,.int st.tk,.int st.op,.int st.b,.int st.wt]):=hq
  have hi20:(i:Int)<20:=by have h2:i<C.ways.length:=hi;have:=ok.wl;omega
  have hb:bit st.op i=false:=by
   have h2:i<C.ways.length:=hi
   cases hk:C.ways[i].g.dk with
   |none=>simp[canB,h2,hk] at hcb
   |some kd=>
    simp only[canB,yB h2,hk,Bool.and_eq_true,Bool.not_eq_true'] at hcb
    exact hcb.1.2
  have edone:q0N C st .unlock (i:Int)={st with op:=st.op+2 ^ i}:=by
   show q1z C st ((i:Int)).toNat .unlock=_
   rw[zh];rfl
  rw[edone] at k
  refine⟨_,(qg (qm (qz wj hr (by decide) rfl (qa (pv 2) (qa (qt (v:= .int 2) rfl wm ⟨_,rfl⟩) (qa (qi qbH (qj (qf K) (pv 2) (qt (v:= .int 2) rfl wm ⟨_,rfl⟩) (fun _ _=>rfl)) (qi q28 qb (q0B K (pv 0) rfl))) qd)))))),?_⟩
  walk_at "r"
  refine q1B hp D.cl D.nn (q0m _ _) ?_
  walk_at "r"
  rw[zh,zaF,q9p hb]
  exact⟨q,st,2,_,rfl,by decide,hq,fun r H' s' hr'=>k r H' s' hr'⟩
def DAt (cs:Cs)(H:Hp)(p:Addr)(x:Wd×Nat):Prop:=DObj cs H p x.1 ((x.2:Nat):Int)
def TAt (H:Hp)(p:Addr)(x:Wd×Nat):Prop:=H p=some (.tup [.str x.1.str,.int ((x.2:Nat):Int)])
theorem DAt.mono {cs:Cs}{H H':Hp}(s:Same H H'){p:Addr}{x:Wd×Nat}(h:DAt cs H p x):DAt cs H' p x:=DObj.mono s h
theorem TAt.mono {H H':Hp}(s:q0o H H'){p:Addr}{x:Wd×Nat}(h:TAt H p x):TAt H' p x:=s _ _ h
theorem DAt.put {cs:Cs}{H:Hp}{D:Addr}{xs:List V}{o:HO}(hD:H D=some (.lst xs)){p:Addr}{x:Wd×Nat}(h:DAt cs H p x):DAt cs (upd H D o) p x:=by
 obtain⟨dx,hp⟩:=h.ex
 exact⟨dx,by rw[qw (q4V hp hD (by intro z;cases z))];exact hp⟩
theorem qS {α:Type}{At:Hp->Addr->α->Prop}{H:Hp}{D x:Addr}{ps:List Addr}{xs:List α}{y:α}(mo:∀q z,At H q z->At (upd H D (.lst (ps.map V.ref++[.ref x]))) q z)(hr:Rows At H ps xs)(hx:At H x y):qI At (upd H D (.lst (ps.map V.ref++[.ref x]))) D (xs++[y]):=
 ⟨ps++[x],by rw[qc,zv];rfl,(hr.mono mo).snoc (mo _ _ hx)⟩
theorem q3B {α:Type}{At:Hp->Addr->α->Prop}{H:Hp}{ps qs:List Addr}{xs ys:List α}(a:Rows At H ps xs)(b:Rows At H qs ys):Rows At H (ps++qs) (xs++ys):=by
 refine⟨by rw[zk,zk,a.1,b.1],fun i p x h1 h2=>?_⟩
 by_cases hi:i<ps.length
 ·rw [zI hi] at h1
  rw[zI (by rw[<-a.1];exact hi)] at h2
  exact a.2 i p x h1 h2
 ·rw [zF (by omega)] at h1
  rw[zF (by rw[<-a.1];omega),<-a.1] at h2
  exact b.2 _ p x h1 h2
def q87 (cs:Cs):Sp:=fun vs H Q _=>∃(c:Addr) (C:Cl),vs=[.ref c]/\ClAt H c C/\ClOk C/\∀(l:Addr) (H':Hp),Same H H'->H l=none->qI (DAt cs) H' l (rowD .go C.ways.length)->Q (.ref l) H'
def q8c (cs:Cs):Sp:=fun vs H Q _=>∃(c:Addr) (C:Cl),vs=[.ref c]/\ClAt H c C/\ClOk C/\∀(l:Addr) (H':Hp),Same H H'->H l=none->qI (DAt cs) H' l (allD C)->Q (.ref l) H'
def q88 (cs:Cs):Sp:=fun vs H Q _=>∃(c q:Addr) (C:Cl) (s:Sd),vs=[.ref c,.ref q]/\ClAt H c C/\ClOk C/\H q=some (.tup s.vs)/\s.ok C/\∀(l:Addr) (H':Hp),Same H H'->H l=none->qI (DAt cs) H' l (fitD C s)->Q (.ref l) H'
theorem q31 {H0 H':Hp}{D:Addr}{d:Wd}{i:Nat}{v:Option V}{ps:List Addr}{x dx:Addr}(hD:H0 D=none)(s2:Same H0 H')(hi:i<100)(hps:H' D=some (.lst (ps.map V.ref)))(hrw:Rows (DAt cs) H' ps (rowD d i))(hx:H' x=none)(hdx:H' dx=none)(ne:dx≠x):
  q2a cs d (.ref x::([.int (0+((i:Nat):Int))]++[])) (upd (upd H' dx (.own x)) x (.ins (dcls cs d) dx [])) (fun w H2=>w= .non/\∃ys,H2 D=some (.lst ys)/\ys.length<sizeLine/\∃v0,([v]:St)=[v0]/\Same H0 (upd H2 D (.lst (ys++[.ref x])))/\qI (DAt cs) (upd H2 D (.lst (ys++[.ref x]))) D (rowD d (i+1))) E0:=by
 have big:=qE
 rw[zas]
 refine q8A (Q:=fun y H2=>∃ys,H2 D=some (.lst ys)/\ys.length<sizeLine/\∃v0,([v]:St)=[v0]/\Same H0 (upd H2 D (.lst (ys++[y])))/\qI (DAt cs) (upd H2 D (.lst (ys++[y]))) D (rowD d (i+1))) hx hdx ne fun x H3 s3 hx0 hob=>?_
 have hp3:=s3 _ _ hps
 refine⟨_,hp3,by rw[yC,hrw.1,q32];omega,_,rfl,(s2.trans s3).put hD,?_⟩
 rw[q5N]
 exact qS (fun _ _=>DAt.put hp3) (hrw.mono fun _ _=>DAt.mono s3) hob
theorem qbS (T:Txt mg cs)(L:Laid K mg "all_goes" q1A ["cellar"])(vi:Makes P w K mg base 2 "Go" cs.Go ["self","number"] (q2a cs .go)):Cal P w K mg base 4 "all_goes" ["cellar"] (q87 cs):=by
 obtain⟨t1,wC⟩:=T.wC
 refine L.cal (k:=3) q6m (fun vs H Q E h=>?_) (fun f cdv A outer s H vs Q E hr h=>?_)
 ·obtain ⟨c,C,rfl,_⟩:=h
  rfl
 ·obtain ⟨c,C,rfl,hC,ok,k⟩:=h
  obtain⟨pw,pt,pl,pv',h0,hw,ht,hl,hv⟩:=hC.ex
  obtain⟨wv,hwv,hwl,hwg⟩:=hw.get
  have okw:=ok.wl
  have hwl2:(wv.length:Int)<=20:=by omega
  refine⟨_,(qg (qm (q0C (q0p (N:=["number"]) (own:=1) (caps:=[]) ["cellar"] (qh q1A) (by walk_at "k")) rfl (q03 rfl T.wu (qa (qx (lenK K) rfl T.wf q02 (qa (qj (qf K) (pv 0) (qt (v:= .int 3) rfl wC ⟨_,rfl⟩) (fun _ _=>rfl)) qd)) qd)) (fun _ _ _ _=>(qk (i:=0) (show List.Nodup (["number"]:List Str) by walk_at "k") rfl (Or.inl rfl))) (fun _ _ _ _=>q18) (fun _ _ _ _=>(q2E vi hr (by decide) rfl (qa (pv 0) qd)))))),?_⟩
  walk_at "r"
  intro D hD
  refine q2w (fun i σ H'=>∃v0,σ=[v0]/\Same H H'/\qI (DAt cs) H' D (rowD .go i)) ⟨none,rfl,Same.upd hD,⟨[],qc,Rows.nil⟩⟩ ?_ ?_
  ·rintro i σ H' hi ⟨v0,rfl,s2,ps,hps,hrw⟩
   walk_at "r"
   exact fun x dx hx hdx ne => q31 hD s2 (by have:i<wv.length:=by simpa using hi
                                             omega) hps hrw hx hdx ne
  ·rintro σ H' ⟨v0,rfl,s2,hlst⟩
   rw[zh,hwl] at hlst
   exact k D H' s2 hD hlst
theorem qbV (T:Txt mg cs)(L:Laid K mg "all_deeds" q0s ["cellar"])(vK:Cal P w K mg base 4 "all_goes" ["cellar"] (q87 cs))(wH:Makes P w K mg base 2 "Pull" cs.Pull ["self","number"] (q2a cs .pull))(wF:Makes P w K mg base 2 "Take" cs.Take ["self","number"] (q2a cs .take))
  (wG:Makes P w K mg base 2 "Turn" cs.Turn ["self","number"] (q2a cs .turn))(wA:Makes P w K mg base 2 "Unlock" cs.Unlock ["self","number"] (q2a cs .unlock)):Cal P w K mg base 5 "all_deeds" ["cellar"] (q8c cs):=by
 obtain⟨t1,wC⟩:=T.wC
 obtain⟨t2,wX⟩:=T.wX
 obtain⟨t3,wz⟩:=T.wz
 obtain⟨t4,wW⟩:=T.wW
 refine L.cal (k:=4) q0X (fun vs H Q E h=>?_) (fun f cdv A outer s H vs Q E hr h=>?_)
 ·obtain ⟨c,C,rfl,_⟩:=h
  rfl
 ·obtain ⟨c,C,rfl,hC,ok,k⟩:=h
  have big:=qE
  obtain⟨pw,pt,pl,pv',h0,hw,ht,hl,hv⟩:=hC.ex
  obtain⟨wv,hwv,hwl,hwg⟩:=hw.get
  obtain⟨tv,htv,htl,htg⟩:=ht.get
  obtain⟨lv,hlv,hll,hlg⟩:=hl.get
  obtain⟨vv,hvv,hvl,hvg⟩:=hv.get
  have okw:=ok.wl
  have okt:=ok.tl
  have okl:=ok.ll
  have okv:=ok.vl
  have hwl2:(wv.length:Int)<=20:=by omega
  have htl2:(tv.length:Int)<=8:=by omega
  have hll2:(lv.length:Int)<=4:=by omega
  have hvl2:(vv.length:Int)<=4:=by omega
  refine⟨_,(qe (q2g (i:=1) q0X.nd rfl rfl (q0p (N:=["number"]) (own:=1) (caps:=[]) ["cellar","pulls","takes","turns","unlocks"] (qh q0s) (by walk_at "k")) rfl (q03 rfl T.wu (qa (qx (lenK K) rfl T.wf q02 (qa (qj (qf K) (pv 0) (qt (v:= .int 5) rfl wX ⟨_,rfl⟩) (fun _ _=>rfl)) qd)) qd)) (fun _ _ _ _=>(qk (i:=0) (show List.Nodup (["number"]:List Str) by walk_at "k") rfl (Or.inl rfl))) (fun _ _ _ _=>q18) (fun _ _ _ _=>(q2E wH hr (by decide) rfl (qa (pv 0) qd))))
   (qe (q2g (i:=2) q0X.nd rfl rfl (q0p (N:=["number"]) (own:=1) (caps:=[]) ["cellar","pulls","takes","turns","unlocks"] (qh q0s) (by walk_at "k")) rfl (q03 rfl T.wu (qa (qx (lenK K) rfl T.wf q02 (qa (qj (qf K) (pv 0) (qt (v:= .int 4) rfl wz ⟨_,rfl⟩) (fun _ _=>rfl)) qd)) qd)) (fun _ _ _ _=>(qk (i:=0) (show List.Nodup (["number"]:List Str) by walk_at "k") rfl (Or.inl rfl))) (fun _ _ _ _=>q18) (fun _ _ _ _=>(q2E wF hr (by decide) rfl (qa (pv 0) qd))))
   (qe (q2g (i:=3) q0X.nd rfl rfl (q0p (N:=["number"]) (own:=1) (caps:=[]) ["cellar","pulls","takes","turns","unlocks"] (qh q0s) (by walk_at "k")) rfl (q03 rfl T.wu (qa (qx (lenK K) rfl T.wf q02 (qa (qj (qf K) (pv 0) (qt (v:= .int 6) rfl wW ⟨_,rfl⟩) (fun _ _=>rfl)) qd)) qd)) (fun _ _ _ _=>(qk (i:=0) (show List.Nodup (["number"]:List Str) by walk_at "k") rfl (Or.inl rfl))) (fun _ _ _ _=>q18) (fun _ _ _ _=>(q2E wG hr (by decide) rfl (qa (pv 0) qd))))
   (qe (q2g (i:=4) q0X.nd rfl rfl (q0p (N:=["number"]) (own:=1) (caps:=[]) ["cellar","pulls","takes","turns","unlocks"] (qh q0s) (by walk_at "k")) rfl (q03 rfl T.wu (qa (qx (lenK K) rfl T.wf q02 (qa (qj (qf K) (pv 0) (qt (v:= .int 3) rfl wC ⟨_,rfl⟩) (fun _ _=>rfl)) qd)) qd)) (fun _ _ _ _=>(qk (i:=0) (show List.Nodup (["number"]:List Str) by walk_at "k") rfl (Or.inl rfl))) (fun _ _ _ _=>q18) (fun _ _ _ _=>(q2E wA hr (by decide) rfl (qa (pv 0) qd))))
   (qg (qm (qi q19 (qi q19 (qi q19 (qi q19 (qz vK hr (by decide) rfl (qa (pv 0) qd)) (pv 1)) (pv 2)) (pv 3)) (pv 4)))))))),?_⟩
  walk_at "r"
  intro D1 hD1
  refine q2w (fun i σ H'=>∃v0,σ=[v0]/\Same H H'/\qI (DAt cs) H' D1 (rowD .pull i)) ⟨none,rfl,Same.upd hD1,⟨[],qc,Rows.nil⟩⟩ ?_ ?_
  ·rintro i σ H' hi ⟨v0,rfl,s2,ps,hps,hrw⟩
   walk_at "r"
   exact fun x dx hx hdx ne => q31 hD1 s2 (by have:i<lv.length:=by simpa using hi
                                              omega) hps hrw hx hdx ne
  rintro σ H1 ⟨v0,rfl,s1,m1⟩
  rw[zh,hll] at m1
  have h01:=s1 _ _ h0
  have htv1:=s1 _ _ htv
  walk_at "r"
  intro D2 hD2
  refine q2w (fun i σ H'=>∃v0,σ=[v0]/\Same H1 H'/\qI (DAt cs) H' D2 (rowD .take i)) ⟨none,rfl,Same.upd hD2,⟨[],qc,Rows.nil⟩⟩ ?_ ?_
  ·rintro i σ H' hi ⟨v0,rfl,s2,ps,hps,hrw⟩
   walk_at "r"
   exact fun x dx hx hdx ne => q31 hD2 s2 (by have:i<tv.length:=by simpa using hi
                                              omega) hps hrw hx hdx ne
  rintro σ H2 ⟨v0,rfl,s2,m2⟩
  rw[zh,htl] at m2
  have s02:=s1.trans s2
  have h02:=s02 _ _ h0
  have hvv2:=s02 _ _ hvv
  walk_at "r"
  intro D3 hD3
  refine q2w (fun i σ H'=>∃v0,σ=[v0]/\Same H2 H'/\qI (DAt cs) H' D3 (rowD .turn i)) ⟨none,rfl,Same.upd hD3,⟨[],qc,Rows.nil⟩⟩ ?_ ?_
  ·rintro i σ H' hi ⟨v0,rfl,s2,ps,hps,hrw⟩
   walk_at "r"
   exact fun x dx hx hdx ne => q31 hD3 s2 (by have:i<vv.length:=by simpa using hi
                                              omega) hps hrw hx hdx ne
  rintro σ H3 ⟨v0,rfl,s3,m3⟩
  rw[zh,hvl] at m3
  have s03:=s02.trans s3
  have h03:=s03 _ _ h0
  have hwv3:=s03 _ _ hwv
  walk_at "r"
  intro D4 hD4
  refine q2w (fun i σ H'=>∃v0,σ=[v0]/\Same H3 H'/\qI (DAt cs) H' D4 (rowD .unlock i)) ⟨none,rfl,Same.upd hD4,⟨[],qc,Rows.nil⟩⟩ ?_ ?_
  ·rintro i σ H' hi ⟨v0,rfl,s2,ps,hps,hrw⟩
   walk_at "r"
   exact fun x dx hx hdx ne => q31 hD4 s2 (by have:i<wv.length:=by simpa using hi
                                              omega) hps hrw hx hdx ne
  rintro σ H4 ⟨v0,rfl,s4,m4⟩
  rw[zh,hwl] at m4
  have s04:=s03.trans s4
  walk_at "r"
  refine⟨c,C,rfl,hC.mono s04.ts,ok,fun l5 H5 s5 hl5 m5=>?_⟩
  obtain⟨p1,e1,r1⟩:=m1
  obtain⟨p2,e2,r2⟩:=m2
  obtain⟨p3,e3,r3⟩:=m3
  obtain⟨p4,e4,r4⟩:=m4
  obtain⟨p5,e5,r5⟩:=m5
  have n1:=r1.1
  have n2:=r2.1
  have n3:=r3.1
  have n4:=r4.1
  have n5:=r5.1
  rw[q32] at n1 n2 n3 n4 n5
  have s45:=s4.trans s5
  have s35:=s3.trans s45
  have s25:=s2.trans s35
  walk_at "r"
  refine⟨l5,D1,_,_,rfl,rfl,e5,s25 _ _ e1,by simp;omega,fun l6 hl6=>?_⟩
  rw[<-zv]
  have s6:=Same.upd (o:= .lst ((p5++p1).map V.ref)) hl6
  have e6:=qc (H:=H5) (a:=l6) (o:= .lst ((p5++p1).map V.ref))
  generalize upd H5 l6 (.lst ((p5++p1).map V.ref))=H6 at s6 e6 ⊢
  walk_at "r"
  refine⟨l6,D2,_,_,rfl,rfl,e6,s6 _ _ (s35 _ _ e2),by simp;omega,fun l7 hl7=>?_⟩
  rw[<-zv]
  have s7:=Same.upd (o:= .lst ((p5++p1++p2).map V.ref)) hl7
  have e7:=qc (H:=H6) (a:=l7) (o:= .lst ((p5++p1++p2).map V.ref))
  generalize upd H6 l7 (.lst ((p5++p1++p2).map V.ref))=H7 at s7 e7 ⊢
  have s67:=s6.trans s7
  walk_at "r"
  refine⟨l7,D3,_,_,rfl,rfl,e7,s67 _ _ (s45 _ _ e3),by simp;omega,fun l8 hl8=>?_⟩
  rw[<-zv]
  have s8:=Same.upd (o:= .lst ((p5++p1++p2++p3).map V.ref)) hl8
  have e8:=qc (H:=H7) (a:=l8) (o:= .lst ((p5++p1++p2++p3).map V.ref))
  generalize upd H7 l8 (.lst ((p5++p1++p2++p3).map V.ref))=H8 at s8 e8 ⊢
  have s68:=s67.trans s8
  walk_at "r"
  refine⟨l8,D4,_,_,rfl,rfl,e8,s68 _ _ (s5 _ _ e4),by simp;omega,fun l9 hl9=>?_⟩
  rw[<-zv]
  have s9:=Same.upd (o:= .lst ((p5++p1++p2++p3++p4).map V.ref)) hl9
  have e9:=qc (H:=H8) (a:=l9) (o:= .lst ((p5++p1++p2++p3++p4).map V.ref))
  generalize upd H8 l9 (.lst ((p5++p1++p2++p3++p4).map V.ref))=H9 at s9 e9 ⊢
  have s69:=s68.trans s9
  have s09:=(s04.trans s5).trans s69
  refine k l9 H9 s09 ?_ ⟨_,e9,?_⟩
  ·exact (((s04.trans s5).trans s68).free hl9)
  ·exact q3B (q3B (q3B (q3B (r5.mono fun _ _=>DAt.mono s69) (r1.mono fun _ _=>DAt.mono (s25.trans s69))) (r2.mono fun _ _=>DAt.mono (s35.trans s69))) (r3.mono fun _ _=>DAt.mono (s45.trans s69))) (r4.mono fun _ _=>DAt.mono (s5.trans s69))
theorem qbT (T:Txt mg cs)(L:Laid K mg "fit_deeds" q1m ["cellar","stand"])(vH:Cal P w K mg base 5 "all_deeds" ["cellar"] (q8c cs))(vc:∀d,VMeth P w K mg base 6 (dcls cs d) "can" ["self","cellar","stand"] (qbk cs d)):Cal P w K mg base 7 "fit_deeds" ["cellar","stand"] (q88 cs):=by
 refine L.cal (k:=6) q5t (fun vs H Q E h=>?_) (fun f cdv A outer s H vs Q E hr h=>?_)
 ·obtain ⟨c,q,C,st,rfl,_⟩:=h
  rfl
 ·obtain ⟨c,q,C,st,rfl,hC,ok,hq,sok,k⟩:=h
  have big:=qE
  have hal:=q7j ok
  refine⟨_,(qg (qm (q0C (q0p (N:=["deed","cellar","stand"]) (own:=1) (caps:=[0,1]) ["cellar","stand"] (qh q1m) (by walk_at "k")) rfl (qO K (qz vH hr (by decide) rfl (qa (pv 0) qd))) (fun _ _ _ _=>(qk (i:=0) (show List.Nodup (["deed","cellar","stand"]:List Str) by walk_at "k") rfl (Or.inl rfl))) (fun _ _ _ _=>(q3p (q14 (qb0 (k:=6) P w K mg base hr (by decide) (pv 0) (qa (pv 1) (qa (pv 2) qd)))))) (fun _ _ _ _=>(pv 0))))),?_⟩
  walk_at "r"
  refine⟨c,C,rfl,hC,ok,fun l H1 s1 hl0 m1=>?_⟩
  obtain⟨ps,e1,r1⟩:=m1
  walk_at "r"
  intro D hD
  refine q0c (ps.map V.ref) (fun i σ H'=>∃v0,σ=[v0,some (.ref c),some (.ref q)]/\Same H1 H'/\qI (DAt cs) H' D (((allD C).take i).filter fun x=>canD C st x.1 (x.2:Int))) ⟨none,rfl,Same.upd hD,⟨[],qc,Rows.nil⟩⟩ ?_ ?_ ?_
  ·rintro i σ H' ⟨_,rfl,s2,_⟩
   exact SqL.of (s2 _ _ e1)
  ·rintro i x σ H' hx ⟨v0,rfl,s2,qs,hqs,hrw⟩
   have hi:i<(allD C).length:=by have:=(yA hx).1;rw[yC,r1.1] at this;exact this
   obtain⟨p,ep,hob⟩:=r1.get hi
   rw[hx] at ep
   cases ep
   have hob2:=DAt.mono s2 hob
   obtain⟨dx,hp⟩:=hob2.ex
   have s12:=s1.trans s2
   have hqlen:qs.length<=100:=by
    rw[hrw.1]
    refine zab (zaI _ _) ?_
    rw[zl];omega
   walk_at "r"
   refine r_vm hp (vc _) (df_can _ _) ?_
   walk_at "r"
   refine⟨p,c,q,C,st,_,rfl,hob2,hC.mono s12.ts,ok,s12 _ _ hq,sok,fun H3 s3=>?_⟩
   have hq3:=s3 _ _ hqs
   walk_at "r"
   rw[zn hi,zax]
   refine ite2 (fun hc=>?_) (fun hc=>?_)
   ·walk_at "r"
    refine⟨_,hq3,by rw[yC];omega,_,rfl,(s2.trans s3).put hD,?_⟩
    rw[show([(allD C)[i]].filter fun x=>canD C st x.1 (x.2:Int))=[(allD C)[i]] by simp[hc]]
    exact qS (fun _ _=>DAt.put hq3) (hrw.mono fun _ _=>DAt.mono s3) (DAt.mono s3 hob2)
   ·refine ⟨_,rfl,s2.trans s3,qs,hq3,?_⟩
    rw[show([(allD C)[i]].filter fun x=>canD C st x.1 (x.2:Int))=[] by simp[hc],zH]
    exact hrw.mono fun _ _=>DAt.mono s3
  ·rintro σ H' ⟨v0,rfl,s2,m2⟩
   rw[yC,r1.1,zG] at m2
   exact k D H' (s1.trans s2) (s1.free hD) m2
def qaS:Sp:=fun vs H Q _=>∃x y:Int,vs=[.int x,.int y]/\Q (.bl (hasB x y)) H
def q83:Sp:=fun vs H Q _=>∃(p:Addr) (C:Cl),vs=[.ref p]/\ClAt H p C/\ClOk C/\Q (.int (2 ^ C.things.length - 1)) H
def q8a:Sp:=fun vs H Q _=>∃(p:Addr) (C:Cl),vs=[.ref p]/\ClAt H p C/\ClOk C/\∀H',Same H H'->Q (.int (dbs (dsOf C) C.ways.length)) H'
def spIs:Sp:=fun vs H Q _=>∃(p q:Addr) (C:Cl) (xs:List Int),vs=[.ref p,.ref q]/\ClAt H p C/\ClOk C/\H q=some (.tup (xs.map V.int))/\xs.length<=10/\∀H',Same H H'->Q (.bl (stOk C xs)) H'
theorem qbR (T:Txt mg cs)(L:Laid K mg "has_bits_of" q1a ["bits","all_bits"])(ww:Cal P w K mg base 1 "within" ["number","least","most"] q2T):Cal P w K mg base 2 "has_bits_of" ["bits","all_bits"] qaS:=by
 refine L.cal (k:=1) q4n (fun vs H Q E h=>?_) (fun f cdv A outer s H vs Q E hr h=>?_)
 ·obtain ⟨x,y,rfl,_⟩:=h
  rfl
 ·obtain ⟨x,y,rfl,k⟩:=h
  refine⟨_,(qg (qm (q1C (qz ww hr (by decide) rfl (qa (pv 0) (qa qb (qa (pv 1) qd)))) (q27 (qP q01 (qi qbH (pv 0) (pv 1)) (pv 1) (qp _)))))),?_⟩
  walk_at "r"
  refine⟨x,0,y,rfl,?_⟩
  walk_at "r"
  unfold hasB at k
  refine ite2 (fun h=>?_) (fun h=>?_)
  ·rw [h,zay] at k
   walk_at "r"
   exact k
  ·rw [za6] at h
   rw[h,zaz] at k
   exact k
theorem q9W (T:Txt mg cs)(L:Laid K mg "thing_bits" q1o ["cellar"]):Cal P w K mg base 1 "thing_bits" ["cellar"] q83:=by
 obtain⟨t1,wz⟩:=T.wz
 refine L.cal (k:=0) q4N (fun vs H Q E h=>?_) (fun f cdv A outer s H vs Q E hr h=>?_)
 ·obtain ⟨p,C,rfl,_⟩:=h
  rfl
 ·obtain ⟨p,C,rfl,hC,ok,k⟩:=h
  obtain⟨pw,pt,pl,pv',h0,h1,h2,_⟩:=hC.ex
  obtain⟨tv,ht,htl,htg⟩:=h2.get
  have okt:=ok.tl
  have htl2:(tv.length:Int)<=8:=by omega
  refine⟨_,(qg (qm (qi q2h (qi q28 qb (qx (lenK K) rfl T.wf q02 (qa (qj (qf K) (pv 0) (qt (v:= .int 4) rfl wz ⟨_,rfl⟩) (fun _ _=>rfl)) qd))) qb))),?_⟩
  walk_at "r"
  rw[zaF,zh,htl]
  exact k
theorem qa9 (T:Txt mg cs)(L:Laid K mg "door_bits" q1n ["cellar"])(wE:Cal P w K mg base 1 "door_kinds" ["cellar"] spDk):Cal P w K mg base 2 "door_bits" ["cellar"] q8a:=by
 refine L.cal (k:=1) q5u (fun vs H Q E h=>?_) (fun f cdv A outer s H vs Q E hr h=>?_)
 ·obtain ⟨p,C,rfl,_⟩:=h
  rfl
 ·obtain ⟨p,C,rfl,hC,ok,k⟩:=h
  have big:=qE
  have okw:=ok.wl
  refine⟨_,(qg (qm (qx (sumLK K rfl) rfl T.wbn bt_sum (qa (q0C (q0p (N:=["number","kind"]) (own:=2) (caps:=[]) ["cellar"] (qh q1n) (by walk_at "k")) rfl (q5R K rfl T.vn (qa (qz wE hr (by decide) rfl (qa (pv 0) qd)) qd)) (fun _ _ _ _=>(q0g (n:=2) K rfl (qr (qk (i:=0) (show List.Nodup (["number","kind"]:List Str) by walk_at "k") rfl (Or.inl rfl)) (qr (qk (i:=1) (show List.Nodup (["number","kind"]:List Str) by walk_at "k") rfl (Or.inl rfl)) q0f)))) (fun _ _ _ _=>(q3p (q2D (q8q (pv 1))))) (fun _ _ _ _=>(qi q28 qb (pv 0)))) qd)))),?_⟩
  walk_at "r"
  refine⟨p,C,rfl,hC,ok,fun dk H1 s1 hdk0 hdk=>?_⟩
  walk_at "r"
  intro D hD
  refine qaB (C.ways.map fun x=>dkV x.g) (fun i σ H'=>∃v0 v1,σ=[v0,v1]/\Same H1 H'/\∃ms:List Int,H' D=some (.lst (ms.map V.int))/\ms.length<=i/\ms.sum=dbs (dsOf C) i) ⟨none,none,rfl,Same.upd hD,[],qc,zc _,rfl⟩ ?_ ?_ ?_
  ·rintro i σ H' ⟨_,_,rfl,s2,_⟩
   exact SqL.of (s2 _ _ hdk)
  ·rintro i x σ H' T1 hx ⟨v0,v1,rfl,s2,ms,hm,hml,hms⟩ hT1
   have hi:i<C.ways.length:=by have:=(yA hx).1;simpa using this
   have ex:x=dkV C.ways[i].g:=by simpa[hi] using hx.symm
   subst ex
   have eds:dsOf C i=C.ways[i].g.dk:=by simp[dsOf,hi]
   have sT:Same H1 (upd H' T1 (.tup [.int (i:Nat),dkV C.ways[i].g])):=s2.trans (Same.upd hT1)
   have hmT:=q1k (o:= .tup [.int (i:Nat),dkV C.ways[i].g]) hm hT1
   have hi20:((i:Nat):Int)<=20:=by omega
   walk_at "r"
   have en:(!decide (dkV C.ways[i].g=V.non))=(dsOf C i).isSome:=by
    rw[eds]
    unfold dkV
    cases C.ways[i].g.dk with
    |none=>rfl
    |some k=>rfl
   rw[en]
   refine ite2 (fun hs=>?_) (fun hs=>?_)
   ·walk_at "r"
    refine⟨_,hmT,by rw[yC];omega,_,_,rfl,sT.put hD,ms++[2 ^ i],?_,?_,?_⟩
    ·rw [qc,zaF,zh]
     simp
    ·rw [zk,List.length_singleton];omega
    ·show (ms++[2 ^ i]).sum=dbs (dsOf C) i+_
     rw[zj hs,List.sum_append,hms]
     simp
   ·refine ⟨_,_,rfl,sT,ms,hmT,by omega,?_⟩
    show ms.sum=dbs (dsOf C) i+_
    rw[zd hs,hms,zbz]
  ·rintro σ H' ⟨v0,v1,rfl,s2,ms,hm,hml,hms⟩
   rw[yC] at hms
   walk_at "r"
   refine r_sumL (SqL.of hm) ?_
   rw[hms]
   exact k H' (s1.trans s2)
theorem qbP (T:Txt mg cs)(L:Laid K mg "is_stand" q2n ["cellar","thing"])(ww:Cal P w K mg base 1 "within" ["number","least","most"] q2T)(wV:Cal P w K mg base 2 "has_bits_of" ["bits","all_bits"] qaS)(vB:Cal P w K mg base 1 "thing_bits" ["cellar"] q83)
  (vG:Cal P w K mg base 2 "door_bits" ["cellar"] q8a)(vg:Cal P w K mg base 2 "held" ["cellar","stand"] q5r):Cal P w K mg base 3 "is_stand" ["cellar","thing"] spIs:=by
 obtain⟨t1,vw⟩:=T.vw
 obtain⟨t2,wN⟩:=T.wN
 obtain⟨t3,wm⟩:=T.wm
 obtain⟨t4,vO⟩:=T.vO
 obtain⟨t5,wc⟩:=T.wc
 obtain⟨t6,vN⟩:=T.vN
 obtain⟨t7,wB⟩:=T.wB
 obtain⟨t8,va⟩:=T.va
 obtain⟨t9,wD⟩:=T.wD
 refine L.cal (k:=2) q6l (fun vs H Q E h=>?_) (fun f cdv A outer s H vs Q E hr h=>?_)
 ·obtain ⟨p,q,C,xs,rfl,_⟩:=h
  rfl
 ·obtain ⟨p,q,C,xs,rfl,hC,ok,hq,hl,k⟩:=h
  obtain⟨pw,pt,pl,pv',h0,_⟩:=hC.ex
  refine⟨_,(qe (qN (qq q3y (qx (lenK K) rfl T.wf q02 (qa (pv 1) qd)) (qt (v:= .int 5) rfl vO ⟨_,rfl⟩) (qp _)) (qg (qm q1g)) qu)
   (qg (qm (q1C (qz ww hr (by decide) rfl (qa (qj (qf K) (pv 1) (qt (v:= .int 0) rfl wc ⟨_,rfl⟩) (fun _ _=>rfl)) (qa qb (qa (qi q2h (qj (qf K) (pv 0) (qt (v:= .int 0) rfl vN ⟨_,rfl⟩) (fun _ _=>rfl)) qb) qd)))) (q1C (qz wV hr (by decide) rfl (qa (qj (qf K) (pv 1) (qt (v:= .int 1) rfl wB ⟨_,rfl⟩) (fun _ _=>rfl)) (qa (qz vB hr (by decide) rfl (qa (pv 0) qd)) qd))) (q1C (qz wV hr (by decide) rfl (qa (qj (qf K) (pv 1) (qt (v:= .int 2) rfl wm ⟨_,rfl⟩) (fun _ _=>rfl)) (qa (qz vG hr (by decide) rfl (qa (pv 0) qd)) qd))) (q1C (qz ww hr (by decide) rfl (qa (qj (qf K) (pv 1) (qt (v:= .int 3) rfl wN ⟨_,rfl⟩) (fun _ _=>rfl)) (qa qb (qa (qt (v:= .int 255) rfl vw ⟨_,rfl⟩) qd)))) (q1C (qz ww hr (by decide) rfl (qa (qj (qf K) (pv 1) (qt (v:= .int 4) rfl wD ⟨_,rfl⟩) (fun _ _=>rfl)) (qa qb (qa (qt (v:= .int 9) rfl va ⟨_,rfl⟩) qd)))) (q27 (qP q7z (qx (minLK K rfl) rfl T.waq q9l (qa (qz vg hr (by decide) rfl (qa (pv 0) (qa (pv 1) qd))) qd)) qb (qp _))))))))))),?_⟩
  walk_at "r"
  refine ifn (fun hn=>?_) (fun hn=>?_)
  ·walk_at "r"
   have:=k H (Same.refl _)
   rw[q4J (fun z=>hn (by rw[yC,z];rfl))] at this
   exact this
  have hn5:xs.length=5:=by rw[yC] at hn;omega
  obtain⟨rm,tk,op,b,wt,rfl⟩:∃rm tk op b wt,xs=[rm,tk,op,b,wt]:=by
   match xs,hn5 with
   |[rm,tk,op,b,wt],_=>exact⟨rm,tk,op,b,wt,rfl⟩
  replace hq:H q=some (.tup [.int rm,.int tk,.int op,.int b,.int wt]):=hq
  have fls:∀Hn,Same H Hn->stOk C [rm,tk,op,b,wt]=false->Q (.bl false) Hn:=fun Hn sn e=>by have:=k Hn sn;rw[e] at this;exact this
  rw[q3K] at fls k
  have e1:(decide (0<=rm)&&decide (rm<=C.rooms - 1))=decide (0<=rm/\rm<C.rooms):=by
   rw[zY];simp;omega
  have e4:(decide (0<=b)&&decide (b<=255))=decide (0<=b/\b<256):=by
   rw[zY];simp;omega
  have e5:(decide (0<=wt)&&decide (wt<=9))=decide (0<=wt/\wt<10):=by
   rw[zY];simp;omega
  walk_at "r"
  refine⟨rm,0,C.rooms - 1,rfl,?_⟩
  rw[e1]
  walk_at "r"
  refine ite2 (fun c1=>?_) (fun c1=>fls _ (Same.refl _) (by simp[c1]))
  walk_at "r"
  refine⟨p,C,rfl,hC,ok,?_⟩
  walk_at "r"
  refine⟨tk,_,rfl,?_⟩
  rw[qaq]
  walk_at "r"
  refine ite2 (fun c2=>?_) (fun c2=>fls _ (Same.refl _) (by simp[c2]))
  walk_at "r"
  refine⟨p,C,rfl,hC,ok,fun H1 s1=>?_⟩
  have hq1:=s1 _ _ hq
  have hC1:=hC.mono s1.ts
  walk_at "r"
  refine⟨op,_,rfl,?_⟩
  rw[q4B]
  walk_at "r"
  refine ite2 (fun c3=>?_) (fun c3=>fls _ s1 (by rw[za6] at c3;rw[c3];simp))
  walk_at "r"
  refine⟨b,0,255,rfl,?_⟩
  rw[e4]
  walk_at "r"
  refine ite2 (fun c4=>?_) (fun c4=>fls _ s1 (by simp[c4]))
  walk_at "r"
  refine⟨wt,0,9,rfl,?_⟩
  rw[e5]
  walk_at "r"
  refine ite2 (fun c5=>?_) (fun c5=>fls _ s1 (by simp[c5]))
  walk_at "r"
  have hdr:∀i,i<C.ways.length->bit op i=true->(dsOf C i).isSome=true:=fun i hi hb=>by
   have:=(Bool.and_eq_true_iff.mp c3).2
   unfold drs at this
   have:=zav.mp this i (zbA.mpr hi)
   simpa[hb] using this
  refine⟨p,q,C,rm,tk,op,b,wt,rfl,hC1,ok,hq1,hdr,fun r H2 s2 hr0 hr2=>?_⟩
  rw[cl_map] at hr2
  walk_at "r"
  refine r_minL (SqL.of hr2) (by simp) fun M m1 m2=>?_
  walk_at "r"
  have:=k H2 (s1.trans s2)
  rw[qc3 m1 m2,qao]
  rw[c1,c2,c3,c4,c5] at this
  exact this
end
seal L2.PA L2.PE L2.PI L2.PS L2.PSs L2.PG L2.PT
theorem q4E (x:Int)(t:Nat):decide (Builtin.bitAnd (x / 2 ^ t) 1=0)= !bit x t:=by
 unfold bit
 rw[PyProof.Rows.bitAnd_m1,zY]
 simp
 omega
def q9C (K:W.Frag):Sp:=fun vs H Q _=>∃(a:Addr) (ns:List Int),vs=[.ref a]/\SqL K H a (ns.map V.int)/\ns.length<=63/\∀H',Q (.bl true) H'
theorem q0a {H H':Hp}{a:Addr}{o:HO}(e:upd H a o=H')(h:H a=none):Same H H':=e▸Same.upd h
theorem q0b {H H':Hp}{a:Addr}{o:HO}(e:upd H a o=H'):H' a=some o:=e▸qc
theorem q34 {A:Around}{k:Nat}(hr:Room k A):A.units+1+1<cLine:=by have:=hr.un;omega
theorem qI.pairs {H:Hp}{ps:List Addr}{R:List Sd}(h:Rows SAt H ps R):∃l:List (Addr×List Int),l.map (·.1)=ps/\l.map (·.2)=R.map Sd.ns/\∀x∈l,H x.1=some (.tup (x.2.map V.int))/\x.2.length=5:=by
 refine⟨List.zip ps (R.map Sd.ns),?_,?_,fun x hx=>?_⟩
 ·exact List.map_fst_zip (by rw[yC,h.1];exact zc _)
 ·exact List.map_snd_zip (by rw[yC,h.1];exact zc _)
 ·obtain ⟨i,hi,e⟩:=zaP hx
  rw[List.length_zip,yC] at hi
  have hi1:i<ps.length:=by omega
  have hi2:i<R.length:=by omega
  have:=h.2 i ps[i] R[i] (yB hi1) (yB hi2)
  rw[List.getElem_zip] at e
  subst e
  simp only[List.getElem_map]
  exact⟨this,rfl⟩
theorem q4u {H:Hp}{ps:List Addr}{R:List Sd}{l l':List (Addr×List Int)}(h2:l.map (·.2)=R.map Sd.ns)(h3:∀x∈l,H x.1=some (.tup (x.2.map V.int))/\x.2.length=5)(hp:l'.Perm l)(hs:l'.Pairwise fun a b=>¬b.2<a.2):
  ∃R',R'.Perm R/\Ord R'/\Rows SAt H (l'.map (·.1)) R':=by
 have ex:∀x∈l',∃s:Sd,x.2=s.ns:=fun x hx=>by
  have:x.2∈l.map (·.2):=zN.mpr ⟨x,hp.mem_iff.mp hx,rfl⟩
  rw[h2] at this
  obtain⟨s,_,e⟩:=zN.mp this
  exact⟨s,e.symm⟩
 obtain⟨R',hR⟩:∃R':List Sd,l'.map (·.2)=R'.map Sd.ns:=by
  clear hp hs
  induction l' with
  |nil=>exact⟨[],rfl⟩
  |cons x l' ih=>
   obtain⟨R',e⟩:=ih fun y hy=>ex y (zX _ hy)
   obtain⟨s,es⟩:=ex x (.head _)
   exact⟨s::R',by simp[e,es]⟩
 have pm:(R'.map Sd.ns).Perm (R.map Sd.ns):=by rw[<-hR,<-h2];exact hp.map _
 refine⟨R',?_,?_,?_⟩
 ·have inv:∀l:List Sd,(l.map Sd.ns).map (fun k:List Int=>(⟨k.getD 0 0,k.getD 1 0,k.getD 2 0,k.getD 3 0,k.getD 4 0⟩:Sd))=l:=fun l=>by
   rw[zae]
   exact(zaj fun a _=>rfl).trans (zbf l)
  have:=pm.map fun k:List Int=>(⟨k.getD 0 0,k.getD 1 0,k.getD 2 0,k.getD 3 0,k.getD 4 0⟩:Sd)
  rwa [inv,inv] at this
 ·have:(l'.map (·.2)).Pairwise fun a b=>¬b<a:=zbF.mpr hs
  rw[hR] at this
  exact zbF.mp this
 ·have hl:l'.length=R'.length:=by have:=zM List.length hR;simpa using this
  refine⟨by simpa using hl,fun i p x hp' hx=>?_⟩
  have hi:i<R'.length:=(yA hx).1
  have e1:l'[i]'(by omega)∈l':=zx _
  have e2:=(h3 _ (hp.mem_iff.mp e1)).1
  have e3:(l'[i]'(by omega)).1=p:=by simpa[show i<l'.length by omega] using hp'
  have e4:(l'[i]'(by omega)).2=x.ns:=by
   have:=zM (fun z=>z[i]?) hR
   simp only[List.getElem?_map,hx,yB (show i<l'.length by omega),Option.map_some] at this
   exact zD this
  rw[e3,e4] at e2
  exact e2
theorem DAtS.lput {H:Hp}{R D:Addr}{l:Dk}{xs:List V}{o:HO}(hR:H R=some (.lst xs))(h:DAtS H D l):DAtS (upd H R o) D l:=by
 show upd H R o D=_
 rw[qw (q4V h hR (by intro z;cases z))]
 exact h
theorem qaz {H:Hp}{D:Addr}{kvs:List (List Key×V)}{o:HO}(hD:H D=some (.dT kvs)):q0o H (upd H D o):=fun p xs h=>by rw[qw (q4V h hD (by intro z;cases z))];exact h
def Opn (I nx:St->Hp->Prop)(rt:VK)(P:Ends->Prop):Prop:=∀D:Ends,(∀σ H,I σ H->D.nx σ H)->(∀σ H,I σ H->D.ct σ H)->(∀σ H,nx σ H->D.bk σ H)->(∀v H,rt v H->D.rt v H)->P D
section
variable {K:W.Frag}{a:Addr}{g:TG}{tb:TS}{nx:St->Hp->Prop}{rt:VK}{σ:St}{H:Hp}
theorem q24 {lo:Int}{n:Nat}(Pv:Nat->St->Hp->Prop)(h0:Pv 0 σ H)(go:∀i σ H,i<n->Pv i σ H->Opn (Pv (i+1)) nx rt fun D=>g (.int (lo+(i:Nat))) σ H fun σ2 H2=>tb D σ2 H2)(stop:∀σ H,Pv n σ H->nx σ H):ForG (Itr lo n) g tb nx rt σ H:=
 q4b Pv h0 (fun i σ H hi p=>go i σ H hi p ⟨Pv (i+1),rt,nx,Pv (i+1)⟩ (fun _ _ h=>h) (fun _ _ h=>h) (fun _ _ h=>h) fun _ _ h=>h) stop
theorem q1v (xs:List V)(Pv:Nat->St->Hp->Prop)(h0:Pv 0 σ H)(hl:∀i σ H,Pv i σ H->SqL K H a xs)(go:∀i x σ H,xs[i]? =some x->Pv i σ H->Opn (Pv (i+1)) nx rt fun D=>g x σ H fun σ2 H2=>tb D σ2 H2)(stop:∀σ H,Pv xs.length σ H->nx σ H):ForG (Itl K a) g tb nx rt σ H:=
 q8O xs Pv h0 hl (fun i x σ H hx p=>go i x σ H hx p ⟨Pv (i+1),rt,nx,Pv (i+1)⟩ (fun _ _ h=>h) (fun _ _ h=>h) (fun _ _ h=>h) fun _ _ h=>h) stop
end
def q6i (K:W.Frag):Sp:=fun vs H Q _=>∃(a:Addr) (ns:List Int) (i:Int),vs=[.ref a,.int i]/\SqL K H a (ns.map V.int)/\ns.length<=63/\0<=i/\Q (.int (ns.getD i.toNat 0)) H
section
variable {P:Program}{w:World}{K:W.Frag}{mg:Str->Option Value}{base:Heap}{cs:Cs}
theorem qaa (T:Txt mg cs)(L:Laid K mg "_law_cell_at" q0T ["_law_script","_law_k"]):Cal P w K mg base 1 "_law_cell_at" ["_law_script","_law_k"] (q6i K):=by
 refine L.cal (k:=0) q3O (fun vs H Q E h=>?_) (fun f cdv A outer s H vs Q E hr h=>?_)
 ·obtain ⟨a,ns,i,rfl,_⟩:=h
  rfl
 ·obtain ⟨a,ns,i,rfl,hS,hl,h0,k⟩:=h
  refine⟨_,(qe (qN (qq q4q (pv 1) (qx (lenK K) rfl T.wf q02 (qa (pv 0) qd)) (qp _)) (qg (qm (qj (qM K) (pv 0) (pv 1) (fun _ _=>rfl)))) qu)
   (qg (qm qb))),?_⟩
  walk_at "r"
  refine ifd (fun h=>?_) (fun h=>?_)
  ·rw [yC] at h
   obtain⟨j,rfl⟩:∃j:Nat,i=(j:Int):=⟨i.toNat,by omega⟩
   walk_at "r"
   refine q2d hS (q53 (by omega)) ?_
   rw[zh] at k
   exact k
  ·rw [yC] at h
   walk_at "r"
   rw[show ns.getD i.toNat 0=0 by simp[List.getD,show ns.length<=i.toNat by omega]] at k
   exact k
def PrAt (C:Cl)(s:Sd)(H:Hp)(p:Addr)(x:Wd×Nat):Prop:=∃t r,H p=some (.tup [.ref t,.ref r])/\TAt H t x/\SAt H r (q0N C s x.1 (x.2:Int))
theorem PrAt.mono {C:Cl}{s:Sd}{H H':Hp}(ts:q0o H H'){p:Addr}{x:Wd×Nat}(h:PrAt C s H p x):PrAt C s H' p x:=let ⟨t,r,a,b,c⟩:=h;⟨t,r,ts _ _ a,ts _ _ b,ts _ _ c⟩
def q2L:Sp:=fun vs H Q _=>∃(c q:Addr) (C:Cl) (s:Sd),vs=[.ref c,.ref q]/\ClAt H c C/\ClOk C/\SAt H q s/\s.ok C/\∀(l:Addr) (H':Hp),Same H H'->H l=none->qI (PrAt C s) H' l (fitD C s)->Q (.ref l) H'
theorem qa1 (T:Txt mg cs)(L:Laid K mg "leads" q3P ["cellar","stand"])(vF:Cal P w K mg base 7 "fit_deeds" ["cellar","stand"] (q88 cs))(vt:∀d,VMeth P w K mg base 1 (dcls cs d) "told" ["self"] (q6g cs d))(vd:∀d,VMeth P w K mg base 2 (dcls cs d) "done" ["self","cellar","stand"] (q3N cs d)):Cal P w K mg base 8 "leads" ["cellar","stand"] q2L:=by
 refine L.cal (k:=7) q9E (fun vs H Q E h=>?_) (fun f cdv A outer s H vs Q E hr h=>?_)
 ·obtain ⟨c,q,C,st,rfl,_⟩:=h
  rfl
 ·obtain ⟨c,q,C,st,rfl,hC,ok,hq,sok,k⟩:=h
  have big:=qE
  have hal:=qax ok st
  refine⟨_,(qg (qm (q0C (q0p (N:=["deed","cellar","stand"]) (own:=1) (caps:=[0,1]) ["cellar","stand"] (qh q3P) (by walk_at "k")) rfl (qO K (qz vF hr (by decide) rfl (qa (pv 0) (qa (pv 1) qd)))) (fun _ _ _ _=>(qk (i:=0) (show List.Nodup (["deed","cellar","stand"]:List Str) by walk_at "k") rfl (Or.inl rfl))) (fun _ _ _ _=>q18) (fun _ _ _ _=>(qA (qa (qbD (k:=1) P w K mg base hr (by decide) (pv 0)) (qa (qb0 (k:=2) P w K mg base hr (by decide) (pv 0) (qa (pv 1) (qa (pv 2) qd))) qd))))))),?_⟩
  walk_at "r"
  refine⟨c,q,C,st,rfl,hC,ok,hq,sok,fun l H1 s1 hl0 m1=>?_⟩
  obtain⟨ps,e1,r1⟩:=m1
  walk_at "r"
  intro D hD
  refine q0c (ps.map V.ref) (fun i σ H'=>∃v0,σ=[v0,some (.ref c),some (.ref q)]/\Same H1 H'/\qI (PrAt C st) H' D ((fitD C st).take i)) ⟨none,rfl,Same.upd hD,⟨[],qc,Rows.nil⟩⟩ ?_ ?_ ?_
  ·rintro i σ H' ⟨_,rfl,s2,_⟩
   exact SqL.of (s2 _ _ e1)
  ·rintro i x σ H' hx ⟨v0,rfl,s2,qs,hqs,hrw⟩
   have hi:i<(fitD C st).length:=by have:=(yA hx).1;rw[yC,r1.1] at this;exact this
   obtain⟨p,ep,hob⟩:=r1.get hi
   rw[hx] at ep
   cases ep
   have hc:canD C st (fitD C st)[i].1 ((fitD C st)[i].2:Int)=true:=q76.mp (zx hi)
   have hob2:=DAt.mono s2 hob
   obtain⟨dx,hp⟩:=hob2.ex
   have hqlen:qs.length<=100:=by
    rw[hrw.1,zl];omega
   have s12:=s1.trans s2
   walk_at "r"
   refine r_vm hp (vt _) (qcl _ _) ?_
   refine⟨p,_,rfl,hob2,fun t H3 s3 ht3=>?_⟩
   have hq3:=s3 _ _ hqs
   have hob3:=DAt.mono s3 hob2
   obtain⟨dx3,hp3⟩:=hob3.ex
   have s13:=s12.trans s3
   walk_at "r"
   refine r_vm hp3 (vd _) (qcn _ _) ?_
   walk_at "r"
   refine⟨p,c,q,C,st,_,rfl,hob3,hC.mono s13.ts,ok,s13 _ _ hq,sok,hc,fun r H4 s4 hr4=>?_⟩
   have hq4:=s4 _ _ hq3
   walk_at "r"
   intro z hz
   have s5:=Same.upd (o:= .tup [.ref t,.ref r]) hz
   have hq5:=s5 _ _ hq4
   have hz5:=qc (H:=H4) (a:=z) (o:= .tup [.ref t,.ref r])
   generalize upd H4 z (.tup [.ref t,.ref r])=H5 at s5 hq5 hz5 ⊢
   refine⟨_,hq5,by rw[yC];omega,_,rfl,(((s2.trans s3).trans s4).trans s5).put hD,?_⟩
   rw[zn hi]
   exact qS (fun _ _ h=>PrAt.mono (q0o.lst hq5) h) (hrw.mono fun _ _=>PrAt.mono ((s3.trans s4).trans s5).ts) ⟨t,r,hz5,(s4.trans s5) _ _ ht3,s5 _ _ hr4⟩
  ·rintro σ H' ⟨v0,rfl,s2,m2⟩
   rw[yC,r1.1,zG] at m2
   exact k D H' (s1.trans s2) (s1.free hD) m2
def q3L:Sp:=fun vs H Q _=>∃(c q:Addr) (C:Cl) (s:Sd) (kd:Int),vs=[.ref c,.ref q,.int kd]/\ClAt H c C/\ClOk C/\SAt H q s/\∀H',Same H H'->Q (.int (hold C s.tk s.op kd)) H'
def q85:Sp:=fun vs H Q _=>∃(c q:Addr) (C:Cl) (s:Sd) (i:Nat) (x:Way),vs=[.ref c,.ref q,.int i]/\ClAt H c C/\ClOk C/\SAt H q s/\C.ways[i]? =some x/\∀H',Same H H'->Q (.bl (q44 x.g (hold C s.tk s.op) (bit s.op i) s.b s.wt)) H'
theorem q4D (x:Int)(t:Nat):Builtin.bitAnd (x / 2 ^ t) 1=if bit x t=true then 1 else 0:=by
 have a:=q2x x t
 have b:=q4E x t
 cases h:bit x t with
 |true=>rw[h] at a;rw[zj rfl];exact zaN a
 |false=>rw[h] at b;rw[zd zp];exact zaN b
local macro_rules| `(tactic| walk_at "wk")=> `(tactic| repeat (first|walk_at "rd1" |(refine ifd (fun h=>absurd h (by decide)) (fun _=>?_))|(refine ifd (fun _=>?_) (fun h=>absurd (by decide) h))))
theorem q8x (T:Txt mg cs)(L:Laid K mg "_law_amount" q1c ["_law_cave_here","_law_stand","_law_kind"]):Cal P w K mg base 1 "_law_amount" ["_law_cave_here","_law_stand","_law_kind"] q3L:=by
 refine L.cal (k:=0) q0n (fun vs H Q E h=>?_) (fun f cdv A outer s H vs Q E hr h=>?_)
 ·obtain ⟨c,q,C,st,kd,rfl,_⟩:=h
  rfl
 ·obtain ⟨c,q,C,st,kd,rfl,hC,ok,hq,k⟩:=h
  obtain⟨pw,pt,pl,pv',h0,h1,h2,_⟩:=hC.ex
  obtain⟨wv,hw,hwl,hwg⟩:=h1.get
  obtain⟨tv,ht,htl,htg⟩:=h2.get
  have hq:H q=some (.tup [.int st.rm,.int st.tk,.int st.op,.int st.b,.int st.wt]):=hq
  have big:=qE
  have hu:=zbj (qan hr)
  have okw:=ok.wl
  have okt:=ok.tl
  have htl2:(tv.length:Int)<=8:=by omega
  have hwl2:(wv.length:Int)<=20:=by omega
  refine⟨_,(qe (qv (i:=3) q0n.nd rfl (Or.inl rfl) qb)
   (qe (q0z PassesOwn.never rfl (q03 rfl T.wu (qa (qx (lenK K) rfl T.wf q02 (qa (qj (qf K) (pv 0) qb (fun _ _=>rfl)) qd)) qd)) (qk (i:=4) q0n.nd rfl (Or.inl rfl)) (qg (qv (i:=3) q0n.nd rfl (Or.inl rfl) (qi q05 (pv 3) (qi q3Z (q0L int1 rfl T.war q9n (qa (qP q01 (qj (qf K) (qj (qf K) (qj (qf K) (pv 0) qb (fun _ _=>rfl)) (pv 4) (fun _ _=>rfl)) qb (fun _ _=>rfl)) (pv 2) (qp _)) qd)) (qi q41 (qi q4y (qj (qf K) (pv 1) qb (fun _ _=>rfl)) (pv 4)) qb))))))
   (qe (q0z PassesOwn.never rfl (q03 rfl T.wu (qa (qx (lenK K) rfl T.wf q02 (qa (qj (qf K) (pv 0) qb (fun _ _=>rfl)) qd)) qd)) (qk (i:=4) q0n.nd rfl (Or.inl rfl)) (qg (qv (i:=3) q0n.nd rfl (Or.inl rfl) (qi q2h (pv 3) (qi q3Z (q0L int1 rfl T.war q9n (qa (qP (qbI K hu) (qj (qf K) (qj (qf K) (qj (qf K) (pv 0) qb (fun _ _=>rfl)) (pv 4) (fun _ _=>rfl)) qb (fun _ _=>rfl)) (qA (qa qL (qa (pv 2) qd))) (qp _)) qd)) (qi q41 (qi q4y (qj (qf K) (pv 1) qb (fun _ _=>rfl)) (pv 4)) qb))))))
   (qg (qm (pv 3)))))),?_⟩
  walk_at "r"
  refine q4b (fun i σ H'=>∃v4,σ=[some (.ref c),some (.ref q),some (.int kd),some (.int (cnt (tP C st.tk kd) i:Int)),v4]/\H'=H) ⟨none,rfl,rfl⟩ ?_ ?_
  ·rintro i σ H' hi ⟨v4,rfl,rfl⟩
   have hi2:i<C.things.length:=by rw[<-htl];simpa using hi
   obtain⟨p2,hx,hp2⟩:=htg i hi2
   have step:=q97 (C:=C) (tk:=st.tk) (k:=kd) hi2
   have hp3:H' p2=_:=hp2
   walk_at "r"
   refine⟨some (.int (0+(i:Nat))),?_,rfl⟩
   rw[zas (i:Int),zh,q4D,step]
   show [_,_,_,some (V.int (_+_)),_]=_
   congr 5
   by_cases e1:C.things[i].2=kd
   ·rw [zj (ze e1),zaF,zj e1.symm]
   ·rw [zd (by simpa using e1),Int.zero_mul,zd (show¬kd=C.things[i].2 from fun z=>e1 z.symm)]
    split<;>rfl
  ·rintro σ H' ⟨v4,rfl,rfl⟩
   have e1:(↑tv.length:Int).toNat=C.things.length:=by rw[zh,htl]
   rw[e1]
   walk_at "r"
   refine q4b (fun i σ H2=>∃v4,σ=[some (.ref c),some (.ref q),some (.int kd),some (.int ((cnt (tP C st.tk kd) C.things.length:Int) - (cnt (dP (dsOf C) st.op kd) i:Int))),v4]/\Same H' H2) ⟨v4,by rw[show(cnt (dP (dsOf C) st.op kd) 0:Int)=0 from rfl,Int.sub_zero],Same.refl _⟩ ?_ ?_
   ·rintro i σ H2 hi ⟨v4,rfl,s2⟩
    have hi2:i<C.ways.length:=by rw[<-hwl];simpa using hi
    obtain⟨p2,hx,g2,hp2,hg2⟩:=hwg i hi2
    have hp3:=s2 _ _ hp2
    have hg3:=s2 _ _ hg2
    have h0c:=s2 _ _ h0
    have hwc:=s2 _ _ hw
    have step:=q99 (C:=C) (op:=st.op) (k:=kd) hi2
    walk_at "r"
    intro t5 ht5
    have s5:Same H2 (upd H2 t5 (.tup [.str "door",.int kd])):=Same.upd ht5
    have hq5:=(s2.trans s5) _ _ hq
    refine⟨g2,t5,_,_,rfl,rfl,SqT.of (s5 _ _ hg3),SqT.of qc,Gt.flat _,rfl,?_⟩
    rw[qch]
    walk_at "r"
    refine⟨some (.int (0+(i:Nat))),?_,s2.trans s5⟩
    rw[zas (i:Int),zh,q4D,step]
    show [_,_,_,some (V.int (_ - _)),_]=_
    congr 5
    by_cases e1:C.ways[i].g.dk=some kd
    ·rw [zj (ze e1),zaF,zj e1,Int.sub_sub]
    ·rw [zd (by simpa using e1),Int.zero_mul,zd e1,Int.sub_zero]
     split<;>rw[zbz]
   ·rintro σ H2 ⟨v4,rfl,s2⟩
    have e2:(↑wv.length:Int).toNat=C.ways.length:=by rw[zh,hwl]
    rw[e2]
    walk_at "r"
    exact k H2 s2
theorem qa0 (T:Txt mg cs)(L:Laid K mg "_law_lets" q1J ["_law_cave_here","_law_stand","_law_k"])(wq:Cal P w K mg base 1 "_law_amount" ["_law_cave_here","_law_stand","_law_kind"] q3L):Cal P w K mg base 2 "_law_lets" ["_law_cave_here","_law_stand","_law_k"] q85:=by
 refine L.cal (k:=1) q3m (fun vs H Q E h=>?_) (fun f cdv A outer s H vs Q E hr h=>?_)
 ·obtain ⟨c,q,C,st,i,x,rfl,_⟩:=h
  rfl
 ·obtain ⟨c,q,C,st,i,x,rfl,hC,ok,hq,hx,k⟩:=h
  obtain⟨pw,pt,pl,pv',h0,h1,_⟩:=hC.ex
  obtain⟨wv,hw,hwl,hwg⟩:=h1.get
  have hi:i<C.ways.length:=(yA hx).1
  have ex:C.ways[i]=x:=(yA hx).2
  obtain⟨p2,hxp,g2,hp2,hg2⟩:=hwg i hi
  have hxa:atI wv (i:Int)=some (.ref p2):=q0H hxp
  have okx:=ok.w x (zbn hx)
  rw[ex] at hp2 hg2
  have hq':H q=some (.tup [.int st.rm,.int st.tk,.int st.op,.int st.b,.int st.wt]):=hq
  refine⟨_,(qe (qv (i:=3) q3m.nd rfl (Or.inl rfl) (qj (qf K) (qj (qf K) (qj (qf K) (pv 0) qb (fun _ _=>rfl)) (pv 2) (fun _ _=>rfl)) qb (fun _ _=>rfl)))
   (qe (qN (qq q01 (qj (qf K) (pv 3) qb (fun _ _=>rfl)) qL (qp _)) (qg (qm (qP q01 (qi q41 (qi q4y (qj (qf K) (pv 1) qb (fun _ _=>rfl)) (pv 2)) qb) qb (qp _)))) qu)
   (qe (qN (qq q01 (qj (qf K) (pv 3) qb (fun _ _=>rfl)) qL (qp _)) (qg (qm (qP q40 (qz wq hr (by decide) rfl (qa (pv 0) (qa (pv 1) (qa (qj (qf K) (pv 3) qb (fun _ _=>rfl)) qd)))) qb (qp _)))) qu)
   (qe (qN (qq q01 (qj (qf K) (pv 3) qb (fun _ _=>rfl)) qL (qp _)) (qg (qm (qP q01 (qi q41 (qi q4y (qj (qf K) (pv 1) qb (fun _ _=>rfl)) (qj (qf K) (pv 3) qb (fun _ _=>rfl))) qb) qb (qp _)))) qu)
   (qe (qN (qq q01 (qj (qf K) (pv 3) qb (fun _ _=>rfl)) qL (qp _)) (qg (qm (q9Q (qP q9V (qj (qf K) (pv 1) qb (fun _ _=>rfl)) (qj (qf K) (pv 3) qb (fun _ _=>rfl)) (qp _)) (q27 (qP q40 (qz wq hr (by decide) rfl (qa (pv 0) (qa (pv 1) (qa (qj (qf K) (pv 3) qb (fun _ _=>rfl)) qd)))) qb (qp _)))))) qu)
   (qg (qm (q9Q (qP q01 (qj (qf K) (pv 3) qb (fun _ _=>rfl)) qL (qp _)) (q27 (qP q7z (qj (qf K) (pv 1) qb (fun _ _=>rfl)) (qj (qf K) (pv 3) qb (fun _ _=>rfl)) (qp _))))))))))),?_⟩
  walk_at "r"
  have gok:=okx.2.2.2
  have held:∀(kd:Int) (Q':VK),(∀H',Same H H'->Q' (.int (hold C st.tk st.op kd)) H')->q3L [.ref c,.ref q,.int kd] H Q' E0:=fun kd Q' q'=>⟨c,q,C,st,kd,rfl,hC,ok,hq,q'⟩
  cases eg:x.g with
  |plain=>
   rw[eg] at hg2 k
   have hg5:H g2=some (.tup [.str "plain"]):=hg2
   walk_at "wk"
   exact k H (Same.refl _)
  |door kd=>
   rw[eg] at hg2 k
   have hg5:H g2=some (.tup [.str "door",.int kd]):=hg2
   walk_at "wk"
   rw[zh,q2x]
   exact k H (Same.refl _)
  |need kd=>
   rw[eg] at hg2 k
   have hg5:H g2=some (.tup [.str "need",.int kd]):=hg2
   walk_at "wk"
   refine held kd _ fun H4 s4=>?_
   walk_at "wk"
   exact k H4 s4
  |bar kd=>
   rw[eg] at hg2 gok k
   have hg5:H g2=some (.tup [.str "bar",.int kd]):=hg2
   have gok:0<=kd/\kd<8:=gok
   walk_at "wk"
   rw[q2x]
   exact k H (Same.refl _)
  |float h=>
   rw[eg] at hg2 k
   have hg5:H g2=some (.tup [.str "float",.int h]):=hg2
   walk_at "wk"
   exact k H (Same.refl _)
  |wade h kd=>
   rw[eg] at hg2 k
   have hg5:H g2=some (.tup [.str "wade",.int h,.int kd]):=hg2
   walk_at "wk"
   refine ifd (fun hw=>?_) (fun hw=>?_)
   ·walk_at "r"
    have:=k H (Same.refl _)
    rwa [show q44 (.wade h kd) (hold C st.tk st.op) (bit st.op i) st.b st.wt=true by simp[q44,hw]] at this
   ·walk_at "r"
    refine held kd _ fun H4 s4=>?_
    walk_at "r"
    have:=k H4 s4
    rwa [show q44 (.wade h kd) (hold C st.tk st.op) (bit st.op i) st.b st.wt=decide (0<hold C st.tk st.op kd) by simp[q44,hw]] at this
theorem gt_at (gt:Gt):atI gt.vs 0=some (.str gt.word):=by cases gt<;>rfl
theorem gt_dr (gt:Gt):decide (gt.word="door")=gt.dk.isSome:=by cases gt<;>first|rfl|decide
def canR (C:Cl)(s:Sd)(d:Wd)(n:Nat):List (Wd×Nat):=(rowD d n).filter fun x=>canB C s x.2 x.1
theorem q2j (C:Cl)(s:Sd)(d:Wd)(n:Nat):canR C s d (n+1)=canR C s d n++(if canB C s n d=true then [(d,n)] else []):=by
 unfold canR
 rw[q5N,zax,List.filter_cons]
 rfl
theorem q0W (C:Cl)(s:Sd)(d:Wd)(n:Nat):(canR C s d n).length<=n:=zab (zaI _ _) (by rw[q32];omega)
theorem qcf {C:Cl}{s:Sd}(h:¬s.rm=C.lst):fitD C s=canR C s .go C.ways.length++canR C s .pull C.levers.length++canR C s .take C.things.length++canR C s .turn C.wheels.length++canR C s .unlock C.ways.length:=by
 have e:(fun x:Wd×Nat=>canD C s x.1 (x.2:Int))=fun x=>canB C s x.2 x.1:=by funext x;exact q9e h
 unfold fitD allD canR
 rw[e,zax,zax,zax,zax]
theorem q8S {C:Cl}{s:Sd}(h:s.rm=C.lst):fitD C s=[]:=by
 unfold fitD
 exact List.filter_eq_nil_iff.mpr fun x _=>by rw[q65 h];decide
theorem can_go {C:Cl}{s:Sd}{i:Nat}{x:Way}(h:C.ways[i]? =some x):canB C s i .go=(q16 x s.rm&&q44 x.g (hold C s.tk s.op) (bit s.op i) s.b s.wt):=by simp only[canB,h]
theorem q9d {C:Cl}{s:Sd}{i:Nat}{x:Way}{k:Int}(h:C.ways[i]? =some x)(hg:x.g= .door k):canB C s i .unlock=((q16 x s.rm&& !bit s.op i)&&decide (0<hold C s.tk s.op k)):=by simp only[canB,h,hg,Gt.dk]
theorem q6F {C:Cl}{s:Sd}{i:Nat}{x:Way}(h:C.ways[i]? =some x)(hg:∀k,x.g≠ .door k):canB C s i .unlock=false:=by
 simp only[canB,h]
 cases e:x.g<;>first|rfl|exact absurd e (hg _)
theorem q3q {α:Type}{At:Hp->Addr->α->Prop}{H H':Hp}{l:Addr}{xs:List α}(m:∀p x,At H p x->At H' p x)(s:Same H H')(h:qI At H l xs):qI At H' l xs:=let ⟨ps,a,b⟩:=h;⟨ps,s _ _ a,b.mono m⟩
theorem no_un {C:Cl}{s:Sd}{i:Nat}{x:Way}(h:C.ways[i]? =some x)(he:q16 x s.rm=false):canB C s i .unlock=false:=by
 by_cases hd:∃kd,x.g= .door kd
 ·obtain ⟨kd,hd⟩:=hd
  rw[q9d h hd,he]
  rfl
 ·exact q6F h fun kd z=>hd ⟨kd,z⟩
theorem q9F {α:Type}{At:Hp->Addr->α->Prop}{H:Hp}{ps qs:List Addr}{xs ys:List α}(h1:Rows At H ps xs)(h2:Rows At H qs ys):Rows At H (ps++qs) (xs++ys):=by
 refine⟨by rw[zk,zk,h1.1,h2.1],fun i p x hp hx=>?_⟩
 by_cases hi:i<ps.length
 ·rw [zI hi] at hp
  rw[zI (by rw[<-h1.1];exact hi)] at hx
  exact h1.2 i p x hp hx
 ·rw [zF (by omega)] at hp
  rw[zF (by rw[<-h1.1];omega),<-h1.1] at hx
  exact h2.2 _ p x hp hx
theorem qcr {α:Type}{At:Hp->Addr->α->Prop}(mo:∀{H H':Hp},q0o H H'->∀p x,At H p x->At H' p x){H:Hp}{Q:VK}{p q:Addr}{xs ys:List α}(h1:qI At H p xs)(h2:qI At H q ys)(hl:xs.length+ys.length<=1000)(k:∀(r:Addr) (H':Hp),Same H H'->H r=none->qI At H' r (xs++ys)->Q (.ref r) H'):rCat (.ref p) (.ref q) H Q:=by
 obtain⟨ps,hp,rp⟩:=h1
 obtain⟨qs,hq,rq⟩:=h2
 have big:=qE
 refine⟨p,q,_,_,rfl,rfl,hp,hq,by rw[yC,yC,rp.1,rq.1];omega,fun r hr=>?_⟩
 have s:=Same.upd (o:= .lst (ps.map V.ref++qs.map V.ref)) hr
 exact k r _ s hr ⟨ps++qs,by rw[zv];exact qc,(q9F rp rq).mono (mo s.ts)⟩
def spByW:Sp:=fun vs H Q _=>∃(c q:Addr) (C:Cl) (s:Sd),vs=[.ref c,.ref q]/\ClAt H c C/\ClOk C/\SAt H q s/\s.ok C/\∀(r D1 D2:Addr) (H':Hp),Same H H'->H D1=none->H D2=none->D1≠D2->H' r=some (.tup [.ref D1,.ref D2])->qI (PrAt C s) H' D1 (canR C s .go C.ways.length)->qI (PrAt C s) H' D2 (canR C s .unlock C.ways.length)->Q (.ref r) H'
local macro_rules| `(tactic| walk_at "wk")=> `(tactic| repeat (first|walk_at "rd1" |(refine ifd (fun h=>absurd h (by decide)) (fun _=>?_))|(refine ifd (fun _=>?_) (fun h=>absurd (by decide) h))))
theorem ok_byw (T:Txt mg cs)(L:Laid K mg "_law_by_ways" q0U ["_law_cave_here","_law_stand"])(vD:Cal P w K mg base 2 "_law_lets" ["_law_cave_here","_law_stand","_law_k"] q85)(wq:Cal P w K mg base 1 "_law_amount" ["_law_cave_here","_law_stand","_law_kind"] q3L):Cal P w K mg base 3 "_law_by_ways" ["_law_cave_here","_law_stand"] spByW:=by
 refine L.cal (k:=2) qB (fun vs H Q E h=>?_) (fun f cdv A outer s H vs Q E hr h=>?_)
 ·obtain ⟨c,q,C,st,rfl,_⟩:=h
  rfl
 ·obtain ⟨c,q,C,st,rfl,hC,ok,hq,sok,k⟩:=h
  have big:=qE
  obtain⟨pw,pt,pl,pv',h0,h1,_⟩:=hC.ex
  obtain⟨wv,hw,hwl,hwg⟩:=h1.get
  have okw:=ok.wl
  have hwl2:(wv.length:Int)<=20:=by omega
  have hq':H q=some (.tup [.int st.rm,.int st.tk,.int st.op,.int st.b,.int st.wt]):=hq
  refine⟨_,(qe (q4x (pv 1) (q0g (n:=5) K rfl (qr (qk (i:=2) qB.nd rfl (Or.inl rfl)) (qr (qk (i:=3) qB.nd rfl (Or.inl rfl)) (qr (qk (i:=4) qB.nd rfl (Or.inl rfl)) (qr (qk (i:=5) qB.nd rfl (Or.inl rfl)) (qr (qk (i:=6) qB.nd rfl (Or.inl rfl)) q0f)))))))
   (qe (qv (i:=7) qB.nd rfl (Or.inl rfl) (q0h qd))
   (qe (qv (i:=8) qB.nd rfl (Or.inl rfl) (q0h qd))
   (qe (q0z PassesOwn.never rfl (q03 rfl T.wu (qa (qx (lenK K) rfl T.wf q02 (qa (qj (qf K) (pv 0) qb (fun _ _=>rfl)) qd)) qd)) (qk (i:=9) qB.nd rfl (Or.inl rfl)) (qe (q4x (qj (qf K) (qj (qf K) (pv 0) qb (fun _ _=>rfl)) (pv 9) (fun _ _=>rfl)) (q0g (n:=4) K rfl (qr (qk (i:=10) qB.nd rfl (Or.inl rfl)) (qr (qk (i:=11) qB.nd rfl (Or.inl rfl)) (qr (qk (i:=12) qB.nd rfl (Or.inl rfl)) (qr (qk (i:=13) qB.nd rfl (Or.inl rfl)) q0f))))))
   (qe (qN (PW.pt (q2B (qq q3y (pv 2) (pv 10) (qp _)) (q1x (PW.pt (q33 (qq q3y (pv 2) (pv 11) (qp _)) (q2f (q2C (q14 (pv 13))))))))) (qg q6s) qu)
   (qg (qN (q14 (qz vD hr (by decide) rfl (qa (pv 0) (qa (pv 1) (qa (pv 9) qd))))) (qg (q07 (q3Y zO zQ zR q0l (pv 7) (qa (qA (qa (qA (qa qL (qa (pv 9) qd))) (qa (qA (qa (qi q2h (qi q05 (pv 10) (pv 11)) (pv 2)) (qa (pv 3) (qa (pv 4) (qa (pv 5) (qa (pv 6) qd)))))) qd))) qd)))) (qg (qN (PW.pt (q2B (qq q01 (qj (qf K) (pv 12) qb (fun _ _=>rfl)) qL (qp _)) (q1x (qq q40 (qz wq hr (by decide) rfl (qa (pv 0) (qa (pv 1) (qa (qj (qf K) (pv 12) qb (fun _ _=>rfl)) qd)))) qb (qp _))))) (qg (q07 (q3Y zO zQ zR q0l (pv 8) (qa (qA (qa (qA (qa qL (qa (pv 9) qd))) (qa (qA (qa (pv 2) (qa (pv 3) (qa (qi q05 (pv 4) (qi q28 qb (pv 9))) (qa (pv 5) (qa (pv 6) qd)))))) qd))) qd)))) qu)))))))
   (qg (qm (qA (qa (pv 7) (qa (pv 8) qd))))))))),?_⟩
  walk_at "r"
  intro D1 hD1
  have s1:=Same.upd (o:= .lst []) hD1
  have e1:=qc (H:=H) (a:=D1) (o:= .lst [])
  generalize upd H D1 (.lst [])=H1 at s1 e1 ⊢
  walk_at "r"
  intro D2 hD2'
  have s2:=s1.trans (Same.upd (o:= .lst []) hD2')
  have f1:=(Same.upd (o:= .lst []) hD2') _ _ e1
  have f2:=qc (H:=H1) (a:=D2) (o:= .lst [])
  have hD2:H D2=none:=s1.free hD2'
  have ne:D1≠D2:=fun z=>by rw[<-z,e1] at hD2';cases hD2'
  generalize upd H1 D2 (.lst [])=H2 at s2 f1 f2 ⊢
  have h02:=s2 _ _ h0
  have hw2:=s2 _ _ hw
  walk_at "r"
  refine q24 (fun i σ H'=>∃v9 v10 v11 v12 v13,σ=[some (.ref c),some (.ref q),some (.int st.rm),some (.int st.tk),some (.int st.op),some (.int st.b),some (.int st.wt),some (.ref D1),some (.ref D2),v9,v10,v11,v12,v13]/\Same H H'/\qI (PrAt C st) H' D1 (canR C st .go i)/\qI (PrAt C st) H' D2 (canR C st .unlock i)) ⟨none,none,none,none,none,rfl,s2,⟨[],f1,Rows.nil⟩,⟨[],f2,Rows.nil⟩⟩ ?_ ?_
  ·rintro i σ H3 hi ⟨v9,v10,v11,v12,v13,rfl,s3,g1,g2⟩
   have hi2:i<C.ways.length:=by rw[<-hwl];simpa using hi
   obtain⟨p2,hx,ga,hp2,hg2⟩:=hwg i hi2
   have ex:C.ways[i]? =some C.ways[i]:=yB hi2
   have eg1:=can_go (s:=st) ex
   generalize C.ways[i]=x at hp2 hg2 ex eg1
   have hp3:=s3 _ _ hp2
   have hg3:=s3 _ _ hg2
   have h03:=s3 _ _ h0
   have hw3:=s3 _ _ hw
   have l1:=q0W C st .go i
   have l2:=q0W C st .unlock i
   rw[q2j,q2j]
   intro Dn hn hc hb hrt
   cases he:q16 x st.rm with
   |false=>
    rw[show(if canB C st i .go=true then [(Wd.go,i)] else [])=[] from zd (by rw[eg1,he];exact zp),show(if canB C st i .unlock=true then [(Wd.unlock,i)] else [])=[] from zd (by rw[no_un ex he];decide),zH,zH] at hc
    unfold q16 at he
    rw[Bool.or_eq_false_iff,Bool.and_eq_false_iff] at he
    have fin:=hc [some (.ref c),some (.ref q),some (.int st.rm),some (.int st.tk),some (.int st.op),some (.int st.b),some (.int st.wt),some (.ref D1),some (.ref D2),some (.int (0+(i:Nat))),some (.int x.a),some (.int x.b),some (.ref ga),some (.bl x.back)] H3 ⟨_,_,_,_,_,rfl,s3,g1,g2⟩
    walk_at "r"
    rw[zf (zaT he.1)]
    walk_at "r"
    by_cases y:st.rm=x.b
    ·rw [ze y]
     have hbk:x.back=false:=by
      rcases he.2 with z|z
      ·exact absurd y (zaT z)
      ·exact z
     walk_at "r"
     rw[hbk] at fin ⊢
     walk_at "r"
     exact fin
    ·rw [zf y]
     walk_at "r"
     exact fin
   |true=>
    have he':=he
    unfold q16 at he'
    walk_at "r"
    rename_i zz hzz
    have th:zz {nx:=Dn.nx,rt:=Dn.rt,bk:=Dn.bk,ct:=Dn.ct} [some (.ref c),some (.ref q),some (.int st.rm),some (.int st.tk),some (.int st.op),some (.int st.b),some (.int st.wt),some (.ref D1),some (.ref D2),some (.int (0+(i:Nat))),some (.int x.a),some (.int x.b),some (.ref ga),some (.bl x.back)] H3:=by
     walk_at "r"
     refine⟨c,q,C,st,i,x,by rw[zas];rfl,hC.mono s3.ts,ok,SAt.mono s3.ts hq,ex,fun H4 s4=>?_⟩
     have g14:=q3q (fun _ _ h=>PrAt.mono s4.ts h) s4 g1
     have g24:=q3q (fun _ _ h=>PrAt.mono s4.ts h) s4 g2
     have hg4:=s4 _ _ hg3
     have s34:=s3.trans s4
     cases hlt:q44 x.g (hold C st.tk st.op) (bit st.op i) st.b st.wt with
     |false=>
      rw[show(if canB C st i .go=true then [(Wd.go,i)] else [])=[] from zd (by rw[eg1,he,hlt];decide),zH] at hn
      obtain⟨qs,hqs,rqs⟩:=g24
      have hqs2:qs.length<=20:=by rw[rqs.1];omega
      by_cases hd:∃kd,x.g= .door kd
      ·obtain ⟨kd,hd⟩:=hd
       rw[hd] at hg4 hlt
       have hg5:H4 ga=some (.tup [.str "door",.int kd]):=hg4
       have hbt:bit st.op i=false:=hlt
       have eu:=q9d (s:=st) ex hd
       rw[he,hbt,Bool.not_false,Bool.and_true,zay] at eu
       walk_at "wk"
       refine⟨c,q,C,st,kd,rfl,hC.mono s34.ts,ok,SAt.mono s34.ts hq,fun H5 s5=>?_⟩
       have hqs5:=s5 _ _ hqs
       have g5:=q3q (fun _ _ h=>PrAt.mono s5.ts h) s5 g14
       walk_at "r"
       refine ifd (fun hp=>?_) (fun hp=>?_)
       ·rw [show(if canB C st i .unlock=true then [(Wd.unlock,i)] else [])=[(Wd.unlock,i)] from zj (by rw[eu];exact ze hp)] at hn
        walk_at "r"
        intro t5 ht5
        generalize hG5:upd _ t5 _=H6
        have s6:=q0a hG5 ht5
        have h6:=q0b hG5
        walk_at "r"
        intro t6 ht6
        generalize hG6:upd _ t6 _=H7
        have s7:=q0a hG6 ht6
        have h7:=q0b hG6
        walk_at "r"
        intro t7 ht7
        generalize hG7:upd _ t7 _=H8
        have s8:=q0a hG7 ht7
        have h8:=q0b hG7
        have s58:=s6.trans (s7.trans s8)
        have hqs8:=s58 _ _ hqs5
        walk_at "r"
        refine q3U hqs8 (by rw[yC];omega) ?_
        have ts9:=q0o.lst (o:= .lst (qs.map V.ref++[.ref t7])) hqs8
        refine hn _ _ ⟨_,_,_,_,_,rfl,((s34.trans s5).trans s58).put hD2,?_,qS (fun _ _ h=>PrAt.mono ts9 h) (rqs.mono fun _ _ h=>PrAt.mono (s5.trans s58).ts h) ⟨t5,t6,h8,?_,?_⟩⟩
        ·obtain ⟨us,hus,rus⟩:=g5
         exact⟨us,by rw[qw ne];exact s58 _ _ hus,rus.mono fun _ _ h=>PrAt.mono (s58.ts.trans ts9) h⟩
        ·show H8 t5=some (.tup [.str Wd.unlock.str,.int ((i:Nat):Int)])
         rw[<-zas (i:Int)]
         exact(s7.trans s8) _ _ h6
        ·show H8 t6=_
         have:H8 t6=_:=s8 _ _ h7
         rw[this]
         show _=some (HO.tup (q1z C st (i:Int).toNat .unlock).vs)
         rw[zas,zh,zaF]
         rfl
       ·rw [show(if canB C st i .unlock=true then [(Wd.unlock,i)] else [])=[] from zd (by rw[eu,zf hp];exact zp),zH] at hn
        walk_at "r"
        exact hn _ _ ⟨_,_,_,_,_,rfl,s34.trans s5,g5,⟨qs,hqs5,rqs.mono fun _ _ h=>PrAt.mono s5.ts h⟩⟩
      ·have c2:=q6F (s:=st) ex fun kd z=>hd ⟨kd,z⟩
       rw[show(if canB C st i .unlock=true then [(Wd.unlock,i)] else [])=[] from zd (by rw[c2];decide),zH] at hn
       have hwd:=gt_at x.g
       have hdr:=gt_dr x.g
       have hnn:x.g.dk.isSome=false:=by
        cases e:x.g<;>first|rfl|exact absurd ⟨_,e⟩ hd
       walk_at "r"
       rw[hdr,hnn]
       walk_at "r"
       exact hn _ _ ⟨_,_,_,_,_,rfl,s34,g14,⟨qs,hqs,rqs⟩⟩
     |true=>
      have nu:canB C st i .unlock=false:=by
       by_cases hd:∃kd,x.g= .door kd
       ·obtain ⟨kd,hd⟩:=hd
        rw[hd] at hlt
        rw[q9d ex hd,show bit st.op i=true from hlt,Bool.not_true,zcE,zaz]
       ·exact q6F ex fun kd z=>hd ⟨kd,z⟩
      rw[show(if canB C st i .go=true then [(Wd.go,i)] else [])=[(Wd.go,i)] from zj (by rw[eg1,he,hlt];rfl),show(if canB C st i .unlock=true then [(Wd.unlock,i)] else [])=[] from zd (by rw[nu];decide),zH] at hn
      obtain⟨ps,hps,rps⟩:=g14
      have hpl:ps.length<=20:=by rw[rps.1];omega
      walk_at "r"
      intro t5 ht5
      generalize hG5:upd _ t5 _=H5
      have s5:=q0a hG5 ht5
      have h5:=q0b hG5
      walk_at "r"
      intro t6 ht6
      generalize hG6:upd _ t6 _=H6
      have s6:=q0a hG6 ht6
      have h6:=q0b hG6
      walk_at "r"
      intro t7 ht7
      generalize hG7:upd _ t7 _=H7
      have s7:=q0a hG7 ht7
      have h7:=q0b hG7
      have s47:=s5.trans (s6.trans s7)
      have hps7:=s47 _ _ hps
      walk_at "r"
      refine q3U hps7 (by rw[yC];omega) ?_
      have ts8:=q0o.lst (o:= .lst (ps.map V.ref++[.ref t7])) hps7
      refine hn _ _ ⟨_,_,_,_,_,rfl,(s34.trans s47).put hD1,?_,?_⟩
      ·refine qS (fun _ _ h=>PrAt.mono ts8 h) (rps.mono fun _ _ h=>PrAt.mono s47.ts h) ⟨t5,t6,h7,?_,?_⟩
       ·show H7 t5=some (.tup [.str Wd.go.str,.int ((i:Nat):Int)])
        rw[<-zas (i:Int)]
        exact(s6.trans s7) _ _ h5
       ·show H7 t6=_
        have:H7 t6=_:=s7 _ _ h6
        rw[this]
        show _=some (HO.tup (q1z C st (i:Int).toNat .go).vs)
        rw[zh]
        simp only[q1z,ex]
        rw[go_end he]
        rfl
      ·obtain ⟨qs,hqs,rqs⟩:=g24
       exact⟨qs,by rw[qw ne.symm];exact s47 _ _ hqs,rqs.mono fun _ _ h=>PrAt.mono (s47.ts.trans ts8) h⟩
    clear hzz
    by_cases ya:st.rm=x.a
    ·rw [ze ya]
     walk_at "r"
     exact th
    ·rw [zf ya] at he' ⊢
     rw[zci,zbI] at he'
     walk_at "r"
     rw[ze (zaN he'.1)]
     walk_at "r"
     rw[he'.2] at th ⊢
     walk_at "r"
     exact th
  ·rintro σ H3 ⟨v9,v10,v11,v12,v13,rfl,s3,g1,g2⟩
   rw[zh,hwl] at g1 g2
   walk_at "r"
   intro r hr0
   have s4:=Same.upd (o:= .tup [.ref D1,.ref D2]) hr0
   exact k r D1 D2 _ (s3.trans s4) hD1 hD2 ne qc (q3q (fun _ _ h=>PrAt.mono s4.ts h) s4 g1) (q3q (fun _ _ h=>PrAt.mono s4.ts h) s4 g2)
theorem qbL (T:Txt mg cs)(L:Laid K mg "_law_next" q1I ["_law_cave_here","_law_stand"])(vh:Cal P w K mg base 3 "_law_by_ways" ["_law_cave_here","_law_stand"] spByW):Cal P w K mg base 4 "_law_next" ["_law_cave_here","_law_stand"] q2L:=by
 refine L.cal (k:=3) qU (fun vs H Q E h=>?_) (fun f cdv A outer s H vs Q E hr h=>?_)
 ·obtain ⟨c,q,C,st,rfl,_⟩:=h
  rfl
 ·obtain ⟨c,q,C,st,rfl,hC,ok,hq,sok,k⟩:=h
  have big:=qE
  obtain⟨pw,pt,pl,pv',h0,_,hth,hlv,hwh⟩:=hC.ex
  obtain⟨lv,hlv0,llv,glv⟩:=hlv.get
  obtain⟨tv,hth0,lth,gth⟩:=hth.get
  obtain⟨vv,hwh0,lwh,gwh⟩:=hwh.get
  have okl:=ok.ll
  have okt:=ok.tl
  have okv:=ok.vl
  have okw:=ok.wl
  have x1:(lv.length:Int)<=4:=by omega
  have x2:(tv.length:Int)<=8:=by omega
  have x3:(vv.length:Int)<=4:=by omega
  have hq':H q=some (.tup [.int st.rm,.int st.tk,.int st.op,.int st.b,.int st.wt]):=hq
  refine⟨_,(qe (q4x (pv 1) (q0g (n:=5) K rfl (qr (qk (i:=2) qU.nd rfl (Or.inl rfl)) (qr (qk (i:=3) qU.nd rfl (Or.inl rfl)) (qr (qk (i:=4) qU.nd rfl (Or.inl rfl)) (qr (qk (i:=5) qU.nd rfl (Or.inl rfl)) (qr (qk (i:=6) qU.nd rfl (Or.inl rfl)) q0f)))))))
   (qe (qN (qq q01 (pv 2) (qj (qf K) (pv 0) qb (fun _ _=>rfl)) (qp _)) (qg (qm (q0h qd))) qu)
   (qe (q4x (qz vh hr (by decide) rfl (qa (pv 0) (qa (pv 1) qd))) (q0g (n:=2) K rfl (qr (qk (i:=7) qU.nd rfl (Or.inl rfl)) (qr (qk (i:=8) qU.nd rfl (Or.inl rfl)) q0f))))
   (qe (q0z PassesOwn.never rfl (q03 rfl T.wu (qa (qx (lenK K) rfl T.wf q02 (qa (qj (qf K) (pv 0) qb (fun _ _=>rfl)) qd)) qd)) (qk (i:=9) qU.nd rfl (Or.inl rfl)) (qg (qN (qq q01 (qj (qf K) (qj (qf K) (qj (qf K) (pv 0) qb (fun _ _=>rfl)) (pv 9) (fun _ _=>rfl)) qb (fun _ _=>rfl)) (pv 2) (qp _)) (qg (q07 (q3Y zO zQ zR q0l (pv 7) (qa (qA (qa (qA (qa qL (qa (pv 9) qd))) (qa (qA (qa (pv 2) (qa (pv 3) (qa (pv 4) (qa (qi q5S (pv 5) (qj (qf K) (qj (qf K) (qj (qf K) (pv 0) qb (fun _ _=>rfl)) (pv 9) (fun _ _=>rfl)) qb (fun _ _=>rfl))) (qa (pv 6) qd)))))) qd))) qd)))) qu)))
   (qe (q0z PassesOwn.never rfl (q03 rfl T.wu (qa (qx (lenK K) rfl T.wf q02 (qa (qj (qf K) (pv 0) qb (fun _ _=>rfl)) qd)) qd)) (qk (i:=9) qU.nd rfl (Or.inl rfl)) (qg (qN (PW.pt (q2B (qq q01 (qj (qf K) (qj (qf K) (qj (qf K) (pv 0) qb (fun _ _=>rfl)) (pv 9) (fun _ _=>rfl)) qb (fun _ _=>rfl)) (pv 2) (qp _)) (q1x (qq q01 (qi q41 (qi q4y (pv 3) (pv 9)) qb) qb (qp _))))) (qg (q07 (q3Y zO zQ zR q0l (pv 7) (qa (qA (qa (qA (qa qL (qa (pv 9) qd))) (qa (qA (qa (pv 2) (qa (qi q05 (pv 3) (qi q28 qb (pv 9))) (qa (pv 4) (qa (pv 5) (qa (pv 6) qd)))))) qd))) qd)))) qu)))
   (qe (q0z PassesOwn.never rfl (q03 rfl T.wu (qa (qx (lenK K) rfl T.wf q02 (qa (qj (qf K) (pv 0) qb (fun _ _=>rfl)) qd)) qd)) (qk (i:=9) qU.nd rfl (Or.inl rfl)) (qg (qN (PW.pt (q2B (qq q01 (qj (qf K) (qj (qf K) (qj (qf K) (pv 0) qb (fun _ _=>rfl)) (pv 9) (fun _ _=>rfl)) qb (fun _ _=>rfl)) (pv 2) (qp _)) (q1x (qq q3y (qj (qf K) (qj (qf K) (qj (qf K) (pv 0) qb (fun _ _=>rfl)) (pv 9) (fun _ _=>rfl)) qb (fun _ _=>rfl)) (pv 6) (qp _))))) (qg (q07 (q3Y zO zQ zR q0l (pv 7) (qa (qA (qa (qA (qa qL (qa (pv 9) qd))) (qa (qA (qa (pv 2) (qa (pv 3) (qa (pv 4) (qa (pv 5) (qa (qj (qf K) (qj (qf K) (qj (qf K) (pv 0) qb (fun _ _=>rfl)) (pv 9) (fun _ _=>rfl)) qb (fun _ _=>rfl)) qd)))))) qd))) qd)))) qu)))
   (qg (qm (qi q19 (pv 7) (pv 8)))))))))),?_⟩
  walk_at "r"
  refine ifd (fun e=>?_) (fun e=>?_)
  ·walk_at "r"
   intro r hr0
   exact k r _ (Same.upd hr0) hr0 (by rw[q8S e];exact⟨[],qc,Rows.nil⟩)
  rw[qcf e] at k
  walk_at "r"
  refine⟨c,q,C,st,rfl,hC,ok,hq,sok,fun r D1 D2 H1 s1 n1 n2 ne hr1 g1 g2=>?_⟩
  have h01:=s1 _ _ h0
  have hlv1:=s1 _ _ hlv0
  have l0:=q0W C st .go C.ways.length
  have l5:=q0W C st .unlock C.ways.length
  walk_at "r"
  refine q24 (fun i σ H'=>∃v9,σ=[some (.ref c),some (.ref q),some (.int st.rm),some (.int st.tk),some (.int st.op),some (.int st.b),some (.int st.wt),some (.ref D1),some (.ref D2),v9]/\Same H H'/\qI (PrAt C st) H' D1 (canR C st .go C.ways.length++canR C st .pull i)/\qI (PrAt C st) H' D2 (canR C st .unlock C.ways.length)) ⟨none,rfl,s1,by rw[show canR C st .pull 0=[] from rfl,zH];exact g1,g2⟩ ?_ ?_
  ·rintro i σ H3 hi ⟨v9,rfl,s3,⟨ps,hps,rps⟩,⟨qs,hqs,rqs⟩⟩
   have hi2:i<C.levers.length:=by rw[<-llv];simpa using hi
   obtain⟨p2,hx,hp2⟩:=glv i hi2
   have hp3:=s3 _ _ hp2
   have h03:=s3 _ _ h0
   have hlv3:=s3 _ _ hlv0
   have l1:=q0W C st .pull i
   have hpl:ps.length<=40:=by rw[rps.1,zk];omega
   have ec:canB C st i .pull=decide (st.rm=C.levers[i].1):=by simp only[canB,yB hi2]
   rw[q2j]
   intro Dn hn hc hb hrt
   walk_at "r"
   refine ifd (fun z=>?_) (fun z=>?_)
   ·rw [show(if canB C st i .pull=true then [(Wd.pull,i)] else [])=[(Wd.pull,i)] from zj (by rw[ec];exact ze z.symm)] at hn
    walk_at "r"
    intro t5 ht5
    generalize hG5:upd _ t5 _=H4
    have s4:=q0a hG5 ht5
    have h4:=q0b hG5
    have hp4:=s4 _ _ hp3
    have h04:=s4 _ _ h03
    have hlv4:=s4 _ _ hlv3
    walk_at "r"
    intro t6 ht6
    generalize hG6:upd _ t6 _=H5
    have s5:=q0a hG6 ht6
    have h5:=q0b hG6
    walk_at "r"
    intro t7 ht7
    generalize hG7:upd _ t7 _=H6
    have s6:=q0a hG7 ht7
    have h6:=q0b hG7
    have s36:=s4.trans (s5.trans s6)
    have hps6:=s36 _ _ hps
    walk_at "r"
    refine q3U hps6 (by rw[yC];omega) ?_
    have ts:=q0o.lst (o:= .lst (ps.map V.ref++[.ref t7])) hps6
    refine hn _ _ ⟨_,rfl,(s3.trans s36).put n1,?_,⟨qs,by rw[qw ne.symm];exact s36 _ _ hqs,rqs.mono fun _ _ h=>PrAt.mono (s36.ts.trans ts) h⟩⟩
    rw[<-zq]
    refine qS (fun _ _ h=>PrAt.mono ts h) (rps.mono fun _ _ h=>PrAt.mono s36.ts h) ⟨t5,t6,h6,?_,?_⟩
    ·show H6 t5=some (.tup [.str Wd.pull.str,.int ((i:Nat):Int)])
     rw[<-zas (i:Int)]
     exact(s5.trans s6) _ _ h4
    ·show H6 t6=some (HO.tup (q1z C st (i:Int).toNat .pull).vs)
     rw[zh]
     simp only[q1z,yB hi2]
     exact s6 _ _ h5
   ·rw [show(if canB C st i .pull=true then [(Wd.pull,i)] else [])=[] from zd (by rw[ec,zf fun y=>z y.symm];exact zp),zH] at hn
    walk_at "r"
    exact hn _ _ ⟨_,rfl,s3,⟨ps,hps,rps⟩,⟨qs,hqs,rqs⟩⟩
  ·rintro σ H2 ⟨v9,rfl,s2,g1,g2⟩
   rw[zh,llv] at g1
   have l1:=q0W C st .pull C.levers.length
   have h02:=s2 _ _ h0
   have hth2:=s2 _ _ hth0
   walk_at "r"
   refine q24 (fun i σ H'=>∃v9,σ=[some (.ref c),some (.ref q),some (.int st.rm),some (.int st.tk),some (.int st.op),some (.int st.b),some (.int st.wt),some (.ref D1),some (.ref D2),v9]/\Same H H'/\qI (PrAt C st) H' D1 (canR C st .go C.ways.length++canR C st .pull C.levers.length++canR C st .take i)/\qI (PrAt C st) H' D2 (canR C st .unlock C.ways.length)) ⟨v9,rfl,s2,by rw[show canR C st .take 0=[] from rfl,zH];exact g1,g2⟩ ?_ ?_
   ·rintro i σ H3 hi ⟨v9,rfl,s3,⟨ps,hps,rps⟩,⟨qs,hqs,rqs⟩⟩
    have hi2:i<C.things.length:=by rw[<-lth];simpa using hi
    obtain⟨p2,hx,hp2⟩:=gth i hi2
    have hp3:=s3 _ _ hp2
    have h03:=s3 _ _ h0
    have hth3:=s3 _ _ hth0
    have l2:=q0W C st .take i
    have hpl:ps.length<=40:=by rw[rps.1,zk,zk];omega
    have ec:canB C st i .take=(decide (st.rm=C.things[i].1)&& !bit st.tk i):=by simp only[canB,yB hi2]
    rw[q2j]
    intro Dn hn hc hb hrt
    walk_at "r"
    refine ifd (fun z=>?_) (fun z=>?_)
    ·walk_at "r"
     rw[zas (i:Int),zh,q4E]
     cases hbt:bit st.tk i with
     |true=>
      rw[show(if canB C st i .take=true then [(Wd.take,i)] else [])=[] from zd (by rw[ec,hbt,Bool.not_true,zcE];exact zp),zH] at hn
      walk_at "r"
      exact hn _ _ ⟨_,rfl,s3,⟨ps,hps,rps⟩,⟨qs,hqs,rqs⟩⟩
     |false=>
      rw[show(if canB C st i .take=true then [(Wd.take,i)] else [])=[(Wd.take,i)] from zj (by rw[ec,hbt,ze z.symm];rfl)] at hn
      walk_at "r"
      intro t5 ht5
      generalize hG5:upd _ t5 _=H4
      have s4:=q0a hG5 ht5
      have h4:=q0b hG5
      walk_at "r"
      intro t6 ht6
      generalize hG6:upd _ t6 _=H5
      have s5:=q0a hG6 ht6
      have h5:=q0b hG6
      walk_at "r"
      intro t7 ht7
      generalize hG7:upd _ t7 _=H6
      have s6:=q0a hG7 ht7
      have h6:=q0b hG7
      have s36:=s4.trans (s5.trans s6)
      have hps6:=s36 _ _ hps
      walk_at "r"
      refine q3U hps6 (by rw[yC];omega) ?_
      have ts:=q0o.lst (o:= .lst (ps.map V.ref++[.ref t7])) hps6
      refine hn _ _ ⟨_,rfl,(s3.trans s36).put n1,?_,⟨qs,by rw[qw ne.symm];exact s36 _ _ hqs,rqs.mono fun _ _ h=>PrAt.mono (s36.ts.trans ts) h⟩⟩
      rw[<-zq]
      refine qS (fun _ _ h=>PrAt.mono ts h) (rps.mono fun _ _ h=>PrAt.mono s36.ts h) ⟨t5,t6,h6,?_,?_⟩
      ·show H6 t5=some (.tup [.str Wd.take.str,.int ((i:Nat):Int)])
       exact(s5.trans s6) _ _ h4
      ·show H6 t6=some (HO.tup (q1z C st (i:Int).toNat .take).vs)
       rw[zh]
       have:H6 t6=_:=s6 _ _ h5
       rw[zaF,zh] at this
       exact this
    ·rw [show(if canB C st i .take=true then [(Wd.take,i)] else [])=[] from zd (by rw[ec,zf fun y=>z y.symm];exact zp),zH] at hn
     walk_at "r"
     exact hn _ _ ⟨_,rfl,s3,⟨ps,hps,rps⟩,⟨qs,hqs,rqs⟩⟩
   ·rintro σ H2 ⟨v9,rfl,s2,g1,g2⟩
    rw[zh,lth] at g1
    have l2:=q0W C st .take C.things.length
    have h02:=s2 _ _ h0
    have hwh2:=s2 _ _ hwh0
    walk_at "r"
    refine q24 (fun i σ H'=>∃v9,σ=[some (.ref c),some (.ref q),some (.int st.rm),some (.int st.tk),some (.int st.op),some (.int st.b),some (.int st.wt),some (.ref D1),some (.ref D2),v9]/\Same H H'/\qI (PrAt C st) H' D1 (canR C st .go C.ways.length++canR C st .pull C.levers.length++canR C st .take C.things.length++canR C st .turn i)/\qI (PrAt C st) H' D2 (canR C st .unlock C.ways.length)) ⟨v9,rfl,s2,by rw[show canR C st .turn 0=[] from rfl,zH];exact g1,g2⟩ ?_ ?_
    ·rintro i σ H3 hi ⟨v9,rfl,s3,⟨ps,hps,rps⟩,⟨qs,hqs,rqs⟩⟩
     have hi2:i<C.wheels.length:=by rw[<-lwh];simpa using hi
     obtain⟨p2,hx,hp2⟩:=gwh i hi2
     have hp3:=s3 _ _ hp2
     have h03:=s3 _ _ h0
     have hwh3:=s3 _ _ hwh0
     have l3:=q0W C st .turn i
     have hpl:ps.length<=40:=by rw[rps.1,zk,zk,zk];omega
     have ec:canB C st i .turn=(decide (st.rm=C.wheels[i].1)&& !decide (st.wt=C.wheels[i].2)):=by simp only[canB,yB hi2]
     rw[q2j]
     intro Dn hn hc hb hrt
     walk_at "r"
     refine ifd (fun z=>?_) (fun z=>?_)
     ·walk_at "r"
      by_cases hbt:C.wheels[i].2=st.wt
      ·rw [show(if canB C st i .turn=true then [(Wd.turn,i)] else [])=[] from zd (by rw[ec,ze hbt.symm,Bool.not_true,zcE];exact zp),zH] at hn
       rw[ze hbt]
       walk_at "r"
       exact hn _ _ ⟨_,rfl,s3,⟨ps,hps,rps⟩,⟨qs,hqs,rqs⟩⟩
      ·rw [show(if canB C st i .turn=true then [(Wd.turn,i)] else [])=[(Wd.turn,i)] from zj (by rw[ec,zf (show¬st.wt=C.wheels[i].2 from fun y=>hbt y.symm),ze z.symm];rfl)] at hn
       rw[zf hbt]
       walk_at "r"
       intro t5 ht5
       generalize hG5:upd _ t5 _=H4
       have s4:=q0a hG5 ht5
       have h4:=q0b hG5
       have hp4:=s4 _ _ hp3
       have h04:=s4 _ _ h03
       have hwh4:=s4 _ _ hwh3
       walk_at "r"
       intro t6 ht6
       generalize hG6:upd _ t6 _=H5
       have s5:=q0a hG6 ht6
       have h5:=q0b hG6
       walk_at "r"
       intro t7 ht7
       generalize hG7:upd _ t7 _=H6
       have s6:=q0a hG7 ht7
       have h6:=q0b hG7
       have s36:=s4.trans (s5.trans s6)
       have hps6:=s36 _ _ hps
       walk_at "r"
       refine q3U hps6 (by rw[yC];omega) ?_
       have ts:=q0o.lst (o:= .lst (ps.map V.ref++[.ref t7])) hps6
       refine hn _ _ ⟨_,rfl,(s3.trans s36).put n1,?_,⟨qs,by rw[qw ne.symm];exact s36 _ _ hqs,rqs.mono fun _ _ h=>PrAt.mono (s36.ts.trans ts) h⟩⟩
       rw[<-zq]
       refine qS (fun _ _ h=>PrAt.mono ts h) (rps.mono fun _ _ h=>PrAt.mono s36.ts h) ⟨t5,t6,h6,?_,?_⟩
       ·show H6 t5=some (.tup [.str Wd.turn.str,.int ((i:Nat):Int)])
        rw[<-zas (i:Int)]
        exact(s5.trans s6) _ _ h4
       ·show H6 t6=some (HO.tup (q1z C st (i:Int).toNat .turn).vs)
        rw[zh]
        simp only[q1z,yB hi2]
        exact s6 _ _ h5
     ·rw [show(if canB C st i .turn=true then [(Wd.turn,i)] else [])=[] from zd (by rw[ec,zf fun y=>z y.symm];exact zp),zH] at hn
      walk_at "r"
      exact hn _ _ ⟨_,rfl,s3,⟨ps,hps,rps⟩,⟨qs,hqs,rqs⟩⟩
    ·rintro σ H2 ⟨v9,rfl,s2,g1,g2⟩
     rw[zh,lwh] at g1
     have l3:=q0W C st .turn C.wheels.length
     walk_at "r"
     exact qcr (At:=PrAt C st) (fun ts _ _ h=>PrAt.mono ts h) g1 g2 (by simp only[List.length_append];omega) fun r H4 s4 hr4 g4=>k r H4 (s2.trans s4) (s2.free hr4) g4
def qaP (K:W.Frag):Sp:=fun vs H Q _=>∃(a:Addr) (ns:List Int) (fi:Int) (tot:Nat),vs=[.ref a,.int fi,.int tot]/\SqL K H a (ns.map V.int)/\ns.length<=63/\0<=fi/\fi<=1000/\tot<=60/\∀(r:Addr) (ms:List Int) (H':Hp),Same H H'->H r=none->H' r=some (.lst (ms.map V.int))->ms.length=tot->(∀x∈ms,0<=x)->Q (.ref r) H'
def q6f:Sp:=fun vs H Q _=>∃n b:Int,vs=[.int n,.int b]/\∀(p:Addr) (g:Gt) (H':Hp),Same H H'->g.ok->H' p=some (.tup g.vs)->Q (.ref p) H'
theorem qbK (T:Txt mg cs)(L:Laid K mg "_law_numbers" q0S ["_law_script","_law_first","_law_total"])(wx:Cal P w K mg base 1 "_law_cell_at" ["_law_script","_law_k"] (q6i K)):Cal P w K mg base 2 "_law_numbers" ["_law_script","_law_first","_law_total"] (qaP K):=by
 refine L.cal (k:=1) q0e (fun vs H Q E h=>?_) (fun f cdv A outer s H vs Q E hr h=>?_)
 ·obtain ⟨a,ns,fi,tot,rfl,_⟩:=h
  rfl
 ·obtain ⟨a,ns,fi,tot,rfl,hS,hl,f0,f1,ht,k⟩:=h
  have big:=qE
  refine⟨_,(qe (qv (i:=3) q0e.nd rfl (Or.inl rfl) (q0h qd))
   (qe (qv (i:=4) q0e.nd rfl (Or.inl rfl) (qi q05 qb (pv 1)))
   (qe (q0z PassesOwn.never rfl (q03 rfl T.wu (qa (pv 2) qd)) (qk (i:=5) q0e.nd rfl (Or.inl rfl)) (qe (qv (i:=6) q0e.nd rfl (Or.inl rfl) (qz wx hr (by decide) rfl (qa (pv 0) (qa (qi q05 qb (qi qC (qi q05 (pv 1) (pv 5)) (qx (max2 rfl) rfl T.wbd qb6 (qa qb (qa (qi q2h (qx (lenK K) rfl T.wf q02 (qa (pv 0) qd)) qb) qd))))) qd))))
   (qe (qv (i:=4) q0e.nd rfl (Or.inl rfl) (qi qC (qi q05 (qi q05 (qi q3Z (pv 4) qb) (pv 6)) (qi q3Z (pv 5) (pv 5))) qb))
   (qg (q07 (q3Y zO zQ zR q0l (pv 3) (qa (pv 4) qd)))))))
   (qg (qm (pv 3)))))),?_⟩
  walk_at "r"
  intro r hr0
  walk_at "r"
  refine q4b (fun i σ H'=>∃n v5 v6,σ=[some (.ref a),some (.int fi),some (.int tot),some (.ref r),some (.int n),v5,v6]/\Same H H'/\∃ms:List Int,ms.length=i/\(∀x∈ms,0<=x)/\H' r=some (.lst (ms.map V.int))) ⟨_,none,none,rfl,Same.upd hr0,[],rfl,(fun x hx=>nomatch hx),qc⟩ ?_ ?_
  ·rintro i σ H' hi ⟨n,v5,v6,rfl,s1,ms,hm,hx,hr1⟩
   have hS1:=s1.seq hS
   have mp:(0:Int)<(if ((ns.map V.int).length:Int) - 3>1 then((ns.map V.int).length:Int) - 3 else 1):=by split<;>omega
   have m0:=qQ (fi+(0+(i:Nat))) mp
   walk_at "r"
   refine⟨a,ns,_,rfl,hS1,hl,?_,?_⟩
   ·omega
   walk_at "r"
   refine q3U hr1 (by rw[yC];omega) ?_
   refine⟨_,_,_,rfl,s1.put hr0,?_⟩
   refine⟨ms++[_],by simp[hm],fun x hx'=>?_,by rw[qc,zv];rfl⟩
   rcases zr.mp hx' with z|z
   ·exact hx x z
   ·rw [zu.mp z]
    exact qQ _ (by decide)
  ·rintro σ H' ⟨n,v5,v6,rfl,s1,ms,hm,hx,hr1⟩
   walk_at "r"
   exact k r ms H' s1 hr0 hr1 (by simpa using hm) hx
theorem qa5 (T:Txt mg cs)(L:Laid K mg "_law_gate" q1K ["_law_number","_law_base"]):Cal P w K mg base 1 "_law_gate" ["_law_number","_law_base"] q6f:=by
 refine L.cal (k:=0) q2c (fun vs H Q E h=>?_) (fun f cdv A outer s H vs Q E hr h=>?_)
 ·obtain ⟨n,b,rfl,_⟩:=h
  rfl
 ·obtain ⟨n,b,rfl,k⟩:=h
  have a0:=qQ (b+n / 12 % 3) (n:=12) (by decide)
  have a1:=qW (b+n / 12 % 3) (n:=12) (by decide)
  have b0:=qQ (b+n / 36 % 3) (n:=8) (by decide)
  have b1:=qW (b+n / 36 % 3) (n:=8) (by decide)
  have c0:=qQ (n / 36) (n:=10) (by decide)
  have c1:=qW (n / 36) (n:=10) (by decide)
  have need:∀p,H p=none->Q (.ref p) (upd H p (.tup [.str "need",.int ((b+n / 12 % 3) % 12)])):=fun p hp=>k p (.need ((b+n / 12 % 3) % 12)) _ (Same.upd hp) ⟨a0,a1⟩ qc
  refine⟨_,(qe (qv (i:=2) q2c.nd rfl (Or.inl rfl) (qi qC (qi q05 (pv 1) (qi qC (qi qR (pv 0) qb) qb)) qb))
   (qe (qv (i:=3) q2c.nd rfl (Or.inl rfl) (qi qC (pv 0) qb))
   (qe (qN (qq q4q (pv 3) qb (qp _)) (qg (qm (qA (qa qL qd)))) qu)
   (qe (qN (qq q01 (pv 3) qb (qp _)) (qg (qm (qA (qa qL (qa (pv 2) qd))))) qu)
   (qe (qN (PW.pt (q33 (qq q01 (pv 3) qb (qp _)) (q2f (qq q01 (pv 3) qb (qp _))))) (qg (qm (qA (qa qL (qa (pv 2) qd))))) qu)
   (qe (qN (qq q01 (pv 3) qb (qp _)) (qg (qm (qA (qa qL (qa (qi qC (qi q05 (pv 1) (qi qC (qi qR (pv 0) qb) qb)) qb) qd))))) qu)
   (qe (qN (qq q01 (pv 3) qb (qp _)) (qg (qm (qA (qa qL (qa (qi qC (qi qR (pv 0) qb) qb) (qa (pv 2) qd)))))) qu)
   (qg (qm (qA (qa qL (qa (qi qC (qi qR (pv 0) qb) qb) qd)))))))))))),?_⟩
  walk_at "r"
  refine ifd (fun h1=>?_) (fun h1=>?_)
  ·walk_at "r"
   exact fun p hp=>k p .plain _ (Same.upd hp) trivial qc
  walk_at "r"
  refine ifd (fun h2=>?_) (fun h2=>?_)
  ·walk_at "r"
   exact fun p hp=>k p (.door ((b+n / 12 % 3) % 12)) _ (Same.upd hp) ⟨a0,a1⟩ qc
  walk_at "r"
  refine ifd (fun h3=>?_) (fun h3=>?_)
  ·walk_at "r"
   exact need
  walk_at "r"
  refine ifd (fun h4=>?_) (fun h4=>?_)
  ·walk_at "r"
   exact need
  walk_at "r"
  refine ifd (fun h5=>?_) (fun h5=>?_)
  ·walk_at "r"
   exact fun p hp=>k p (.bar ((b+n / 36 % 3) % 8)) _ (Same.upd hp) ⟨b0,b1⟩ qc
  walk_at "r"
  refine ifd (fun h6=>?_) (fun h6=>?_)
  ·walk_at "r"
   exact fun p hp=>k p (.wade (n / 36 % 10) ((b+n / 12 % 3) % 12)) _ (Same.upd hp) ⟨⟨c0,c1⟩,a0,a1⟩ qc
  walk_at "r"
  exact fun p hp=>k p (.float (n / 36 % 10)) _ (Same.upd hp) ⟨c0,c1⟩ qc
structure CvOk (C:Cl):Prop where
 ok:ClOk C
 w:1<=C.ways.length
 m:2*C.ways.length+C.levers.length+C.things.length+C.wheels.length<=16
def q86:Sp:=fun vs H Q _=>∃(l:Addr) (ms:List Int),vs=[.ref l]/\H l=some (.lst (ms.map V.int))/\ms.length=34/\∀(p:Addr) (C:Cl) (H':Hp),Same H H'->ClAt H' p C->CvOk C->Q (.ref p) H'
theorem q3H (ms:List Int)(i j:Nat)(h:j<=ms.length)(hij:i<=j):cutV (ms.map V.int) (some (i:Int)) (some (j:Int))=((ms.drop i).take (j - i)).map V.int:=by
 unfold cutV
 rw[HT.q4U,HT.q4U,yC,zaL (show i<=ms.length by omega),zaL h,List.map_take,List.map_drop]
theorem qa3 (T:Txt mg cs)(L:Laid K mg "_law_great" q12 ["_law_numbers_here"])(wJ:Cal P w K mg base 1 "_law_gate" ["_law_number","_law_base"] q6f):Cal P w K mg base 2 "_law_great" ["_law_numbers_here"] q86:=by
 refine L.cal (k:=1) q1G (fun vs H Q E h=>?_) (fun f cdv A outer s H vs Q E hr h=>?_)
 ·obtain ⟨l,ms,rfl,_⟩:=h
  rfl
 ·obtain ⟨l,ms,rfl,hl,hm,k⟩:=h
  have big:=qE
  have ix:∀j:Nat,j<34->atI (ms.map V.int) (j:Int)=some (.int (ms.getD j 0)):=fun j hj=>q53 (by omega)
  have i0:=ix 0 (by omega)
  have i1:=ix 1 (by omega)
  have i10:=ix 10 (by omega)
  have i11:=ix 11 (by omega)
  have i12:=ix 12 (by omega)
  refine⟨_,(qe (qv (i:=1) q1G.nd rfl (Or.inl rfl) (qA (qa (qA (qa qb (qa qb (qa (qz wJ hr (by decide) rfl (qa (qj (qM K) (pv 0) qb (fun _ _=>rfl)) (qa qb qd))) (qa (qP q01 (qi qC (qj (qM K) (pv 0) qb (fun _ _=>rfl)) qb) qb (qp _)) qd))))) qd)))
   (qe (qv (i:=2) q1G.nd rfl (Or.inl rfl) (q0L (q5m K) rfl T.vx q38 (qa (q0C (q0p (N:=["_law_number"]) (own:=1) (caps:=[]) ["_law_numbers_here","_law_ways","_law_things"] (qh q12) (by walk_at "k")) rfl (qO K (qX (q0R K) (pv 0) (q00 qb) (q00 qb))) (fun _ _ _ _=>(qk (i:=0) (show List.Nodup (["_law_number"]:List Str) by walk_at "k") rfl (Or.inl rfl))) (fun _ _ _ _=>q18) (fun _ _ _ _=>(qA (qa qb (qa (qi qC (pv 0) qb) qd))))) qd)))
   (qg (qm (qA (qa qb (qa qb (qa qb (qa (pv 1) (qa (pv 2) (qa (qA (qa (qA (qa qb (qa (qi q05 qb (qi qC (qj (qM K) (pv 0) qb (fun _ _=>rfl)) qb)) qd))) qd)) (qa (qA qd) (qa (qi qC (qj (qM K) (pv 0) qb (fun _ _=>rfl)) qb) (qa (qi qC (qj (qM K) (pv 0) qb (fun _ _=>rfl)) qb) qd)))))))))))))),?_⟩
  walk_at "r"
  refine⟨_,3,rfl,fun g gt H1 s1 gok hg=>?_⟩
  have hl1:=s1 _ _ hl
  walk_at "r"
  intro t1 gt1
  generalize hG2:upd _ t1 _=H2
  have s2:=q0a hG2 gt1
  have h2:=q0b hG2
  walk_at "r"
  intro t2 gt2
  generalize hG3:upd _ t2 _=H3
  have s3:=q0a hG3 gt2
  have h3:=q0b hG3
  have s13:=s2.trans s3
  have hl3:=s13 _ _ hl1
  walk_at "r"
  refine⟨l,_,rfl,SqL.of hl3,fun l2 gl2=>?_⟩
  rw[show(2:Int)=((2:Nat):Int) from rfl,show(10:Int)=((10:Nat):Int) from rfl,q3H ms 2 10 (by omega) (by omega)]
  generalize hG4:upd _ l2 _=H4
  have s4:=q0a hG4 gl2
  have h4:=q0b hG4
  generalize hks:(ms.drop 2).take (10 - 2)=ks at h4
  have kl:ks.length=8:=by rw[<-hks,zl,zS];omega
  walk_at "r"
  intro D hD
  refine q0c (ks.map V.int) (fun i σ H'=>∃v0,σ=[v0]/\Same H4 H'/\qI q04 H' D ((ks.take i).map fun x=>(0,x % 12))) ⟨none,rfl,Same.upd hD,⟨[],qc,Rows.nil⟩⟩ ?_ ?_ ?_
  ·rintro i σ H' ⟨_,rfl,s5,_⟩
   exact SqL.of (s5 _ _ h4)
  ·rintro i z σ H' hz ⟨v0,rfl,s5,ps,hps,rps⟩
   have hi:i<ks.length:=by have:=(yA hz).1;simpa using this
   obtain rfl:z= .int ks[i]:=by simpa[hi] using hz.symm
   have lp:ps.length<=8:=by rw[rps.1,yC,zl];omega
   walk_at "r"
   intro t5 g5
   generalize hG5:upd _ t5 _=H5
   have s6:=q0a hG5 g5
   have h6:=q0b hG5
   have hps6:=s6 _ _ hps
   refine⟨_,hps6,by rw[yC];omega,_,rfl,(s5.trans s6).put hD,?_⟩
   rw[zn hi,zv]
   exact qS (fun _ _ z=>q04.mono (q0o.lst hps6) z) (rps.mono fun _ _=>q04.mono s6.ts) h6
  ·rintro σ H5 ⟨v0,rfl,s5,ps,hps,rps⟩
   rw[yC,zG] at rps
   walk_at "r"
   refine q8i (SqL.of hps) fun t6 g6=>?_
   generalize hG6:upd _ t6 _=H6
   have s6:=q0a hG6 g6
   have h6:=q0b hG6
   have s36:=s4.trans (s5.trans s6)
   have hl6:=s36 _ _ hl3
   walk_at "r"
   intro t7 g7
   generalize hG7:upd _ t7 _=H7
   have s7:=q0a hG7 g7
   have h7:=q0b hG7
   walk_at "r"
   intro t8 g8
   generalize hG8:upd _ t8 _=H8
   have s8:=q0a hG8 g8
   have h8:=q0b hG8
   walk_at "r"
   intro t9 g9
   generalize hG9:upd _ t9 _=H9
   have s9:=q0a hG9 g9
   have h9:=q0b hG9
   have hl9:=(s7.trans (s8.trans s9)) _ _ hl6
   walk_at "r"
   intro p gp
   generalize hG10:upd _ p _=H10
   have s10:=q0a hG10 gp
   have h10:=q0b hG10
   have e0:=qQ (ms.getD 10 0) (n:=255) (by decide)
   have e1:=qW (ms.getD 10 0) (n:=255) (by decide)
   have e2:=qQ (ms.getD 11 0) (n:=256) (by decide)
   have e3:=qW (ms.getD 11 0) (n:=256) (by decide)
   have e4:=qQ (ms.getD 12 0) (n:=10) (by decide)
   have e5:=qW (ms.getD 12 0) (n:=10) (by decide)
   have s910:=s9.trans s10
   have s810:=s8.trans s910
   have s710:=s7.trans s810
   have s610:=s6.trans s710
   have s310:=s36.trans s710
   refine k p ⟨2,0,1,[⟨0,1,gt,decide (ms.getD 1 0 % 2=0)⟩],ks.map fun x=>(0,x % 12),[(0,1+ms.getD 10 0 % 255)],[],ms.getD 11 0 % 256,ms.getD 12 0 % 10⟩ H10 (s1.trans (s13.trans s310)) ⟨t2,t6,t8,t9,h10,⟨[t1],s310 _ _ h3,Rows.nil.snoc ⟨g,(s3.trans s310) _ _ h2,(s13.trans s310) _ _ hg⟩⟩,⟨ps,s710 _ _ h6,rps.mono fun _ _=>q04.mono s610.ts⟩,⟨[t7],s910 _ _ h8,Rows.nil.snoc (s810 _ _ h7)⟩,⟨[],s10 _ _ h9,Rows.nil⟩⟩ ?_
   refine⟨⟨(by decide:(1:Int)<=2),(by decide:(2:Int)<=14),⟨(by decide:(0:Int)<=0),(by decide:(0:Int)<2)⟩,⟨(by decide:(0:Int)<=1),(by decide:(1:Int)<2)⟩,by simp,by simp;omega,by simp,by simp,fun x hx=>?_,fun x hx=>?_,fun x hx=>?_,(fun x hx=>nomatch hx),⟨e2,by show ms.getD 11 0 % 256<=255;omega⟩,⟨e4,by show ms.getD 12 0 % 10<=9;omega⟩⟩,by simp,by simp;omega⟩
   ·rw [zu.mp hx]
    exact⟨⟨(by decide:(0:Int)<=0),(by decide:(0:Int)<2)⟩,⟨(by decide:(0:Int)<=1),(by decide:(1:Int)<2)⟩,(by decide:(0:Int)≠1),gok⟩
   ·obtain ⟨y,_,rfl⟩:=zN.mp hx
    exact⟨⟨(by decide:(0:Int)<=0),(by decide:(0:Int)<2)⟩,qQ y (by decide),qW y (by decide)⟩
   ·rw [zu.mp hx]
    exact⟨⟨(by decide:(0:Int)<=0),(by decide:(0:Int)<2)⟩,by show 1<=1+ms.getD 10 0 % 255;omega,by show 1+ms.getD 10 0 % 255<=255;omega⟩
def qbj (K:W.Frag):Sp:=fun vs H Q _=>∃(a:Addr) (ns:List Int),vs=[.ref a]/\SqL K H a (ns.map V.int)/\ns.length<=63/\∀(p:Addr) (C:Cl) (H':Hp),Same H H'->ClAt H' p C->CvOk C->Q (.ref p) H'
theorem qab (T:Txt mg cs)(L:Laid K mg "_law_cave" q0P ["_law_script"])(wx:Cal P w K mg base 1 "_law_cell_at" ["_law_script","_law_k"] (q6i K))(wO:Cal P w K mg base 2 "_law_numbers" ["_law_script","_law_first","_law_total"] (qaP K))(wJ:Cal P w K mg base 1 "_law_gate" ["_law_number","_law_base"] q6f)(vz:Cal P w K mg base 2 "_law_great" ["_law_numbers_here"] q86):Cal P w K mg base 3 "_law_cave" ["_law_script"] (qbj K):=by
 refine L.cal (k:=2) qH (fun vs H Q E h=>?_) (fun f cdv A outer s H vs Q E hr h=>?_)
 ·obtain ⟨a,ns,rfl,_⟩:=h
  rfl
 ·obtain ⟨a,ns,rfl,hS,hl,k⟩:=h
  have big:=qE
  refine⟨_,(qe (qv (i:=1) qH.nd rfl (Or.inl rfl) (qz wx hr (by decide) rfl (qa (pv 0) (qa qb qd))))
   (qe (qv (i:=2) qH.nd rfl (Or.inl rfl) (qz wO hr (by decide) rfl (qa (pv 0) (qa qb (qa qb qd)))))
   (qe (qN (qq q01 (qi qC (qi qR (pv 1) qb) qb) qb (qp _)) (qg (qm (qz vz hr (by decide) rfl (qa (pv 2) qd)))) qu)
   (qe (qv (i:=3) qH.nd rfl (Or.inr rfl) (qi q05 qb (qi qC (pv 1) qb)))
   (qe (qv (i:=4) qH.nd rfl (Or.inr rfl) (qi qC (qi qR (pv 1) qb) qb))
   (qe (qv (i:=5) qH.nd rfl (Or.inl rfl) (q0h qd))
   (qe (q0z PassesOwn.never rfl (q5Q rfl T.wu (qa qb (qa (qi q05 (pv 3) (qi qC (qi qR (pv 1) qb) qb)) qd))) (qk (i:=6) qH.nd rfl (Or.inl rfl)) (qe (qv (i:=7) qH.nd rfl (Or.inl rfl) (qj (qM K) (pv 2) (pv 6) (fun _ _=>rfl)))
   (qe (qv (i:=8) qH.nd rfl (Or.inl rfl) (qi qC (pv 7) (qx (min2 rfl) rfl T.waq q9l (qa (pv 6) (qa (pv 3) qd)))))
   (qe (qv (i:=9) qH.nd rfl (Or.inl rfl) (pv 6))
   (qe (qN (qq q7z (pv 6) (pv 3) (qp _)) (qg (qv (i:=9) qH.nd rfl (Or.inl rfl) (qi qC (qi q05 (qi q05 (pv 8) qb) (qi qC (qi qR (pv 7) qb) (qi q2h (pv 3) qb))) (pv 3)))) qu)
   (qg (q07 (q3Y zO zQ zR q0l (pv 5) (qa (qA (qa (pv 8) (qa (pv 9) (qa (qz wJ hr (by decide) rfl (qa (qi qR (pv 7) qb) (qa (pv 4) qd))) (qa (qP q40 (qi qC (qi qR (pv 7) qb) qb) qb (qp _)) qd))))) qd)))))))))
   (qe (q2g (i:=10) qH.nd rfl rfl (q0p (N:=["_law_number","_law_rooms","_law_base"]) (own:=1) (caps:=[3,4]) ["_law_script","_law_first","_law_numbers_here","_law_rooms","_law_base","_law_ways","_law_k","_law_number","_law_a","_law_b","_law_things","_law_levers","_law_wheels","_law_lists"] (qh q0P) (by walk_at "k")) rfl (qO K (qX (q0R K) (pv 2) (q00 qb) (q00 (qi q05 qb (qi qC (qi qR (pv 1) qb) qb))))) (fun _ _ _ _=>(qk (i:=0) (show List.Nodup (["_law_number","_law_rooms","_law_base"]:List Str) by walk_at "k") rfl (Or.inl rfl))) (fun _ _ _ _=>q18) (fun _ _ _ _=>(qA (qa (qi qC (pv 0) (pv 1)) (qa (qi qC (qi q05 (pv 2) (qi qC (qi qR (pv 0) qb) qb)) qb) qd)))))
   (qe (qv (i:=11) qH.nd rfl (Or.inl rfl) (q0h qd))
   (qe (q0z PassesOwn.never rfl (qO K (qX (q0R K) (pv 2) (q00 qb) (q00 (qi q05 qb (qi qC (qi qR (pv 1) qb) qb))))) (qk (i:=7) qH.nd rfl (Or.inl rfl)) (qg (q07 (q3Y zO zQ zR q0l (pv 11) (qa (qA (qa (qi qC (pv 7) (pv 3)) (qa (qi q05 qb (qi qC (qi qR (pv 7) qb) qb)) qd))) qd)))))
   (qe (q2g (i:=12) qH.nd rfl rfl (q0p (N:=["_law_number","_law_rooms"]) (own:=1) (caps:=[3]) ["_law_script","_law_first","_law_numbers_here","_law_rooms","_law_base","_law_ways","_law_k","_law_number","_law_a","_law_b","_law_things","_law_levers","_law_wheels","_law_lists"] (qh q0P) (by walk_at "k")) rfl (qO K (qX (q0R K) (pv 2) (q00 qb) (q00 (qi q05 qb (qi qC (qi qR (pv 1) qb) qb))))) (fun _ _ _ _=>(qk (i:=0) (show List.Nodup (["_law_number","_law_rooms"]:List Str) by walk_at "k") rfl (Or.inl rfl))) (fun _ _ _ _=>q18) (fun _ _ _ _=>(qA (qa (qi qC (pv 0) (pv 1)) (qa (qi qC (qi qR (pv 0) qb) qb) qd)))))
   (qe (qv (i:=13) qH.nd rfl (Or.inl rfl) (qA (qa (q0L (q5m K) rfl T.vx q38 (qa (pv 5) qd)) (qa (q0L (q5m K) rfl T.vx q38 (qa (pv 10) qd)) (qa (q0L (q5m K) rfl T.vx q38 (qa (pv 11) qd)) (qa (q0L (q5m K) rfl T.vx q38 (qa (pv 12) qd)) qd))))))
   (qg (qm (qi (q73 K) (qi (q73 K) (qA (qa (pv 3) (qa qb (qa (qi q2h (pv 3) qb) qd)))) (pv 13)) (qA (qa (qi qC (qj (qM K) (pv 2) qb (fun _ _=>rfl)) qb) (qa (qi qC (qj (qM K) (pv 2) qb (fun _ _=>rfl)) qb) qd)))))))))))))))))),?_⟩
  walk_at "r"
  refine⟨a,ns,0,rfl,hS,hl,by decide,?_⟩
  generalize ns.getD _ 0=fi
  walk_at "r"
  refine⟨a,ns,0,34,rfl,hS,hl,by decide,by decide,by decide,fun l ms H1 s1 hl0 h1 hm hp=>?_⟩
  walk_at "r"
  refine ifd (fun g=>?_) (fun g=>?_)
  ·walk_at "r"
   refine⟨l,ms,rfl,h1,hm,fun p C H2 s2 hC ok=>?_⟩
   walk_at "r"
   exact k p C H2 (s1.trans s2) hC ok
  have r0:=qQ fi (n:=4) (by decide)
  have r1:=qW fi (n:=4) (by decide)
  have x0:=qQ (fi / 48) (n:=3) (by decide)
  have x1:=qW (fi / 48) (n:=3) (by decide)
  walk_at "r"
  generalize hR:2+fi % 4=R
  have hR2:2<=R/\R<=5:=by omega
  intro W hW
  generalize hG2:upd _ W _=H2
  have s2:=q0a hG2 hW
  have h2:=q0b hG2
  have hl2:=s2 _ _ h1
  have zW:H W=none:=s1.free hW
  have nWl:l≠W:=fun z=>by rw[<-z,h1] at hW;cases hW
  have ix:∀j:Nat,j<34->atI (ms.map V.int) (j:Int)=some (.int (ms.getD j 0)):=fun j hj=>q53 (by omega)
  obtain⟨B,hB⟩:∃B,fi / 4 % 12=B:=⟨_,rfl⟩
  rw[hB]
  walk_at "r"
  refine q4b (fun i σ H'=>∃(v6 v7 v8 v9:Option V) (ws:List Way),σ=[some (.ref a),some (.int fi),some (.ref l),some (.int R),some (.int B),some (.ref W),v6,v7,v8,v9,none,none,none,none]/\Same H H'/\H' l=some (.lst (ms.map V.int))/\qI q2m H' W ws/\ws.length=i/\∀x∈ws,WOk R x) ⟨none,none,none,none,[],rfl,s1.trans s2,hl2,⟨[],h2,Rows.nil⟩,rfl,fun x hx=>nomatch hx⟩ ?_ ?_
  ·rintro i σ H3 hi ⟨v6,v7,v8,v9,ws,rfl,s3,hl3,⟨ps,hps,rps⟩,wl,wo⟩
   have hi':i<7:=by omega
   have ek:(1:Int)+(i:Nat)=((1+i:Nat):Int):=by omega
   have iz:=ix (1+i) (by omega)
   rw[<-ek] at iz
   generalize ms.getD (1+i) 0=z at iz
   obtain⟨M,eM,M1,M2⟩:∃M:Int,(if R<1+(i:Nat) then R else 1+(i:Nat))=M/\1<=M/\M<=R:=⟨_,rfl,by split<;>omega,by split<;>omega⟩
   have c0:=qQ z (n:=M) (by omega)
   have c1:=qW z (n:=M) (by omega)
   have d0:=qQ (z / 14) (n:=R - 1) (by omega)
   have d1:=qW (z / 14) (n:=R - 1) (by omega)
   walk_at "r"
   rw[eM]
   rename_i zz hzz
   have lp:ps.length=i:=by rw[rps.1,wl]
   have fin:∀(b:Int) (D:Ends),(∀σ H',(∃(v6 v7 v8 v9:Option V) (ws:List Way),σ=[some (.ref a),some (.int fi),some (.ref l),some (.int R),some (.int B),some (.ref W),v6,v7,v8,v9,none,none,none,none]/\Same H H'/\H' l=some (.lst (ms.map V.int))/\qI q2m H' W ws/\ws.length=i+1/\∀x∈ws,WOk R x)->D.nx σ H')->0<=b->b<R->z % M≠b->zz D [some (.ref a),some (.int fi),some (.ref l),some (.int R),some (.int B),some (.ref W),some (.int (1+(i:Nat))),some (.int z),some (.int (z % M)),some (.int b),none,none,none,none] H3:=fun b D hD b0 b1 ne=>by
    walk_at "r"
    refine⟨_,_,rfl,fun g gt H4 s4 gok hg=>?_⟩
    walk_at "r"
    intro t5 g5
    generalize hG5:upd _ t5 _=H5
    have s5:=q0a hG5 g5
    have h5:=q0b hG5
    have s35:=s4.trans s5
    have hps5:=s35 _ _ hps
    walk_at "r"
    refine q3U hps5 (by rw[yC];omega) ?_
    have nWl':l≠W:=nWl
    refine hD _ _ ⟨_,_,_,_,ws++[⟨z % M,b,gt,_⟩],rfl,(s3.trans s35).put zW,by rw[qw nWl'];exact s35 _ _ hl3,qS (fun _ _ y=>q2m.mono (q0o.lst hps5) y) (rps.mono fun _ _=>q2m.mono s35.ts) ⟨g,h5,s5 _ _ hg⟩,by simp[wl],fun x hx=>?_⟩
    rcases zr.mp hx with y|y
    ·exact wo x y
    ·rw [zu.mp y]
     exact⟨⟨c0,by show z % M<R;omega⟩,⟨b0,b1⟩,ne,gok⟩
   clear hzz
   have q0:=qQ (z % M+1+z / 14 % (R - 1)) (n:=R) (by omega)
   have q1:=qW (z % M+1+z / 14 % (R - 1)) (n:=R) (by omega)
   refine ifd (fun y=>?_) (fun y=>?_)
   ·walk_at "r"
    refine fin _ _ (fun _ _ h=>let ⟨v6,v7,v8,v9,ws,h1,h2,h3,h4,h5,h6⟩:=h;⟨v6,v7,v8,v9,ws,h1,h2,h3,h4,h5,h6⟩) q0 q1 ?_
    intro e
    by_cases y2:z % M+1+z / 14 % (R - 1)<R
    ·rw [zcl (by omega) y2] at e;omega
    ·have:(z % M+1+z / 14 % (R - 1)) % R=z % M+1+z / 14 % (R - 1) - R:=by rw[<-Int.sub_emod_right,zcl (by omega) (by omega)]
     omega
   ·walk_at "r"
    exact fin _ _ (fun _ _ h=>let ⟨v6,v7,v8,v9,ws,h1,h2,h3,h4,h5,h6⟩:=h;⟨v6,v7,v8,v9,ws,h1,h2,h3,h4,h5,h6⟩) (by omega) (by omega) (by
     have:M<=1+(i:Nat):=by rw[<-eM];split<;>omega
     omega)
  ·rintro σ H3 ⟨v6,v7,v8,v9,ws,rfl,s3,hl3,hws,wl,wo⟩
   have y0:=qQ (fi / 144) (n:=3) (by decide)
   have y1:=qW (fi / 144) (n:=3) (by decide)
   have y2:=qQ (fi / 432) (n:=2) (by decide)
   have y3:=qW (fi / 432) (n:=2) (by decide)
   have y4:=qQ (fi / 864) (n:=2) (by decide)
   have y5:=qW (fi / 864) (n:=2) (by decide)
   obtain⟨j1,e1,f1⟩:∃j:Nat,20+fi / 144 % 3=(j:Int)/\20<=j/\j<=22:=⟨(20+fi / 144 % 3).toNat,by omega,by omega,by omega⟩
   obtain⟨j2,e2,f2⟩:∃j:Nat,24+fi / 432 % 2=(j:Int)/\24<=j/\j<=25:=⟨(24+fi / 432 % 2).toNat,by omega,by omega,by omega⟩
   obtain⟨j3,e3,f3⟩:∃j:Nat,27+fi / 864 % 2=(j:Int)/\27<=j/\j<=28:=⟨(27+fi / 864 % 2).toNat,by omega,by omega,by omega⟩
   have i31:=ix 31 (by omega)
   have i33:=ix 33 (by omega)
   walk_at "r"
   rw[e1]
   refine⟨l,_,rfl,SqL.of hl3,fun l4 gl4=>?_⟩
   rw[show(20:Int)=((20:Nat):Int) from rfl,q3H ms 20 j1 (by omega) (by omega)]
   generalize hG4:upd _ l4 _=H4
   have s4:=q0a hG4 gl4
   have h4:=q0b hG4
   generalize hks:(ms.drop 20).take (j1 - 20)=ks at h4
   have kl:ks.length<=2:=by rw[<-hks,zl];omega
   walk_at "r"
   intro D hD
   refine q0c (ks.map V.int) (fun i σ H'=>∃v0,σ=[v0,some (.int R),some (.int B)]/\Same H4 H'/\qI q04 H' D ((ks.take i).map fun x=>(x % R,(B+x / 14 % 3) % 12))) ⟨none,rfl,Same.upd hD,⟨[],qc,Rows.nil⟩⟩ ?_ ?_ ?_
   ·rintro i σ H' ⟨_,rfl,s5,_⟩
    exact SqL.of (s5 _ _ h4)
   ·rintro i z σ H' hz ⟨v0,rfl,s5,ps,hps,rps⟩
    have hi:i<ks.length:=by have:=(yA hz).1;simpa using this
    obtain rfl:z= .int ks[i]:=by simpa[hi] using hz.symm
    have lp:ps.length<=8:=by rw[rps.1,yC,zl];omega
    walk_at "r"
    intro t5 g5
    generalize hG5:upd _ t5 _=H5
    have s6:=q0a hG5 g5
    have h6:=q0b hG5
    have hps6:=s6 _ _ hps
    refine⟨_,hps6,by rw[yC];omega,_,rfl,(s5.trans s6).put hD,?_⟩
    rw[zn hi,zv]
    exact qS (fun _ _ z=>q04.mono (q0o.lst hps6) z) (rps.mono fun _ _=>q04.mono s6.ts) h6
   ·rintro σ H5 ⟨v0,rfl,s5,hth⟩
    rw[yC,zG] at hth
    have hws5:=q3q (fun _ _ h=>q2m.mono (s4.trans s5).ts h) (s4.trans s5) hws
    have hl5:=(s4.trans s5) _ _ hl3
    have s05:=s3.trans (s4.trans s5)
    walk_at "r"
    intro V0 gV
    generalize hG6:upd _ V0 _=H6
    have s6:=q0a hG6 gV
    have h6:=q0b hG6
    have zV:H V0=none:=s05.free gV
    have s06:=s05.trans s6
    walk_at "r"
    rw[e2]
    refine⟨l,_,rfl,SqL.of (s6 _ _ hl5),fun l7 gl7=>?_⟩
    rw[show(24:Int)=((24:Nat):Int) from rfl,q3H ms 24 j2 (by omega) (by omega)]
    generalize hG7:upd _ l7 _=H7
    have s7:=q0a hG7 gl7
    have h7:=q0b hG7
    generalize hqs:(ms.drop 24).take (j2 - 24)=qs at h7
    have ql:qs.length<=1:=by rw[<-hqs,zl];omega
    have h67:=s7 _ _ h6
    have nV:l7≠V0:=fun z=>by rw[z,h6] at gl7;cases gl7
    have hws7:=q3q (fun _ _ h=>q2m.mono (s6.trans s7).ts h) (s6.trans s7) hws5
    have hth7:=q3q (fun _ _ h=>q04.mono (s6.trans s7).ts h) (s6.trans s7) hth
    have hl7:=(s6.trans s7) _ _ hl5
    have nVW:W≠V0:=fun z=>by obtain⟨_,y,_⟩:=hws5;rw[z] at y;rw[y] at gV;cases gV
    have nVD:D≠V0:=fun z=>by obtain⟨_,y,_⟩:=hth;rw[z] at y;rw[y] at gV;cases gV
    have nVl:l≠V0:=fun z=>by rw[<-z,hl5] at gV;cases gV
    walk_at "r"
    refine q8O (qs.map V.int) (fun i σ H'=>∃v7:Option V,σ=[some (.ref a),some (.int fi),some (.ref l),some (.int R),some (.int B),some (.ref W),v6,v7,v8,v9,some (.ref D),some (.ref V0),none,none]/\Same H H'/\H' l7=some (.lst (qs.map V.int))/\H' l=some (.lst (ms.map V.int))/\qI q2m H' W ws/\qI q04 H' D (ks.map fun x=>(x % R,(B+x / 14 % 3) % 12))/\qI q04 H' V0 ((qs.take i).map fun x=>(x % R,1+x / 14 % 255))) ⟨v7,rfl,s06.trans s7,h7,hl7,hws7,hth7,⟨[],h67,Rows.nil⟩⟩ ?_ ?_ ?_
    ·rintro i σ H' ⟨_,rfl,_,y,_⟩
     exact SqL.of y
    ·rintro i z σ H' hz ⟨v7,rfl,s8,y1,y2,y3,y4,ps,hps,rps⟩
     have hi:i<qs.length:=by have:=(yA hz).1;simpa using this
     obtain rfl:z= .int qs[i]:=by simpa[hi] using hz.symm
     have lp:ps.length<=8:=by rw[rps.1,yC,zl];omega
     walk_at "r"
     intro t5 g5
     generalize hG9:upd _ t5 _=H9
     have s9:=q0a hG9 g5
     have h9:=q0b hG9
     have hps9:=s9 _ _ hps
     have ts:=q0o.lst (o:= .lst (ps.map V.ref++[.ref t5])) hps9
     walk_at "r"
     refine q3U hps9 (by rw[yC];omega) ?_
     obtain⟨u1,u2,u3⟩:=y3
     obtain⟨w1,w2,w3⟩:=y4
     refine⟨_,rfl,(s8.trans s9).put zV,by rw[qw nV];exact s9 _ _ y1,by rw[qw nVl];exact s9 _ _ y2,⟨u1,by rw[qw nVW];exact s9 _ _ u2,u3.mono fun _ _=>q2m.mono (s9.ts.trans ts)⟩,⟨w1,by rw[qw nVD];exact s9 _ _ w2,w3.mono fun _ _=>q04.mono (s9.ts.trans ts)⟩,?_⟩
     rw[zn hi,zv]
     exact qS (fun _ _ z=>q04.mono ts z) (rps.mono fun _ _=>q04.mono s9.ts) h9
    ·rintro σ H8 ⟨v7,rfl,s8,_,hl8,hws8,hth8,hlv8⟩
     rw[yC,zG] at hlv8
     walk_at "r"
     rw[e3]
     refine⟨l,_,rfl,SqL.of hl8,fun l9 gl9=>?_⟩
     rw[show(27:Int)=((27:Nat):Int) from rfl,q3H ms 27 j3 (by omega) (by omega)]
     generalize hG9:upd _ l9 _=H9
     have s9:=q0a hG9 gl9
     have h9:=q0b hG9
     generalize hvs:(ms.drop 27).take (j3 - 27)=us at h9
     have ul:us.length<=1:=by rw[<-hvs,zl];omega
     walk_at "r"
     intro G hG
     refine q0c (us.map V.int) (fun i σ H'=>∃v0,σ=[v0,some (.int R)]/\Same H9 H'/\qI q04 H' G ((us.take i).map fun x=>(x % R,x / 14 % 10))) ⟨none,rfl,Same.upd hG,⟨[],qc,Rows.nil⟩⟩ ?_ ?_ ?_
     ·rintro i σ H' ⟨_,rfl,s5,_⟩
      exact SqL.of (s5 _ _ h9)
     ·rintro i z σ H' hz ⟨v0,rfl,s10,ps,hps,rps⟩
      have hi:i<us.length:=by have:=(yA hz).1;simpa using this
      obtain rfl:z= .int us[i]:=by simpa[hi] using hz.symm
      have lp:ps.length<=8:=by rw[rps.1,yC,zl];omega
      walk_at "r"
      intro t5 g5
      generalize hG10:upd _ t5 _=H10
      have s11:=q0a hG10 g5
      have h11:=q0b hG10
      have hps6:=s11 _ _ hps
      refine⟨_,hps6,by rw[yC];omega,_,rfl,(s10.trans s11).put hG,?_⟩
      rw[zn hi,zv]
      exact qS (fun _ _ z=>q04.mono (q0o.lst hps6) z) (rps.mono fun _ _=>q04.mono s11.ts) h11
     ·rintro σ H10 ⟨v0,rfl,s10,vps,hvp,rvp⟩
      rw[yC,zG] at rvp
      have s810:=s9.trans s10
      obtain⟨wps,hwp,rwp⟩:=hws8
      obtain⟨tps,htp,rtp⟩:=hth8
      obtain⟨lps,hlp,rlp⟩:=hlv8
      have hl10:=s810 _ _ hl8
      walk_at "r"
      refine q8i (SqL.of (s810 _ _ hwp)) fun a1 ga1=>?_
      generalize hG11:upd _ a1 _=H11
      have s11:=q0a hG11 ga1
      have h11:=q0b hG11
      walk_at "r"
      refine q8i (SqL.of ((s810.trans s11) _ _ htp)) fun a2 ga2=>?_
      generalize hG12:upd _ a2 _=H12
      have s12:=q0a hG12 ga2
      have h12:=q0b hG12
      have s812:=s810.trans (s11.trans s12)
      walk_at "r"
      refine q8i (SqL.of (s812 _ _ hlp)) fun a3 ga3=>?_
      generalize hG13:upd _ a3 _=H13
      have s13:=q0a hG13 ga3
      have h13:=q0b hG13
      have s1013:=s11.trans (s12.trans s13)
      walk_at "r"
      refine q8i (SqL.of (s1013 _ _ hvp)) fun a4 ga4=>?_
      generalize hG14:upd _ a4 _=H14
      have s14:=q0a hG14 ga4
      have h14:=q0b hG14
      walk_at "r"
      intro a5 ga5
      generalize hG15:upd _ a5 _=H15
      have s15:=q0a hG15 ga5
      have h15:=q0b hG15
      walk_at "r"
      intro a6 ga6
      generalize hG16:upd _ a6 _=H16
      have s16:=q0a hG16 ga6
      have h16:=q0b hG16
      walk_at "r"
      refine⟨a6,a5,_,_,rfl,rfl,SqT.of h16,SqT.of (s16 _ _ h15),by simp,by simp;omega,(fun z=>absurd z (by simp)),fun _ a7 ga7=>?_⟩
      generalize hG17:upd _ a7 _=H17
      have s17:=q0a hG17 ga7
      have h17:=q0b hG17
      have s1417:=s15.trans (s16.trans s17)
      have s1017:=s1013.trans (s14.trans s1417)
      have hl17:=s1017 _ _ hl10
      walk_at "r"
      intro a8 ga8
      generalize hG18:upd _ a8 _=H18
      have s18:=q0a hG18 ga8
      have h18:=q0b hG18
      walk_at "r"
      refine⟨a7,a8,_,_,rfl,rfl,SqT.of (s18 _ _ h17),SqT.of h18,by simp,by simp;omega,(fun z=>absurd z (by simp)),fun _ p gp=>?_⟩
      generalize hG19:upd _ p _=H19
      have s19:=q0a hG19 gp
      have h19:=q0b hG19
      have s1719:=s18.trans s19
      have s1419:=s1417.trans s1719
      have s1319:=s14.trans s1419
      have s1219:=s13.trans s1319
      have s1119:=s12.trans s1219
      have s1019:=s11.trans s1119
      have s819:=s810.trans s1019
      walk_at "r"
      have b0:=qQ (ms.getD 31 0) (n:=256) (by decide)
      have b1:=qW (ms.getD 31 0) (n:=256) (by decide)
      have c0:=qQ (ms.getD 33 0) (n:=10) (by decide)
      have c1:=qW (ms.getD 33 0) (n:=10) (by decide)
      refine k p ⟨R,0,R - 1,ws,ks.map fun x=>(x % R,(B+x / 14 % 3) % 12),qs.map fun x=>(x % R,1+x / 14 % 255),us.map fun x=>(x % R,x / 14 % 10),ms.getD 31 0 % 256,ms.getD 33 0 % 10⟩ H19 (s8.trans s819) ⟨a1,a2,a3,a4,h19,⟨wps,s1119 _ _ h11,rwp.mono fun _ _=>q2m.mono s819.ts⟩,⟨tps,s1219 _ _ h12,rtp.mono fun _ _=>q04.mono s819.ts⟩,⟨lps,s1319 _ _ h13,rlp.mono fun _ _=>q04.mono s819.ts⟩,⟨vps,s1419 _ _ h14,rvp.mono fun _ _=>q04.mono s1019.ts⟩⟩ ?_
      have wl':ws.length<=6/\1<=ws.length:=by omega
      refine⟨⟨by show 1<=R;omega,by show R<=14;omega,⟨Int.le_refl _,by show 0<R;omega⟩,by show 0<=R - 1/\R - 1<R;omega,by show ws.length<=20;omega,by simp;omega,by simp;omega,by simp;omega,wo,fun x hx=>?_,fun x hx=>?_,fun x hx=>?_,⟨b0,by show ms.getD 31 0 % 256<=255;omega⟩,⟨c0,by show ms.getD 33 0 % 10<=9;omega⟩⟩,by show 1<=ws.length;omega,by simp;omega⟩
      ·obtain ⟨y,_,rfl⟩:=zN.mp hx
       exact⟨⟨qQ y (by omega),qW y (by omega)⟩,qQ _ (by decide),qW _ (by decide)⟩
      ·obtain ⟨y,_,rfl⟩:=zN.mp hx
       have m0:=qQ (y / 14) (n:=255) (by decide)
       have m1:=qW (y / 14) (n:=255) (by decide)
       exact⟨⟨qQ y (by omega),qW y (by omega)⟩,by show 1<=1+y / 14 % 255;omega,by show 1+y / 14 % 255<=255;omega⟩
      ·obtain ⟨y,_,rfl⟩:=zN.mp hx
       have m0:=qQ (y / 14) (n:=10) (by decide)
       have m1:=qW (y / 14) (n:=10) (by decide)
       exact⟨⟨qQ y (by omega),qW y (by omega)⟩,m0,by show y / 14 % 10<=9;omega⟩
def knD (row:List Sd):Dk:=row.map fun x=>(x,V.bl true)
theorem q77 (row:List Sd):(knD row).map (·.1)=row:=by
 unfold knD
 rw[zae]
 exact(zaj fun a _=>rfl).trans (zbf row)
theorem CvOk.few {C:Cl}(h:CvOk C)(s:Sd):(fitD C s).length<=16:=by
 refine zab (zaI _ _) ?_
 have:=h.m
 simp only[allD,List.length_append,q32]
 omega
theorem q7E {row:List Sd}{y:Sd}(h:row.Nodup)(hy:y∉row):(row++[y]).Nodup:=zau.mpr ⟨h,by simp,fun a ha b hb e=>hy (by rw[List.mem_singleton.mp hb] at e;rw[<-e];exact ha)⟩
def q6Q:Sp:=fun vs H Q _=>∃(c q:Addr) (C:Cl) (s:Sd) (m:Nat),vs=[.ref c,.ref q,.int m]/\ClAt H c C/\CvOk C/\SAt H q s/\s.ok C/\m<=40/\∀(r:Addr) (row:List Sd) (H':Hp),Same H H'->H r=none->qI SAt H' r row->row.Nodup->row.length<=55->1<=row.length->(∀x∈row,x.ok C)->Q (.ref r) H'
theorem q8w (T:Txt mg cs)(L:Laid K mg "_law_coming" q1b ["_law_cave_here","_law_stand","_law_most"])(wr:Cal P w K mg base 4 "_law_next" ["_law_cave_here","_law_stand"] q2L):Cal P w K mg base 5 "_law_coming" ["_law_cave_here","_law_stand","_law_most"] q6Q:=by
 refine L.cal (k:=4) q0D (fun vs H Q E h=>?_) (fun f cdv A outer s H vs Q E hr h=>?_)
 ·obtain ⟨c,q,C,st,m,rfl,_⟩:=h
  rfl
 ·obtain ⟨c,q,C,st,m,rfl,hC,cv,hq,sok,hm,k⟩:=h
  have big:=qE
  have ok:=cv.ok
  refine⟨_,(qe (qv (i:=3) q0D.nd rfl (Or.inl rfl) (q9S (q0w hr) (pv 1) q1g))
   (qe (qv (i:=4) q0D.nd rfl (Or.inl rfl) (q0h (qa (pv 1) qd)))
   (qe (q9J PassesOwn.never (PW.pt (q2B (qq q40 (qx (lenK K) rfl T.wf q02 (qa (pv 4) qd)) qb (qp _)) (q1x (qq q4q (qx lenT rfl T.wf q02 (qa (pv 3) qd)) (pv 2) (qp _))))) (qg (q0z PassesOwn.never rfl (qO K (qz wr hr (by decide) rfl (qa (pv 0) (qa (pe_bm0 zO PySem.F.slot_list_pop PySem.F.type_list_pop mt_pop (pv 4)) qd)))) (q0g (n:=2) K rfl (qr (qk (i:=5) q0D.nd rfl (Or.inl rfl)) (qr (qk (i:=6) q0D.nd rfl (Or.inl rfl)) q0f))) (qg (qN (q2D (q1D (q0w hr) (pv 6) (pv 3))) (qe (q3e (q0w hr) (pv 3) (pv 6) q1g rfl)
   (qg (q07 (q3Y zO zQ zR q0l (pv 4) (qa (pv 6) qd))))) qu)))))
   (qg (qm (qx (qaT K) rfl T.vT q68 (qa (q0L lstD rfl T.waz q9m (qa (pv 3) qd)) qd))))))),?_⟩
  walk_at "r"
  intro D hD
  have s1:=Same.upd (o:= .dT []) hD
  have h1:=qc (H:=H) (a:=D) (o:= .dT [])
  generalize upd H D (.dT [])=H1 at s1 h1 ⊢
  walk_at "r"
  refine⟨q,st.key,rfl,h1,s1 _ _ hq,?_⟩
  have s2:Same H (upd H1 D (.dT [(st.key,V.bl true)])):=s1.put hD
  have d2:DAtS (upd H1 D (.dT [(st.key,V.bl true)])) D (knD [st]):=qc
  generalize upd H1 D (.dT [(st.key,V.bl true)])=H2 at s2 d2 ⊢
  walk_at "r"
  intro W hW2
  have hW:H W=none:=s2.free hW2
  have s3:=s2.trans (Same.upd (o:= .lst [.ref q]) hW2)
  have d3:DAtS (upd H2 W (.lst [.ref q])) D (knD [st]):=(Same.upd (o:= .lst [.ref q]) hW2) _ _ d2
  have w3:=qc (H:=H2) (a:=W) (o:= .lst [.ref q])
  generalize upd H2 W (.lst [.ref q])=H3 at s3 d3 w3 ⊢
  walk_at "r"
  refine qbp (fun n σ H'=>∃(row wt:List Sd) (v5 v6:Option V),σ=[some (.ref c),some (.ref q),some (.int m),some (.ref D),some (.ref W),v5,v6]/\Same H H'/\DAtS H' D (knD row)/\qI SAt H' W wt/\row.Nodup/\(∀x∈row,x.ok C)/\(∀x∈wt,x.ok C)/\1<=row.length/\row.length<=55/\wt.length<=row.length/\n=100 - (row.length - wt.length)) (100 - (1 - 1))
   ⟨[st],[st],none,none,rfl,s3,d3,⟨[q],w3,Rows.nil.snoc (s3 _ _ hq)⟩,by simp,by simpa using sok,by simpa using sok,by simp,by simp,by simp,rfl⟩ ?_
  rintro n σ H4 ⟨row,wt,v5,v6,rfl,s4,hd4,⟨ps,hps,rps⟩,nd,ro,wo,r1,r2',lw,hn⟩
  have lp:ps.length=wt.length:=rps.1
  have kl:(dkv (knD row)).length=row.length:=by simp[dkv,knD]
  have done:rLstD [V.ref D] H4 fun x H1=>qaZ K [x] H1 Q:=by
   refine⟨D,_,rfl,hd4,fun r bs hr0 bl hb=>?_⟩
   have bl':bs.length=row.length:=by rw[bl,kl]
   have s5:=Same.upd (o:= .lst (bs.map V.ref)) hr0
   have rows:Rows SAt (upd H4 r (.lst (bs.map V.ref))) bs row:=⟨bl',fun i p x h1 h2=>by
    have hi:i<row.length:=(yA h2).1
    have:=hb i p (x.key,V.bl true) h1 (by rw[dkv,knD,zae,zT,h2];rfl)
    exact s5 _ _ this⟩
   have lo:qI SAt (upd H4 r (.lst (bs.map V.ref))) r row:=⟨bs,qc,rows⟩
   obtain⟨l,e1,e2,e3⟩:=qI.pairs rows
   have el:(l.map fun x=>V.ref x.1)=bs.map V.ref:=by rw[<-e1,zae];rfl
   have ll:l.length=row.length:=by have:=zM List.length e1;rw[yC] at this;omega
   refine⟨r,l,5,rfl,SqL.of (by rw[el];exact qc),by decide,e3,fun r2 l' hr2 hp hs=>?_⟩
   obtain⟨R,pm,_,rr⟩:=q4u (ps:=bs) e2 e3 hp hs
   have s6:=Same.upd (o:= .lst (l'.map fun x=>V.ref x.1)) hr2
   refine k r2 R _ (s4.trans (s5.trans s6)) (s4.free (s5.free hr2)) ⟨l'.map (·.1),by rw[zae];exact qc,rr.mono fun _ _=>SAt.mono s6.ts⟩ (pm.nodup_iff.mpr nd) (by rw[pm.length_eq];exact r2') (by rw[pm.length_eq];exact r1) fun x hx=>ro x (pm.mem_iff.mp hx)
  walk_at "r"
  rw[yC,lp]
  refine ifd (fun g1=>?_) (fun g1=>?_)
  ·walk_at "r"
   refine⟨D,_,rfl,hd4,?_⟩
   rw[kl]
   walk_at "r"
   refine ifd (fun g2=>?_) (fun g2=>?_)
   ·obtain ⟨wt0,x,rfl⟩:∃wt0 x,wt=wt0++[x]:=⟨wt.dropLast,wt.getLast (by intro z;rw[z] at g1;simp at g1),(zb6 _).symm⟩
    obtain⟨ps0,p,rfl⟩:∃ps0 p,ps=ps0++[p]:=⟨ps.dropLast,ps.getLast (by intro z;rw[z] at lp;simp at lp),(zb6 _).symm⟩
    rw[zk,zk] at lp
    have lp0:ps0.length=wt0.length:=by simpa using lp
    have hpx:SAt H4 p x:=rps.2 wt0.length p x (by simp[<-lp0]) (by simp)
    have rps0:Rows SAt H4 ps0 wt0:=⟨lp0,fun i a b h1 h2=>rps.2 i a b (by rw[zI (yA h1).1];exact h1) (by rw[zI (yA h2).1];exact h2)⟩
    have xok:x.ok C:=wo x (by simp)
    have lw0:wt0.length+1<=row.length:=by simpa using lw
    have fx:=cv.few x
    have neWD:W≠D:=q4V hps hd4 (by intro z;cases z)
    refine⟨fun σ' H'=>∃(row' wt':List Sd) (v5 v6:Option V),σ'=[some (.ref c),some (.ref q),some (.int m),some (.ref D),some (.ref W),v5,v6]/\Same H H'/\DAtS H' D (knD row')/\qI SAt H' W wt'/\row'.Nodup/\(∀x∈row',x.ok C)/\(∀x∈wt',x.ok C)/\row.length<=row'.length/\row'.length<=row.length+16/\wt'.length+row.length=wt0.length+row'.length,?_,?_⟩
    ·rintro σ' H' ⟨row',wt',v5,v6,rfl,y1,y2,y3,y4,y5,y6,y7,y8,y9⟩
     have hl:(wt0++[x]).length=wt0.length+1:=by simp
     exact⟨100 - (row'.length - wt'.length),by omega,row',wt',v5,v6,rfl,y1,y2,y3,y4,y5,y6,by omega,by omega,by omega,rfl⟩
    walk_at "r"
    refine⟨W,_,.ref p,rfl,rfl,hps,by simp,?_⟩
    rw[show((ps0++[p]).map V.ref).dropLast=ps0.map V.ref by rw[zv];simp]
    have ts5:=q0o.lst (o:= .lst (ps0.map V.ref)) hps
    have s5:Same H (upd H4 W (.lst (ps0.map V.ref))):=s4.put hW
    have w5:=qc (H:=H4) (a:=W) (o:= .lst (ps0.map V.ref))
    have d5:DAtS (upd H4 W (.lst (ps0.map V.ref))) D (knD row):=DAtS.lput hps hd4
    generalize upd H4 W (.lst (ps0.map V.ref))=H5 at ts5 s5 w5 d5 ⊢
    walk_at "r"
    refine⟨c,p,C,x,rfl,hC.mono s5.ts,ok,SAt.mono ts5 hpx,xok,fun lq H6 s6 hl0 m6=>?_⟩
    obtain⟨qs,hqs,rqs⟩:=m6
    have neqW:lq≠W:=fun z=>by subst z;rw[hl0] at w5;cases w5
    have neqD:lq≠D:=fun z=>by rw[z,show H5 D=some _ from d5] at hl0;cases hl0
    walk_at "r"
    refine q1v (qs.map V.ref) (fun i σ' H'=>∃(row' wt':List Sd) (v5 v6:Option V),σ'=[some (.ref c),some (.ref q),some (.int m),some (.ref D),some (.ref W),v5,v6]/\Same H H'/\H' lq=some (.lst (qs.map V.ref))/\Rows (PrAt C x) H' qs (fitD C x)/\DAtS H' D (knD row')/\qI SAt H' W wt'/\row'.Nodup/\(∀x∈row',x.ok C)/\(∀x∈wt',x.ok C)/\row.length<=row'.length/\row'.length<=row.length+i/\wt'.length+row.length=wt0.length+row'.length)
     ⟨row,wt0,v5,v6,rfl,s5.trans s6,hqs,rqs,s6 _ _ d5,⟨ps0,s6 _ _ w5,rps0.mono fun _ _=>SAt.mono (ts5.trans s6.ts)⟩,nd,ro,fun y hy=>wo y (za0 _ hy),zc _,zc _,rfl⟩ ?_ ?_ ?_
    ·rintro i σ' H' ⟨_,_,_,_,rfl,_,e,_⟩
     exact SqL.of e
    ·rintro i z σ' H7 hz ⟨row',wt',v5,v6,rfl,s7,l7,rq7,hd7,⟨us,hus,rus⟩,nd',ro',wo',z1,z2,z3⟩
     have hi:i<(fitD C x).length:=by have:=(yA hz).1;rw[yC,rqs.1] at this;exact this
     obtain⟨p',ep',hp7⟩:=rq7.get hi
     rw[hz] at ep'
     cases ep'
     obtain⟨t,r,e7,_,hr7⟩:=hp7
     have hyok:(q0N C x (fitD C x)[i].1 ((fitD C x)[i].2:Int)).ok C:=qci ok xok (q76.mp (by rw[Prod.eta];exact zx hi))
     generalize q0N C x (fitD C x)[i].1 ((fitD C x)[i].2:Int)=y at hr7 hyok
     have hr7:SAt H7 r y:=hr7
     have ul:us.length<=60:=by rw[rus.1];omega
     intro D2 hn2 hc2 hb2 hr2
     walk_at "r"
     refine⟨D,_,rfl,q3s (.inl hd7) hr7,?_⟩
     rw[q2v,q77]
     walk_at "r"
     by_cases hin:y∈row'
     ·rw [ze hin]
      walk_at "r"
      exact hn2 _ _ ⟨row',wt',_,_,rfl,s7,l7,rq7,hd7,⟨us,hus,rus⟩,nd',ro',wo',z1,by omega,z3⟩
     ·rw [zf hin]
      walk_at "r"
      refine⟨D,_,rfl,q7c hd7 hr7 (by simp[knD];omega) (by rw[q77];exact hin),?_⟩
      have ek:knD row'++[(y,V.bl true)]=knD (row'++[y]):=by simp[knD]
      rw[ek]
      have ts8:=qaz (o:= .dT (dkv (knD (row'++[y])))) hd7
      have s8:Same H (upd H7 D (.dT (dkv (knD (row'++[y]))))):=s7.put hD
      have d8:DAtS (upd H7 D (.dT (dkv (knD (row'++[y]))))) D (knD (row'++[y])):=qc
      have l8:upd H7 D (.dT (dkv (knD (row'++[y])))) lq=some (.lst (qs.map V.ref)):=by rw[qw neqD];exact l7
      have u8:upd H7 D (.dT (dkv (knD (row'++[y])))) W=some (.lst (us.map V.ref)):=by rw[qw neWD];exact hus
      generalize upd H7 D (.dT (dkv (knD (row'++[y]))))=H8 at ts8 s8 d8 l8 u8 ⊢
      walk_at "r"
      refine q3U u8 (by rw[yC];omega) ?_
      have ts9:=q0o.lst (o:= .lst (us.map V.ref++[.ref r])) u8
      exact hn2 _ _ ⟨row'++[y],wt'++[y],_,_,rfl,s8.put hW,by rw[qw neqW];exact l8,rq7.mono fun _ _ h=>PrAt.mono (ts8.trans ts9) h,DAtS.lput u8 d8,qS (fun _ _=>SAt.put u8) (rus.mono fun _ _=>SAt.mono ts8) (SAt.mono ts8 hr7),q7E nd' hin,fun z hz=>by rcases zr.mp hz with h|h;exact ro' z h;rw[zu.mp h];exact hyok,fun z hz=>by rcases zr.mp hz with h|h;exact wo' z h;rw[zu.mp h];exact hyok,by rw[zk];simp;omega,by rw[List.length_append];simp;omega,by rw[List.length_append,List.length_append];simp;omega⟩
    ·rintro σ' H7 ⟨row',wt',v5,v6,rfl,s7,l7,rq7,hd7,hw7,nd',ro',wo',z1,z2,z3⟩
     rw[yC,rqs.1] at z2
     exact⟨row',wt',_,_,rfl,s7,hd7,hw7,nd',ro',wo',z1,by omega,z3⟩
   ·walk_at "r"
    exact done
  ·walk_at "r"
   exact done
theorem q6q {K:W.Frag}{n:Nat}{H:Hp}{Q:VK}{a b:Addr}{ps:List Addr}(ha:H a=some (.lst (ps.map V.ref)))(hb:H b=some (.lst []))(k:Q (.bl (!decide (ps=[]))) H):rNeD K n (.ref a) (.ref b) H Q:=by
 by_cases e:ps=[]
 ·subst e
  exact .inl ⟨a,b,[],[],fun _=>true,rfl,rfl,SqL.of ha,SqL.of hb,rfl,fun j h _=>absurd h (zcB _),k⟩
 ·rw [zf e] at k
  exact .inr ⟨a,b,_,_,rfl,rfl,SqL.of ha,SqL.of hb,by intro z;rw[yC] at z;exact e (zba.mp z),k⟩
theorem q6r {K:W.Frag}{n:Nat}{H:Hp}{Q:VK}{a b:Addr}{ps:List Addr}(ha:H a=some (.lst (ps.map V.ref)))(hb:H b=some (.lst []))(k:Q (.bl (decide (ps=[]))) H):rEqD K n (.ref a) (.ref b) H Q:=by
 by_cases e:ps=[]
 ·subst e
  exact .inr (.inl ⟨a,b,[],[],fun _=>true,rfl,rfl,SqL.of ha,SqL.of hb,rfl,fun j h _=>absurd h (zcB _),k⟩)
 ·rw [zf e] at k
  exact .inr (.inr ⟨a,b,_,_,rfl,rfl,SqL.of ha,SqL.of hb,by intro z;rw[yC] at z;exact e (zba.mp z),k⟩)
def AhAt (H:Hp)(v:V):Prop:=∃a ys,v= .ref a/\qI SAt H a ys/\ys.length<=16
theorem AhAt.same {H H':Hp}(s:Same H H'){v:V}(h:AhAt H v):AhAt H' v:=let ⟨a,ys,e,⟨ps,h1,h2⟩,l⟩:=h;⟨a,ys,e,⟨ps,s _ _ h1,h2.mono fun _ _=>SAt.mono s.ts⟩,l⟩
theorem AhAt.dput {H:Hp}{D:Addr}{kvs:List (List Key×V)}{o:HO}(hD:H D=some (.dT kvs)){v:V}(h:AhAt H v):AhAt (upd H D o) v:=
 let ⟨a,ys,e,⟨ps,h1,h2⟩,l⟩:=h;⟨a,ys,e,⟨ps,by rw[qw (q4V h1 hD (by intro z;cases z))];exact h1,h2.mono fun _ _=>SAt.mono (qaz hD)⟩,l⟩
def Num (kn:Dk):Prop:=∀p∈kn,∃n:Nat,p.2=V.int n/\n<=110
theorem Num.snoc {kn:Dk}(h:Num kn){x:Sd}{n:Nat}(hn:n<=110):Num (kn++[(x,.int n)]):=fun p hp=>by
 rcases zr.mp hp with h1|h1
 ·exact h p h1
 ·rw [zu.mp h1];exact⟨n,rfl,hn⟩
theorem q5X {kn:Dk}{x:Sd}{v:V}:(kn++[(x,v)]).map (·.1)=kn.map (·.1)++[x]:=by simp
def qaQ:Sp:=fun vs H Q _=>∃(c l:Addr) (C:Cl) (row:List Sd),vs=[.ref c,.ref l]/\ClAt H c C/\CvOk C/\qI SAt H l row/\row.Nodup/\row.length<=110/\(∀x∈row,x.ok C)/\∀(D:Addr) (kn:Dk) (H':Hp),Same H H'->H D=none->DAtS H' D kn->Num kn->Q (.ref D) H'
theorem qbM (T:Txt mg cs)(L:Laid K mg "_law_near" q0O ["_law_cave_here","_law_stands"])(wr:Cal P w K mg base 4 "_law_next" ["_law_cave_here","_law_stand"] q2L):Cal P w K mg base 5 "_law_near" ["_law_cave_here","_law_stands"] qaQ:=by
 refine L.cal (k:=4) q0i (fun vs H Q E h=>?_) (fun f cdv A outer s H vs Q E hr h=>?_)
 ·obtain ⟨c,l,C,row,rfl,_⟩:=h
  rfl
 ·obtain ⟨c,l,C,row,rfl,hC,cv,⟨ps,hps,rps⟩,nd,rl,ro,k⟩:=h
  have big:=qE
  have ok:=cv.ok
  obtain⟨pw,pt,pl,pv',h0,_⟩:=hC.ex
  refine⟨_,(qe (qv (i:=2) q0i.nd rfl (Or.inr rfl) q3C)
   (qe (qv (i:=3) q0i.nd rfl (Or.inl rfl) q3C)
   (qe (q0z PassesOwn.never rfl (qO K (pv 1)) (qk (i:=4) q0i.nd rfl (Or.inl rfl)) (qe (q3e (q0w hr) (pv 3) (pv 4) (q0C (q0p (N:=["_law_deed","_law_other"]) (own:=2) (caps:=[]) ["_law_cave_here","_law_stands","_law_number","_law_ahead","_law_stand","_law_turn","_law_fresh"] (qh q0O) (by walk_at "k")) rfl (qO K (qz wr hr (by decide) rfl (qa (pv 0) (qa (pv 4) qd)))) (fun _ _ _ _=>(q0g (n:=2) K rfl (qr (qk (i:=0) (show List.Nodup (["_law_deed","_law_other"]:List Str) by walk_at "k") rfl (Or.inl rfl)) (qr (qk (i:=1) (show List.Nodup (["_law_deed","_law_other"]:List Str) by walk_at "k") rfl (Or.inl rfl)) q0f)))) (fun _ _ _ _=>q18) (fun _ _ _ _=>(pv 1))) rfl)
   (qg (qN (qq q01 (qj (qf K) (pv 4) qb (fun _ _=>rfl)) (qj (qf K) (pv 0) qb (fun _ _=>rfl)) (qp _)) (qg (q3e (q0w hr) (pv 2) (pv 4) qb rfl)) qu))))
   (qe (q0z PassesOwn.never rfl (q5Q rfl T.wu (qa qb (qa (qi q05 (qx (lenK K) rfl T.wf q02 (qa (pv 1) qd)) qb) qd))) (qk (i:=5) q0i.nd rfl (Or.inl rfl)) (qe (qv (i:=6) q0i.nd rfl (Or.inl rfl) (q0h qd))
   (qe (q0z PassesOwn.never rfl (qO K (pv 1)) (qk (i:=4) q0i.nd rfl (Or.inl rfl)) (qg (qN (PW.pt (q2B (q2D (q1D (q0w hr) (pv 4) (pv 2))) (q1x (qq (q8s K 1 (q34 hr)) (q0C (q0p (N:=["_law_other","_law_number"]) (own:=1) (caps:=[2]) ["_law_cave_here","_law_stands","_law_number","_law_ahead","_law_stand","_law_turn","_law_fresh"] (qh q0O) (by walk_at "k")) rfl (qO K (q3W (q0w hr) (pv 3) (pv 4) (fun _ _=>rfl))) (fun _ _ _ _=>(qk (i:=0) (show List.Nodup (["_law_other","_law_number"]:List Str) by walk_at "k") rfl (Or.inl rfl))) (fun _ _ _ _=>(q3p (q2D (q8r (q0w hr) (pv 0) (pv 1))))) (fun _ _ _ _=>(pv 0))) (q0h qd) (qp _))))) (qg (q07 (q3Y zO zQ zR q0l (pv 6) (qa (pv 4) qd)))) qu)))
   (qe (qN (qq (q72 K 1 (q34 hr)) (pv 6) (q0h qd) (qp _)) (qg (qm (pv 2))) qu)
   (qg (q0z PassesOwn.never rfl (qO K (pv 6)) (qk (i:=4) q0i.nd rfl (Or.inl rfl)) (qg (q3e (q0w hr) (pv 2) (pv 4) (pv 5) rfl))))))))
   (qg (qm (pv 2))))))),?_⟩
  walk_at "r"
  intro D hD
  have s1:=Same.upd (o:= .dT []) hD
  have h1:DAtS (upd H D (.dT [])) D []:=qc
  generalize upd H D (.dT [])=H1 at s1 h1 ⊢
  walk_at "r"
  intro A hA1
  have hA:H A=none:=s1.free hA1
  have s2:=s1.trans (Same.upd (o:= .dT []) hA1)
  have d2:DAtS (upd H1 A (.dT [])) D []:=(Same.upd (o:= .dT []) hA1) _ _ h1
  have a2:DAtS (upd H1 A (.dT [])) A []:=qc
  have neDA:D≠A:=fun z=>by rw[<-z,show H1 D=some _ from h1] at hA1;cases hA1
  generalize upd H1 A (.dT [])=H2 at s2 d2 a2 ⊢
  have l2:=s2 _ _ hps
  walk_at "r"
  refine q1v (ps.map V.ref) (fun i σ H'=>∃(kn ka:Dk) (v4:Option V),σ=[some (.ref c),some (.ref l),some (.ref D),some (.ref A),v4,none,none]/\Same H H'/\DAtS H' D kn/\DAtS H' A ka/\Num kn/\ka.map (·.1)=row.take i/\(∀x∈kn.map (·.1),x∈row.take i)/\kn.length<=i/\(∀p∈ka,AhAt H' p.2))
   ⟨[],[],none,rfl,s2,d2,a2,fun _ h=>absurd h (by simp),rfl,fun _ h=>absurd h (by simp),zc _,fun _ h=>absurd h (by simp)⟩ ?_ ?_ ?_
  ·rintro i σ' H' ⟨_,_,_,rfl,s3,_⟩
   exact SqL.of (s3 _ _ hps)
  ·rintro i z σ' H3 hz ⟨kn,ka,v4,rfl,s3,hd3,ha3,nm,ek,sk,lk,aa⟩
   have hi:i<row.length:=by have:=(yA hz).1;rw[yC,rps.1] at this;exact this
   obtain⟨p,ep,hp⟩:=rps.get hi
   rw[hz] at ep
   cases ep
   have hxm:row[i]∈row:=zx hi
   have xok:=ro _ hxm
   have et:row.take (i+1)=row.take i++[row[i]]:=zn hi
   have hnx:row[i]∉row.take i:=fun h=>by
    have:=nd.sublist (zP (i+1) row)
    rw[et,zau] at this
    exact this.2.2 _ h _ (by simp) rfl
   generalize row[i]=x at hp xok et hnx hxm
   intro D2 hn2 hc2 hb2 hr2
   walk_at "r"
   refine⟨c,p,C,x,rfl,hC.mono s3.ts,ok,s3 _ _ hp,xok,fun lq H4 s4 hl0 m4=>?_⟩
   obtain⟨qs,hqs,rqs⟩:=m4
   have fx:=cv.few x
   walk_at "r"
   intro D3 hD3
   refine q0c (qs.map V.ref) (fun j σ H''=>∃v0 v1 ys,σ=[v0,v1]/\Same H4 H''/\qI SAt H'' D3 ys/\ys.length=j) ⟨none,none,[],rfl,Same.upd hD3,⟨[],qc,Rows.nil⟩,rfl⟩ ?_ ?_ ?_
   ·rintro j σ H'' ⟨_,_,_,rfl,s5,_⟩
    exact SqL.of (s5 _ _ hqs)
   ·rintro j z σ H5 hz ⟨v0,v1,ys,rfl,s5,⟨us,hus,rus⟩,ly⟩
    have hj:j<(fitD C x).length:=by have:=(yA hz).1;rw[yC,rqs.1] at this;exact this
    obtain⟨p5,ep,hp5⟩:=rqs.get hj
    rw[hz] at ep
    cases ep
    obtain⟨t,r,e5,_,hr5⟩:=PrAt.mono s5.ts hp5
    walk_at "r"
    refine⟨_,hus,by rw[yC,rus.1];omega,_,_,ys++[_],rfl,s5.put hD3,qS (fun _ _=>SAt.put hus) rus hr5,by simp[ly]⟩
   ·rintro σ H5 ⟨v0,v1,ys,rfl,s5,m5,ly⟩
    rw[yC,rqs.1] at ly
    have s45:=s4.trans s5
    have s35:=s3.trans s45
    have hd5:DAtS H5 D kn:=s45 _ _ hd3
    have ha5:DAtS H5 A ka:=s45 _ _ ha3
    have kal:ka.length=i:=by have:=zM List.length ek;rw[yC,zl] at this;omega
    walk_at "r"
    refine⟨A,_,rfl,q7c ha5 (s35 _ _ hp) (by omega) (by rw[ek];exact hnx),?_⟩
    have ts6:=qaz (o:= .dT (dkv (ka++[(x,.ref D3)]))) ha5
    have s6:Same H (upd H5 A (.dT (dkv (ka++[(x,.ref D3)])))):=s35.put hA
    have a6:DAtS (upd H5 A (.dT (dkv (ka++[(x,.ref D3)])))) A (ka++[(x,.ref D3)]):=qc
    have d6:DAtS (upd H5 A (.dT (dkv (ka++[(x,.ref D3)])))) D kn:=by show upd _ _ _ D=_;rw[qw neDA];exact hd5
    have aa6:∀p∈ka++[(x,V.ref D3)],AhAt (upd H5 A (.dT (dkv (ka++[(x,.ref D3)])))) p.2:=fun p hp=>by
     rcases zr.mp hp with h|h
     ·exact AhAt.dput ha5 ((aa p h).same s45)
     ·rw [zu.mp h]
      exact AhAt.dput ha5 ⟨D3,ys,rfl,m5,by omega⟩
    generalize upd H5 A (.dT (dkv (ka++[(x,.ref D3)])))=H6 at ts6 s6 a6 d6 aa6 ⊢
    have ek6:(ka++[(x,V.ref D3)]).map (·.1)=row.take (i+1):=by rw[q5X,ek,et]
    obtain⟨vp6,hvp6⟩:∃v,ka++[(x,V.ref D3)]=v:=⟨_,rfl⟩
    rw[hvp6] at a6 aa6 ek6
    have p6:H6 p=some (.tup [.int x.rm,.int x.tk,.int x.op,.int x.b,.int x.wt]):=s6 _ _ hp
    have c6:=s6 _ _ h0
    walk_at "r"
    refine ifd (fun g1=>?_) (fun g1=>?_)
    ·walk_at "r"
     have hnk:x∉kn.map (·.1):=fun z=>hnx (sk x z)
     refine⟨D,_,rfl,q7c d6 (s6 _ _ hp) (by omega) hnk,?_⟩
     refine hn2 _ _ ⟨kn++[(x,V.int ((0:Nat):Int))],vp6,_,rfl,s6.put hD,by show upd _ _ _ D=_;exact qc,by show upd _ _ _ A=_;rw[qw neDA.symm];exact a6,nm.snoc (zan _),ek6,fun y hy=>?_,by rw[zk];simp;omega,fun p hp=>AhAt.dput d6 (aa6 p hp)⟩
     rw[q5X] at hy
     rw[et]
     rcases zr.mp hy with h|h
     ·exact za0 _ (sk y h)
     ·exact z9 _ h
    ·walk_at "r"
     exact hn2 _ _ ⟨kn,vp6,_,rfl,s6,d6,a6,nm,ek6,fun y hy=>by rw[et];exact za0 _ (sk y hy),by omega,aa6⟩
  ·rintro σ' H3 ⟨kn,ka,v4,rfl,s3,hd3,ha3,nm,ek,sk,lk,aa⟩
   rw[yC,rps.1,zG] at ek sk
   have l3:=s3 _ _ hps
   walk_at "r"
   rw[yC,rps.1]
   refine⟨_,_,rfl,by omega,?_⟩
   rw[show((row.length:Int)+1 - 1).toNat=row.length by omega]
   refine q24 (fun i σ H'=>∃(kn:Dk) (v4 v5 v6:Option V),σ=[some (.ref c),some (.ref l),some (.ref D),some (.ref A),v4,v5,v6]/\Same H H'/\DAtS H' D kn/\DAtS H' A ka/\Num kn/\kn.length<=110*(i+1)/\(∀p∈ka,AhAt H' p.2)) ⟨kn,v4,none,none,rfl,s3,hd3,ha3,nm,by rw[yC,rps.1] at lk;omega,aa⟩ ?_ ?_
   ·clear s3 hd3 ha3 nm sk lk aa l3
    rintro i σ' H3 hi ⟨kn,v4,v5,v6,rfl,s3,hd3,ha3,nm,lk,aa⟩
    intro D2 hn2 hc2 hb2 hr2
    walk_at "r"
    intro W hW3
    have hW:H W=none:=s3.free hW3
    have s4:=Same.upd (o:= .lst []) hW3
    have w4:=qc (H:=H3) (a:=W) (o:= .lst [])
    generalize upd H3 W (.lst [])=H4 at s4 w4 ⊢
    have l4:=(s3.trans s4) _ _ hps
    walk_at "r"
    refine q1v (ps.map V.ref) (fun j σ H'=>∃(fr:List Sd) (v4:Option V),σ=[some (.ref c),some (.ref l),some (.ref D),some (.ref A),v4,some (.int (1+(i:Nat))),some (.ref W)]/\Same H3 H'/\qI SAt H' W fr/\List.Sublist fr (row.take j)/\∀x∈fr,x∉kn.map (·.1))
     ⟨[],v4,rfl,s4,⟨[],w4,Rows.nil⟩,by simp,by simp⟩ ?_ ?_ ?_
    ·rintro j σ' H' ⟨_,_,rfl,s5,_⟩
     exact SqL.of ((s3.trans s5) _ _ hps)
    ·rintro j z σ' H5 hz ⟨fr,v4,rfl,s5,⟨us,hus,rus⟩,sub,out⟩
     have hj:j<row.length:=by have:=(yA hz).1;rw[yC,rps.1] at this;exact this
     obtain⟨p,ep,hp⟩:=rps.get hj
     rw[hz] at ep
     cases ep
     have hxm:row[j]∈row:=zx hj
     have et:row.take (j+1)=row.take j++[row[j]]:=zn hj
     generalize row[j]=x at hp hxm et
     have s35:=s3.trans s5
     have p5:SAt H5 p x:=s35 _ _ hp
     have keep:List.Sublist fr (row.take (j+1)):=by rw[et];exact sub.trans (List.sublist_append_left _ _)
     have ul:us.length<=110:=by rw[rus.1];have:=sub.length_le;rw[zl] at this;omega
     intro D3 hn3 hc3 hb3 hr3
     walk_at "r"
     refine⟨D,_,rfl,q3s (.inl (s5 _ _ hd3)) p5,?_⟩
     rw[q2v]
     by_cases hk:x∈kn.map (·.1)
     ·rw [ze hk]
      walk_at "r"
      exact hn3 _ _ ⟨fr,_,rfl,s5,⟨us,hus,rus⟩,keep,out⟩
     ·rw [zf hk]
      walk_at "r"
      obtain⟨v,hv⟩:∃v,dat ka x=some v:=by
       have:(dat ka x).isSome=true:=by rw[q2v,ek];exact ze hxm
       exact zaK.mp this
      have hva:AhAt H5 v:=by
       unfold dat at hv
       rw[zaR] at hv
       obtain⟨pr,hpr,rfl⟩:=hv
       exact(aa pr (zcr hpr)).same s5
      have hg:=q3s (.inl (s5 _ _ ha3)) p5
      rw[hv] at hg
      obtain⟨a,ys,rfl,⟨as,has,ras⟩,ly⟩:=hva
      refine⟨A,_,rfl,hg,?_⟩
      walk_at "r"
      intro D4 hD4
      refine q0c (as.map V.ref) (fun j σ H''=>∃(v0:Option V) (zs:List Sd),σ=[v0,some (.ref D)]/\Same H5 H''/\qI SAt H'' D4 zs/\zs.length<=j) ⟨none,[],rfl,Same.upd hD4,⟨[],qc,Rows.nil⟩,zc _⟩ ?_ ?_ ?_
      ·rintro j σ H'' ⟨_,_,rfl,s6,_⟩
       exact SqL.of (s6 _ _ has)
      ·rintro j2 z σ H6 hz ⟨v0,zs,rfl,s6,⟨bs,hbs,rbs⟩,lz⟩
       have hj2:j2<ys.length:=by have:=(yA hz).1;rw[yC,ras.1] at this;exact this
       obtain⟨p6,ep,hp6⟩:=ras.get hj2
       rw[hz] at ep
       cases ep
       have hp6:=s6 _ _ hp6
       walk_at "r"
       refine⟨D,_,rfl,q3s (.inl ((s5.trans s6) _ _ hd3)) hp6,?_⟩
       rw[q2v]
       refine⟨_,rfl,ifd (fun g1=>?_) (fun g1=>?_)⟩
       ·walk_at "r"
        exact⟨_,hbs,by rw[yC,rbs.1];omega,_,zs++[_],rfl,s6.put hD4,qS (fun _ _=>SAt.put hbs) ⟨rbs.1,rbs.2⟩ hp6,by rw[zk];simp;omega⟩
       ·exact ⟨_,zs,rfl,s6,⟨bs,hbs,rbs⟩,by omega⟩
      ·rintro σ H6 ⟨v0,zs,rfl,s6,⟨bs,hbs,rbs⟩,lz⟩
       walk_at "r"
       intro D5 hD5
       have s7:=Same.upd (o:= .lst []) hD5
       have e7:=qc (H:=H6) (a:=D5) (o:= .lst [])
       generalize upd H6 D5 (.lst [])=H7 at s7 e7 ⊢
       refine q6q (s7 _ _ hbs) e7 ?_
       have s57:=s6.trans s7
       have w7:=s57 _ _ hus
       by_cases g1:bs=[]
       rotate_left
       ·rw [zf g1]
        walk_at "r"
        refine q3U w7 (by rw[yC];omega) ?_
        refine hn3 _ _ ⟨fr++[x],_,rfl,(s5.trans s57).put hW3,qS (fun _ _=>SAt.put w7) (rus.mono fun _ _=>SAt.mono s57.ts) (s57 _ _ p5),?_,?_⟩
        ·rw [et]
         exact sub.append (List.Sublist.refl _)
        ·intro y hy
         rcases zr.mp hy with h|h
         ·exact out y h
         ·rw [zu.mp h];exact hk
       ·rw [ze g1]
        walk_at "r"
        exact hn3 _ _ ⟨fr,_,rfl,s5.trans s57,⟨us,w7,rus.mono fun _ _=>SAt.mono s57.ts⟩,keep,out⟩
    ·rintro σ' H5 ⟨fr,v4,rfl,s5,⟨us,hus,rus⟩,sub,out⟩
     rw[yC,rps.1,zG] at sub
     have lf:=sub.length_le
     have ndf:=nd.sublist sub
     walk_at "r"
     intro D5 hD5
     have s7:=Same.upd (o:= .lst []) hD5
     have e7:=qc (H:=H5) (a:=D5) (o:= .lst [])
     generalize upd H5 D5 (.lst [])=H7 at s7 e7 ⊢
     have s37:=s5.trans s7
     have w7:=s7 _ _ hus
     refine q6r w7 e7 ?_
     refine⟨_,rfl,ifd (fun g1=>?_) (fun g1=>?_)⟩
     ·walk_at "r"
      exact hr2 _ _ (k D kn H7 (s3.trans s37) hD (s37 _ _ hd3) nm)
     ·walk_at "r"
      have d7:DAtS H7 D kn:=s37 _ _ hd3
      have neWD:W≠D:=q4V w7 d7 (by intro z;cases z)
      refine q1v (us.map V.ref) (fun j σ H'=>∃(v4:Option V),σ=[some (.ref c),some (.ref l),some (.ref D),some (.ref A),v4,some (.int (1+(i:Nat))),some (.ref W)]/\Same H H'/\DAtS H' D (kn++(fr.take j).map fun x=>(x,V.int ((1+i:Nat):Int)))/\DAtS H' A ka/\H' W=some (.lst (us.map V.ref))/\Rows SAt H' us fr/\∀p∈ka,AhAt H' p.2)
       ⟨v4,rfl,s3.trans s37,by rw[List.take_zero,zct,zH];exact d7,s37 _ _ ha3,w7,rus.mono fun _ _=>SAt.mono s7.ts,fun p hp=>(aa p hp).same s37⟩ ?_ ?_ ?_
      ·rintro j σ' H' ⟨_,rfl,_,_,_,e,_⟩
       exact SqL.of e
      ·rintro j z σ' H8 hz ⟨v4,rfl,s8,d8,a8,w8,r8,aa8⟩
       have hj:j<fr.length:=by have:=(yA hz).1;rw[yC,r8.1] at this;exact this
       obtain⟨p,ep,hp⟩:=r8.get hj
       rw[hz] at ep
       cases ep
       have et:fr.take (j+1)=fr.take j++[fr[j]]:=zn hj
       have hnx:fr[j]∉fr.take j:=fun h=>by
        have:=ndf.sublist (zP (j+1) fr)
        rw[et,zau] at this
        exact this.2.2 _ h _ (by simp) rfl
       have hnk:=out _ (zx hj)
       intro D3 hn3 hc3 hb3 hr3
       walk_at "r"
       refine⟨D,_,rfl,q7c d8 hp (by rw[zk,yC,zl];omega) (by rw[zv,zae];exact fun z=>(zr.mp z).elim hnk fun z=>hnx (by obtain⟨y,hy,ey⟩:=zN.mp z;rw[<-ey];exact hy)),?_⟩
       refine hn3 _ _ ⟨_,rfl,s8.put hD,?_,by show upd _ _ _ A=_;rw[qw neDA.symm];exact a8,by rw[qw neWD];exact w8,r8.mono fun _ _=>SAt.mono (qaz d8),fun p hp=>AhAt.dput d8 (aa8 p hp)⟩
       rw[et,zv,<-zq]
       exact qc
      ·rintro σ' H8 ⟨v4,rfl,s8,d8,a8,w8,r8,aa8⟩
       rw[yC,r8.1,zG] at d8
       refine hn2 _ _ ⟨_,v4,_,_,rfl,s8,d8,a8,fun p hp=>?_,by rw[zk,yC];omega,aa8⟩
       rcases zr.mp hp with h|h
       ·exact nm p h
       ·obtain ⟨y,_,rfl⟩:=zN.mp h
        exact⟨1+i,rfl,by omega⟩
   ·rintro σ' H4 ⟨kn,v4,v5,v6,rfl,s4,hd4,ha4,nm,_,_⟩
    walk_at "r"
    exact k D kn H4 s4 hD hd4 nm
theorem q94 (ys:List V)(i:Nat):cutV ys none (some (i:Int))=ys.take i:=by
 unfold cutV
 rw[HT.q4U,HT.q6V]
 rcases Nat.le_total i ys.length with h|h
 ·rw [zaL h];simp
 ·rw [Nat.min_eq_right h,zaQ h];simp
theorem q95 (ys:List V)(i:Nat):cutV ys (some (i:Int)) none=ys.drop i:=by
 unfold cutV
 rw[HT.q4U,HT.q6V]
 rcases Nat.le_total i ys.length with h|h
 ·rw [zaL h];exact zaQ (by rw[zS];exact zc _)
 ·rw [Nat.min_eq_right h,List.drop_of_length_le (zc _),List.drop_of_length_le h];simp
theorem q3v {α:Type}{xs:List α}{i:Int}(h0:0<=i)(h1:i<(xs.length:Int)):∃(j:Nat) (h:j<xs.length),i=(j:Int)/\atI xs i=some xs[j]:=by
 obtain⟨j,rfl⟩:=Int.eq_ofNat_of_zero_le h0
 have h:j<xs.length:=Int.ofNat_lt.mp h1
 exact⟨j,h,rfl,q0H (yB h)⟩
structure Ln where
 st:List Int
 dd:Option (Wd×Nat)
 n:Int
def DdAt (H:Hp)(v:V):Option (Wd×Nat)->Prop
 |none=>v= .non
 |some d=>∃t,v= .ref t/\TAt H t d
theorem DdAt.mono {H H':Hp}(s:q0o H H'){v:V}{d:Option (Wd×Nat)}(h:DdAt H v d):DdAt H' v d:=by
 cases d with
 |none=>exact h
 |some d=>exact let ⟨t,e,h⟩:=h;⟨t,e,TAt.mono s h⟩
def LnAt (H:Hp)(p:Addr)(x:Ln):Prop:=∃q v,H p=some (.tup [.ref q,v,.int x.n])/\H q=some (.tup (x.st.map V.int))/\DdAt H v x.dd
theorem LnAt.mono {H H':Hp}(s:q0o H H'){p:Addr}{x:Ln}(h:LnAt H p x):LnAt H' p x:=let ⟨q,v,h1,h2,h3⟩:=h;⟨q,v,s _ _ h1,s _ _ h2,h3.mono s⟩
theorem q3S {α:Type}{At:Hp->Addr->α->Prop}{H:Hp}{ps:List Addr}{xs:List α}(h:Rows At H ps xs)(i:Nat):Rows At H (ps.take i) (xs.take i):=
 ⟨by rw[zl,zl,h.1],fun j p x h1 h2=>by
  rw[zcd] at h1 h2
  split at h1
  ·rename_i hj;rw[zj hj] at h2;exact h.2 j p x h1 h2
  ·cases h1⟩
theorem q3T {α:Type}{At:Hp->Addr->α->Prop}{H:Hp}{ps:List Addr}{xs:List α}(h:Rows At H ps xs)(i:Nat):Rows At H (ps.drop i) (xs.drop i):=
 ⟨by rw[zS,zS,h.1],fun j p x h1 h2=>by
  rw[zcb] at h1 h2
  exact h.2 _ p x h1 h2⟩
theorem q13 {α:Type}{At:Hp->Addr->α->Prop}{H:Hp}{ps qs:List Addr}{xs ys:List α}(h:Rows At H ps xs)(g:Rows At H qs ys):Rows At H (ps++qs) (xs++ys):=
 ⟨by rw[zk,zk,h.1,g.1],fun j p x h1 h2=>by
  by_cases hj:j<ps.length
  ·rw [zI hj] at h1
   rw[zI (by rw[<-h.1];exact hj)] at h2
   exact h.2 j p x h1 h2
  ·rw [zF (by omega)] at h1
   rw[zF (by rw[<-h.1];omega),<-h.1] at h2
   exact g.2 _ p x h1 h2⟩
theorem Num.at {kn:Dk}(h:Num kn){x:Sd}{v:V}(e:dat kn x=some v):∃n:Nat,v= .int n/\n<=110:=by
 unfold dat at e
 rw[zaR] at e
 obtain⟨pr,hpr,rfl⟩:=e
 exact h pr (zcr hpr)
def q84:Sp:=fun vs H Q _=>∃(c l m:Addr) (C:Cl) (row:List Sd) (ns:List Int),vs=[.ref c,.ref l,.ref m]/\ClAt H c C/\CvOk C/\qI SAt H l row/\row.Nodup/\1<=row.length/\row.length<=110/\(∀x∈row,x.ok C)/\H m=some (.lst (ns.map V.int))/\3<=ns.length/\(∀x∈ns,0<=x)/\
 ∀(r:Addr) (ls:List Ln) (H':Hp),Same H H'->qI LnAt H' r ls->(ls.map Ln.st).Perm (row.map Sd.ns)->Q (.ref r) H'
theorem q9Z (T:Txt mg cs)(L:Laid K mg "_law_paper" q1q ["_law_cave_here","_law_stands","_law_numbers_here"])(wr:Cal P w K mg base 4 "_law_next" ["_law_cave_here","_law_stand"] q2L)(vE:Cal P w K mg base 5 "_law_near" ["_law_cave_here","_law_stands"] qaQ):Cal P w K mg base 6 "_law_paper" ["_law_cave_here","_law_stands","_law_numbers_here"] q84:=by
 refine L.cal (k:=5) qJ (fun vs H Q E h=>?_) (fun f cdv A outer s H vs Q E hr h=>?_)
 ·obtain ⟨c,l,m,C,row,ns,rfl,_⟩:=h
  rfl
 ·obtain ⟨c,l,m,C,row,ns,rfl,hC,cv,hrow,nd,r1,rl,ro,hm,m3,mz,k⟩:=h
  have big:=qE
  have ok:=cv.ok
  obtain⟨n0,n1,n2,nr,rfl⟩:∃n0 n1 n2 nr,ns=n0::n1::n2::nr:=by
   match ns,m3 with
   |n0::n1::n2::nr,_=>exact⟨n0,n1,n2,nr,rfl⟩
  have z0:0<=n0:=mz n0 (by simp)
  have z1:0<=n1:=mz n1 (by simp)
  have z2:0<=n2:=mz n2 (by simp)
  refine⟨_,(qe (qv (i:=3) qJ.nd rfl (Or.inl rfl) (qz vE hr (by decide) rfl (qa (pv 0) (qa (pv 1) qd))))
   (qe (qv (i:=4) qJ.nd rfl (Or.inl rfl) (qj (qM K) (q0h (qa qb (qa qb (qa qb (qa (qi op_pow qb qb) qd))))) (qi qC (qj (qM K) (pv 2) qb (fun _ _=>rfl)) qb) (fun _ _=>rfl)))
   (qe (qv (i:=5) qJ.nd rfl (Or.inl rfl) (q0h qd))
   (qe (q0z PassesOwn.never rfl (q03 rfl T.wu (qa (qx (lenK K) rfl T.wf q02 (qa (pv 1) qd)) qd)) (qk (i:=6) qJ.nd rfl (Or.inl rfl)) (qe (qv (i:=7) qJ.nd rfl (Or.inl rfl) (qj (qM K) (pv 1) (pv 6) (fun _ _=>rfl)))
   (qe (qv (i:=8) qJ.nd rfl (Or.inl rfl) (qz wr hr (by decide) rfl (qa (pv 0) (qa (pv 7) qd))))
   (qe (qv (i:=9) qJ.nd rfl (Or.inl rfl) q8p)
   (qe (qN (qq (q8s K 1 (q34 hr)) (pv 8) (q0h qd) (qp _)) (qg (qv (i:=9) qJ.nd rfl (Or.inl rfl) (qj (qf K) (qj (qM K) (pv 8) (qi qC (qi qC (qi q3Z (qj (qM K) (pv 2) qb (fun _ _=>rfl)) (qi q05 (pv 6) qb)) qb) (qx (lenK K) rfl T.wf q02 (qa (pv 8) qd))) (fun _ _=>rfl)) qb (fun _ _=>rfl)))) qu)
   (qe (q0z PassesOwn.never rfl (qO K (pv 8)) (q0g (n:=2) K rfl (qr (qk (i:=10) qJ.nd rfl (Or.inl rfl)) (qr (qk (i:=11) qJ.nd rfl (Or.inl rfl)) q0f))) (qg (qN (PW.pt (q2B (q2D (q8r (q0w hr) (pv 7) (pv 3))) (q1x (qq q4q (q71 (q0w hr) (pv 3) (pv 11) (q3W (q0w hr) (pv 3) (pv 7) (fun _ _=>rfl)) ⟨rfl,rfl,rfl,rfl⟩) (q3W (q0w hr) (pv 3) (pv 7) (fun _ _=>rfl)) (qp _))))) (qg (qv (i:=9) qJ.nd rfl (Or.inl rfl) (pv 10))) qu)))
   (qg (q07 (q3Y zO zQ zR q0l (pv 5) (qa (qA (qa (pv 7) (qa (pv 9) (qa (qi q3Z (q71 (q0w hr) (pv 3) (pv 7) (qi q2h qb (pv 6)) ⟨rfl,rfl,rfl,rfl⟩) (pv 4)) qd)))) qd))))))))))
   (qe (qv (i:=12) qJ.nd rfl (Or.inl rfl) (qi qC (qj (qM K) (pv 2) qb (fun _ _=>rfl)) (qx (max2 rfl) rfl T.wbd qb6 (qa qb (qa (qx (lenK K) rfl T.wf q02 (qa (pv 5) qd)) qd)))))
   (qg (qm (qi q19 (qX (q0R K) (pv 5) (q00 (pv 12)) q0A) (qX (q0R K) (pv 5) q0A (q00 (pv 12))))))))))),?_⟩
  walk_at "r"
  refine⟨c,l,C,row,rfl,hC,cv,hrow,nd,rl,ro,fun D kn H1 s1 hD hd1 nm=>?_⟩
  obtain⟨ps,hps,rps⟩:=hrow
  have m1:=s1 _ _ hm
  walk_at "r"
  intro tl htl
  have s2:=s1.trans (Same.upd (o:= .lst [.int 1,.int 2,.int 3,.int (10 ^ Int.toNat 30)]) htl)
  have d2:DAtS (upd H1 tl (.lst [.int 1,.int 2,.int 3,.int (10 ^ Int.toNat 30)])) D kn:=(Same.upd (o:= .lst [.int 1,.int 2,.int 3,.int (10 ^ Int.toNat 30)]) htl) _ _ hd1
  have t2:=qc (H:=H1) (a:=tl) (o:= .lst [.int 1,.int 2,.int 3,.int (10 ^ Int.toNat 30)])
  generalize upd H1 tl (.lst [.int 1,.int 2,.int 3,.int (10 ^ Int.toNat 30)])=H2 at s2 d2 t2 ⊢
  have m2:H2 m=some (.lst (.int n0:: .int n1:: .int n2::nr.map V.int)):=s2 _ _ hm
  walk_at "r"
  obtain⟨j,hj,ej,aj⟩:=q3v (xs:=[V.int 1,.int 2,.int 3,.int (10 ^ Int.toNat 30)]) (i:=n0 % 4) (qQ _ (by decide)) (qW _ (by decide))
  obtain⟨tm,etm⟩:∃tm:Int,[V.int 1,.int 2,.int 3,.int (10 ^ Int.toNat 30)][j]= .int tm:=by
   have hj':j<4:=hj
   obtain rfl|rfl|rfl|rfl:j=0\/j=1\/j=2\/j=3:=by omega
   all_goals exact⟨_,rfl⟩
  rw[etm] at aj
  refine q2d (SqL.of t2) aj ?_
  clear aj etm ej hj t2 m1 hd1
  walk_at "r"
  intro R hR2
  have hR:H R=none:=s2.free hR2
  have s3:=Same.upd (o:= .lst []) hR2
  have w3:=qc (H:=H2) (a:=R) (o:= .lst [])
  generalize upd H2 R (.lst [])=H3 at s3 w3 ⊢
  have l3:=(s2.trans s3) _ _ hps
  walk_at "r"
  rw[yC,rps.1]
  refine⟨_,rfl,by omega,by omega,?_⟩
  refine q24 (fun i σ H'=>∃(ls:List Ln) (v6 v7 v8 v9 v10 v11:Option V),σ=[some (.ref c),some (.ref l),some (.ref m),some (.ref D),some (.int tm),some (.ref R),v6,v7,v8,v9,v10,v11,none]/\Same H2 H'/\qI LnAt H' R ls/\ls.map Ln.st=(row.take i).map Sd.ns)
   ⟨[],none,none,none,none,none,none,rfl,s3,⟨[],w3,Rows.nil⟩,rfl⟩ ?_ ?_
  ·clear s3 w3 l3
   rintro i σ' H3 hi ⟨ls,v6,v7,v8,v9,v10,v11,rfl,s3,⟨us,hus,rus⟩,els⟩
   rw[zh] at hi
   obtain⟨p,ep,hp⟩:=rps.get hi
   have xok:=ro _ (zx hi)
   have et:row.take (i+1)=row.take i++[row[i]]:=zn hi
   generalize row[i]=x at hp xok et
   have lls:ls.length=i:=by have:=zM List.length els;rw[yC,yC,zl] at this;omega
   have s23:=s2.trans s3
   have l3:=s23 _ _ hps
   intro D2 hn2 hc2 hb2 hr2
   walk_at "r"
   refine⟨c,p,C,x,rfl,hC.mono s23.ts,ok,s23 _ _ hp,xok,fun lq H4 s4 hl0 m4=>?_⟩
   obtain⟨qs,hqs,rqs⟩:=m4
   have fx:=cv.few x
   walk_at "r"
   intro e5 he5
   have s5:=s4.trans (Same.upd (o:= .lst []) he5)
   have e5':=qc (H:=H4) (a:=e5) (o:= .lst [])
   have q5:=(Same.upd (o:= .lst []) he5) _ _ hqs
   have rq5:Rows (PrAt C x) (upd H4 e5 (.lst [])) qs (fitD C x):=rqs.mono fun _ _=>PrAt.mono (Same.upd (o:= .lst []) he5).ts
   generalize upd H4 e5 (.lst [])=H5 at s5 e5' q5 rq5 ⊢
   have s25:=s3.trans s5
   have p5:SAt H5 p x:=(s2.trans s25) _ _ hp
   have d5:=s25 _ _ d2
   refine q6q q5 e5' ?_
   have m5:H5 m=some (.lst (.int n0:: .int n1:: .int n2::nr.map V.int)):=(s2.trans s25) _ _ hm
   rename_i zz hzz
   have fin:∀(v9:V) (dd:Option (Wd×Nat)),DdAt H5 v9 dd->zz ⟨D2.nx,D2.rt,D2.bk,D2.ct⟩ [some (.ref c),some (.ref l),some (.ref m),some (.ref D),some (.int tm),some (.ref R),some (.int (0+(i:Nat))),some (.ref p),some (.ref lq),some v9,v10,v11,none] H5:=by
    intro v9 dd hv9
    walk_at "r"
    refine q1v (qs.map V.ref) (fun j σ H'=>∃(v9:V) (dd:Option (Wd×Nat)) (v10 v11:Option V),σ=[some (.ref c),some (.ref l),some (.ref m),some (.ref D),some (.int tm),some (.ref R),some (.int (0+(i:Nat))),some (.ref p),some (.ref lq),some v9,v10,v11,none]/\H'=H5/\DdAt H5 v9 dd) ⟨v9,dd,v10,v11,rfl,rfl,hv9⟩ ?_ ?_ ?_
    ·rintro j σ H' ⟨_,_,_,_,rfl,rfl,_⟩
     exact SqL.of q5
    ·rintro j z σ H' hz ⟨v9,dd,v10,v11,rfl,rfl,hv9⟩
     have hj:j<(fitD C x).length:=by have:=(yA hz).1;rw[yC,rq5.1] at this;exact this
     obtain⟨p5',ep5,hp5⟩:=rq5.get hj
     rw[hz] at ep5
     cases ep5
     obtain⟨t,r,e6,ht6,hr6⟩:=hp5
     have hr6:SAt H' r (q0N C x (fitD C x)[j].1 ((fitD C x)[j].2:Int)):=hr6
     intro D3 hn3 hc3 hb3 hr3
     walk_at "r"
     refine⟨D,_,rfl,q3s (.inl d5) p5,?_⟩
     have hd:=q3s (.inl d5) p5
     cases hk:dat kn x with
     |none=>
      walk_at "r"
      exact hn3 _ _ ⟨v9,dd,_,_,rfl,rfl,hv9⟩
     |some v=>
      rw[hk] at hd
      obtain⟨n,rfl,hn⟩:=nm.at hk
      walk_at "r"
      rw[zj (show(some (V.int (n:Nat))).isSome=true from rfl)]
      walk_at "r"
      refine⟨D,rfl,.inr ⟨_,.inl d5⟩,?_⟩
      walk_at "r"
      refine⟨D,_,rfl,hd,?_⟩
      refine⟨_,q3s (.inl d5) hr6,?_⟩
      obtain⟨n2,e2⟩:∃n2:Int,(dat kn (q0N C x (fitD C x)[j].1 ((fitD C x)[j].2:Int))).getD (.int (n:Nat))= .int n2:=by
       cases hk2:dat kn (q0N C x (fitD C x)[j].1 ((fitD C x)[j].2:Int)) with
       |none=>exact⟨_,rfl⟩
       |some v=>obtain⟨n2,rfl,_⟩:=nm.at hk2;exact⟨_,rfl⟩
      rw[e2]
      walk_at "r"
      refine⟨D,_,rfl,hd,?_⟩
      walk_at "r"
      refine ifd (fun g2=>?_) (fun g2=>?_)
      ·walk_at "r"
       exact hn3 _ _ ⟨.ref t,some _,_,_,rfl,rfl,t,rfl,ht6⟩
      ·walk_at "r"
       exact hn3 _ _ ⟨v9,dd,_,_,rfl,rfl,hv9⟩
    ·rintro σ H' ⟨v9,dd,v10,v11,rfl,rfl,hv9⟩
     have u5:=s5 _ _ hus
     walk_at "r"
     refine⟨D,rfl,.inr ⟨_,.inl d5⟩,?_⟩
     walk_at "r"
     refine⟨_,q3s (.inl d5) p5,?_⟩
     obtain⟨n2,e2,b1,b2⟩:∃n2:Int,(dat kn x).getD (.int (400 - (0+(i:Nat))))= .int n2/\ -1000<n2/\n2<1000:=by
      cases hk2:dat kn x with
      |none=>exact⟨_,rfl,by omega,by omega⟩
      |some v=>obtain⟨n2,rfl,_⟩:=nm.at hk2;exact⟨_,rfl,by omega,by omega⟩
     rw[e2]
     walk_at "r"
     intro T' hT'
     have s6:=Same.upd (o:= .tup [.ref p,v9,.int (n2*tm)]) hT'
     have t6:=qc (H:=H') (a:=T') (o:= .tup [.ref p,v9,.int (n2*tm)])
     generalize upd H' T' (.tup [.ref p,v9,.int (n2*tm)])=H6 at s6 t6 ⊢
     walk_at "r"
     have u6:=s6 _ _ u5
     have s36:=s5.trans s6
     refine q3U u6 (by rw[yC,rus.1];omega) ?_
     refine hn2 _ _ ⟨ls++[⟨x.ns,dd,n2*tm⟩],_,_,_,_,_,_,rfl,(s3.trans s36).put hR2,qS (fun _ _=>LnAt.mono (q0o.lst u6)) (rus.mono fun _ _=>LnAt.mono s36.ts) (show LnAt H6 T' ⟨x.ns,dd,n2*tm⟩ from⟨p,v9,t6,s6 _ _ p5,hv9.mono s6.ts⟩),?_⟩
     rw[zv,els,et,zv]
     rfl
   clear hzz
   by_cases g1:qs=[]
   ·rw [ze g1]
    walk_at "r"
    exact fin .non none rfl
   ·rw [zf g1]
    have lq0:0<qs.length:=za9.mpr g1
    have ex:∀a:Int,∃(j:Nat) (hj:j<qs.length),a % (qs.length:Int)=(j:Int):=fun a=>by
     have h0:=qQ a (n:=(qs.length:Int)) (by omega)
     have h1:=qW a (n:=(qs.length:Int)) (by omega)
     exact⟨(a % (qs.length:Int)).toNat,by omega,by omega⟩
    walk_at "r"
    refine q2d (SqL.of m5) (q0H (show(_:List V)[1]? =some _ from rfl)) ?_
    walk_at "r"
    rw[yC]
    walk_at "r"
    obtain⟨j,hj,ej⟩:=ex (n1*(0+(i:Nat)+1) % 1000003)
    rw[ej]
    obtain⟨p5',ep5,hp5⟩:=rq5.get (show j<(fitD C x).length by rw[<-rq5.1];exact hj)
    obtain⟨t,r,e6,ht6,_⟩:=hp5
    refine q2d (SqL.of q5) (q0H ep5) ?_
    walk_at "r"
    exact fin (.ref t) (some _) ⟨t,rfl,ht6⟩
  ·rintro σ H4 ⟨ls,v6,v7,v8,v9,v10,v11,rfl,s4,⟨us,hus,rus⟩,els⟩
   rw[zh,zG] at els
   have m4:H4 m=some (.lst (.int n0:: .int n1:: .int n2::nr.map V.int)):=(s2.trans s4) _ _ hm
   walk_at "r"
   refine q2d (SqL.of m4) (q0H (show(_:List V)[2]? =some _ from rfl)) ?_
   walk_at "r"
   obtain⟨tn,etn⟩:∃tn:Nat,n2 % (if ((us.map V.ref).length:Int)>1 then((us.map V.ref).length:Int) else 1)=(tn:Int):=Int.eq_ofNat_of_zero_le (qQ _ (by split<;>omega))
   rw[etn]
   refine⟨R,_,rfl,SqL.of hus,fun a ha=>?_⟩
   rw[q95,<-List.map_drop]
   have s5:=Same.upd (o:= .lst ((us.drop tn).map V.ref)) ha
   have a5:=qc (H:=H4) (a:=a) (o:= .lst ((us.drop tn).map V.ref))
   generalize upd H4 a (.lst ((us.drop tn).map V.ref))=H5 at s5 a5 ⊢
   walk_at "r"
   refine⟨R,_,rfl,SqL.of (s5 _ _ hus),fun b hb=>?_⟩
   rw[q94,<-List.map_take]
   have s6:=Same.upd (o:= .lst ((us.take tn).map V.ref)) hb
   have b6:=qc (H:=H5) (a:=b) (o:= .lst ((us.take tn).map V.ref))
   generalize upd H5 b (.lst ((us.take tn).map V.ref))=H6 at s6 b6 ⊢
   have ul:us.length<=110:=by rw[rus.1];have:=zM List.length els;rw[yC,yC] at this;omega
   refine⟨a,b,_,_,rfl,rfl,s6 _ _ a5,b6,by rw[yC,yC,zS,zl];omega,fun r hr=>?_⟩
   have s7:=Same.upd (o:= .lst ((us.drop tn).map V.ref++(us.take tn).map V.ref)) hr
   have s47:=s5.trans (s6.trans s7)
   refine k r (ls.drop tn++ls.take tn) _ (s2.trans (s4.trans s47)) ⟨us.drop tn++us.take tn,by rw[zv];exact qc,(q13 (q3T rus tn) (q3S rus tn)).mono fun _ _=>LnAt.mono s47.ts⟩ ?_
   rw[<-els]
   refine List.Perm.map _ ?_
   refine zam.trans ?_
   rw[zy]
def IT (H:Hp)(p:Addr):Prop:=∃st:List Int,H p=some (.tup (st.map V.int))/\(st.length=4\/st.length=5)
def q6J (H:Hp)(L:List Addr):Prop:=∀p∈L,IT H p
theorem IT.mono {H H':Hp}(s:q0o H H'){p:Addr}(h:IT H p):IT H' p:=let ⟨st,h1,h2⟩:=h;⟨st,s _ _ h1,h2⟩
theorem q6J.mono {H H':Hp}(s:q0o H H'){L:List Addr}(h:q6J H L):q6J H' L:=fun p hp=>(h p hp).mono s
theorem q6J.add {H:Hp}{L:List Addr}(h:q6J H L){p:Addr}(st:List Int)(e:H p=some (.tup (st.map V.int)))(l:st.length=4\/st.length=5):q6J H (L++[p]):=fun q hq=>by
 rcases zr.mp hq with z|z
 ·exact h q z
 ·rw [zu.mp z];exact⟨st,e,l⟩
theorem q3o {K:W.Frag}{H:Hp}{Q:VK}{q:Addr}{st:List Int}{lo hi:Option Int}(st':List Int)(h:H q=some (.tup (st.map V.int)))(e:cutV (st.map V.int) lo hi=st'.map V.int)(k:∀p H',Same H H'->H' p=some (.tup (st'.map V.int))->Q (.ref p) H'):qbx K (.ref q) lo hi H Q:=
 ⟨q,_,rfl,SqT.of h,fun e'=>k q H (Same.refl _) (by rw[<-e,e'];exact h),fun p hp=>k p _ (Same.upd hp) (by rw[e];exact qc)⟩
theorem q2O {K:W.Frag}{H:Hp}{Q:VK}{a b:Addr}{xs ys:List Int}(ha:H a=some (.tup (xs.map V.int)))(hb:H b=some (.tup (ys.map V.int)))(hx:xs≠[])(hy:ys≠[])(hl:xs.length+ys.length<=10)(k:∀p H',Same H H'->H' p=some (.tup ((xs++ys).map V.int))->Q (.ref p) H'):q5O K (.ref a) (.ref b) H Q:=
 ⟨a,b,_,_,rfl,rfl,SqT.of ha,SqT.of hb,by have:=qE;rw[yC,yC];omega,fun e=>absurd (List.map_eq_nil_iff.mp e) hx,fun _ e=>absurd (List.map_eq_nil_iff.mp e) hy,fun _ _ p hp=>k p _ (Same.upd hp) (by rw[zv];exact qc)⟩
def q8b:Sp:=fun vs H Q _=>∃(c q:Addr) (C:Cl) (st:List Int) (n:Int),vs=[.ref c,.ref q,.int n]/\ClAt H c C/\CvOk C/\H q=some (.tup (st.map V.int))/\(st.length=4\/st.length=5)/\∀(r:Addr) (H':Hp),Same H H'->IT H' r->Q (.ref r) H'
theorem qac (T:Txt mg cs)(L:Laid K mg "_law_bent_stand" q0y ["_law_cave_here","_law_stand","_law_cell"]):Cal P w K mg base 1 "_law_bent_stand" ["_law_cave_here","_law_stand","_law_cell"] q8b:=by
 refine L.cal (k:=0) qD (fun vs H Q E h=>?_) (fun f cdv A outer s H vs Q E hr h=>?_)
 ·obtain ⟨c,q,C,st,n,rfl,_⟩:=h
  rfl
 ·obtain ⟨c,q,C,st,n,rfl,hC,cv,hq,l45,k⟩:=h
  have big:=qE
  have ok:=cv.ok
  obtain⟨pw,pt,pl,pv',h0,_⟩:=hC.ex
  refine⟨_,(qe (qN (qq q3y (qx (lenK K) rfl T.wf q02 (qa (pv 1) qd)) qb (qp _)) (qg (qm (pv 1))) qu)
   (qe (q4x (pv 1) (q0g (n:=5) K rfl (qr (qk (i:=3) qD.nd rfl (Or.inl rfl)) (qr (qk (i:=4) qD.nd rfl (Or.inl rfl)) (qr (qk (i:=5) qD.nd rfl (Or.inl rfl)) (qr (qk (i:=6) qD.nd rfl (Or.inl rfl)) (qr (qk (i:=7) qD.nd rfl (Or.inl rfl)) q0f)))))))
   (qe (qv (i:=8) qD.nd rfl (Or.inl rfl) (q0h (qa (qA (qa (pv 3) (qa (pv 4) (qa (pv 5) (qa (qi q5S (pv 6) (qi q28 qb (qi qC (qi qR (pv 2) qb) qb))) (qa (pv 7) qd)))))) (qa (qi (q1h K) (qX (q0Q K) (pv 1) q0A (q00 qb)) (qA (qa (qi qC (qi qR (pv 2) qb) qb) qd))) (qa (qX (q0Q K) (pv 1) q0A (q00 qb)) qd)))))
   (qe (qv (i:=8) qD.nd rfl (Or.inl rfl) (qi q19 (pv 8) (q0h (qa (qi (q1h K) (qA (qa (qj (qf K) (pv 0) qb (fun _ _=>rfl)) qd)) (qX (q0Q K) (pv 1) (q00 qb) q0A)) (qa (qi (q1h K) (qA (qa (pv 3) (qa (qi q05 (pv 4) qb) qd))) (qX (q0Q K) (pv 1) (q00 qb) q0A)) (qa (qi (q1h K) (qX (q0Q K) (pv 1) q0A (q00 qb)) (qA (qa qb qd))) qd))))))
   (qe (qv (i:=8) qD.nd rfl (Or.inl rfl) (qi q19 (pv 8) (q0h (qa (qA (qa (pv 3) (qa (pv 4) (qa (pv 5) (qa qb (qa (pv 7) qd)))))) (qa (qi (q1h K) (qA (qa (qi qC (qi qR (pv 2) qb) (qj (qf K) (pv 0) qb (fun _ _=>rfl))) qd)) (qX (q0Q K) (pv 1) (q00 qb) q0A)) qd)))))
   (qe (qv (i:=8) qD.nd rfl (Or.inl rfl) (qi q19 (pv 8) (q0h (qa (qA (qa (pv 3) (qa (pv 4) (qa (qi q5S (pv 5) (qi q28 qb (qi qC (qi qR (pv 2) qb) qb))) (qa (pv 6) (qa (pv 7) qd)))))) (qa (qA (qa (pv 3) (qa (pv 4) (qa (pe_un qaH qb) (qa (pv 6) (qa (pv 7) qd)))))) qd)))))
   (qg (qm (qj (qM K) (pv 8) (qi qC (pv 2) qb) (fun _ _=>rfl)))))))))),?_⟩
  walk_at "r"
  rw[yC]
  rcases l45 with l4|l5
  ·rw [l4,zj (show(!decide (((4:Nat):Int)=5))=true from rfl)]
   walk_at "r"
   exact k q H (Same.refl _) ⟨st,hq,.inl l4⟩
  ·rw [l5,zd (show¬(!decide (((5:Nat):Int)=5))=true by decide)]
   obtain⟨a,b,d,e,g,rfl⟩:∃a b d e g,st=[a,b,d,e,g]:=by
    match st,l5 with
    |[a,b,d,e,g],_=>exact⟨a,b,d,e,g,rfl⟩
   have hq:H q=some (.tup [.int a,.int b,.int d,.int e,.int g]):=hq
   have F:q6J H []:=fun p hp=>absurd hp (by simp)
   have S:=Same.refl H
   have a1:=qQ (n / 8) (n:=8) (by decide)
   have a2:=qW (n / 8) (n:=8) (by decide)
   have a3:=qQ (n / 8) (n:=21) (by decide)
   have a4:=qW (n / 8) (n:=21) (by decide)
   have a5:=ok.r2
   have a6:=ok.r1
   walk_at "r"
   intro t1 ht1
   have s1:=Same.upd (o:= .tup [.int a,.int b,.int d,.int (Builtin.bitXor e (1*2 ^ (n / 8 % 8).toNat)),.int g]) ht1
   have ht1:(upd H t1 (.tup [.int a,.int b,.int d,.int (Builtin.bitXor e (1*2 ^ (n / 8 % 8).toNat)),.int g])) t1=some (.tup (([a,b,d,(Builtin.bitXor e (1*2 ^ (n / 8 % 8).toNat)),g]:List Int).map V.int)):=qc
   generalize upd H t1 (.tup [.int a,.int b,.int d,.int (Builtin.bitXor e (1*2 ^ (n / 8 % 8).toNat)),.int g])=H1 at s1 ht1 ⊢
   replace hq:=s1 _ _ hq
   replace h0:=s1 _ _ h0
   replace F:=F.mono s1.ts
   replace S:=S.trans s1
   replace F:=F.add _ ht1 (.inr rfl)
   walk_at "r"
   refine q3o [a,b,d,e] (st:=[a,b,d,e,g]) hq rfl fun u1 H2 s2 hu1=>?_
   replace hq:=s2 _ _ hq
   replace h0:=s2 _ _ h0
   replace F:=F.mono s2.ts
   replace S:=S.trans s2
   walk_at "r"
   intro u2 ht3
   have s3:=Same.upd (o:= .tup [.int (n / 8 % 10)]) ht3
   have hu2:(upd H2 u2 (.tup [.int (n / 8 % 10)])) u2=some (.tup (([(n / 8 % 10)]:List Int).map V.int)):=qc
   generalize upd H2 u2 (.tup [.int (n / 8 % 10)])=H3 at s3 hu2 ⊢
   replace hq:=s3 _ _ hq
   replace h0:=s3 _ _ h0
   replace F:=F.mono s3.ts
   replace S:=S.trans s3
   replace hu1:=s3 _ _ hu1
   refine q2O hu1 hu2 (by simp) (by simp) (by simp) fun t2 H4 s4 ht2=>?_
   replace hq:=s4 _ _ hq
   replace h0:=s4 _ _ h0
   replace F:=F.mono s4.ts
   replace S:=S.trans s4
   replace F:=F.add _ ht2 (.inr rfl)
   walk_at "r"
   refine q3o [a,b,d,e] (st:=[a,b,d,e,g]) hq rfl fun t3 H5 s5 ht3=>?_
   replace hq:=s5 _ _ hq
   replace h0:=s5 _ _ h0
   replace F:=F.mono s5.ts
   replace S:=S.trans s5
   replace F:=F.add _ ht3 (.inl rfl)
   walk_at "r"
   intro l1 ht6
   have s6:=Same.upd (o:= .lst [.ref t1,.ref t2,.ref t3]) ht6
   have hl1:=qc (H:=H5) (a:=l1) (o:= .lst [.ref t1,.ref t2,.ref t3])
   generalize upd H5 l1 (.lst [.ref t1,.ref t2,.ref t3])=H6 at s6 hl1 ⊢
   replace hq:=s6 _ _ hq
   replace h0:=s6 _ _ h0
   replace F:=F.mono s6.ts
   replace S:=S.trans s6
   walk_at "r"
   intro u3 ht7
   have s7:=Same.upd (o:= .tup [.int C.rooms]) ht7
   have hu3:(upd H6 u3 (.tup [.int C.rooms])) u3=some (.tup (([C.rooms]:List Int).map V.int)):=qc
   generalize upd H6 u3 (.tup [.int C.rooms])=H7 at s7 hu3 ⊢
   replace hq:=s7 _ _ hq
   replace h0:=s7 _ _ h0
   replace F:=F.mono s7.ts
   replace S:=S.trans s7
   replace hl1:=s7 _ _ hl1
   walk_at "r"
   refine q3o [b,d,e,g] (st:=[a,b,d,e,g]) hq rfl fun u4 H8 s8 hu4=>?_
   replace hq:=s8 _ _ hq
   replace h0:=s8 _ _ h0
   replace F:=F.mono s8.ts
   replace S:=S.trans s8
   replace hl1:=s8 _ _ hl1
   replace hu3:=s8 _ _ hu3
   refine q2O hu3 hu4 (by simp) (by simp) (by simp) fun t4 H9 s9 ht4=>?_
   replace hq:=s9 _ _ hq
   replace h0:=s9 _ _ h0
   replace F:=F.mono s9.ts
   replace S:=S.trans s9
   replace hl1:=s9 _ _ hl1
   replace F:=F.add _ ht4 (.inr rfl)
   walk_at "r"
   intro u5 ht10
   have s10:=Same.upd (o:= .tup [.int a,.int (b+256)]) ht10
   have hu5:(upd H9 u5 (.tup [.int a,.int (b+256)])) u5=some (.tup (([a,(b+256)]:List Int).map V.int)):=qc
   generalize upd H9 u5 (.tup [.int a,.int (b+256)])=H10 at s10 hu5 ⊢
   replace hq:=s10 _ _ hq
   replace h0:=s10 _ _ h0
   replace F:=F.mono s10.ts
   replace S:=S.trans s10
   replace hl1:=s10 _ _ hl1
   walk_at "r"
   refine q3o [d,e,g] (st:=[a,b,d,e,g]) hq rfl fun u6 H11 s11 hu6=>?_
   replace hq:=s11 _ _ hq
   replace h0:=s11 _ _ h0
   replace F:=F.mono s11.ts
   replace S:=S.trans s11
   replace hl1:=s11 _ _ hl1
   replace hu5:=s11 _ _ hu5
   refine q2O hu5 hu6 (by simp) (by simp) (by simp) fun t5 H12 s12 ht5=>?_
   replace hq:=s12 _ _ hq
   replace h0:=s12 _ _ h0
   replace F:=F.mono s12.ts
   replace S:=S.trans s12
   replace hl1:=s12 _ _ hl1
   replace F:=F.add _ ht5 (.inr rfl)
   walk_at "r"
   refine q3o [a,b,d,e] (st:=[a,b,d,e,g]) hq rfl fun u7 H13 s13 hu7=>?_
   replace hq:=s13 _ _ hq
   replace h0:=s13 _ _ h0
   replace F:=F.mono s13.ts
   replace S:=S.trans s13
   replace hl1:=s13 _ _ hl1
   walk_at "r"
   intro u8 ht14
   have s14:=Same.upd (o:= .tup [.int 10]) ht14
   have hu8:(upd H13 u8 (.tup [.int 10])) u8=some (.tup (([10]:List Int).map V.int)):=qc
   generalize upd H13 u8 (.tup [.int 10])=H14 at s14 hu8 ⊢
   replace hq:=s14 _ _ hq
   replace h0:=s14 _ _ h0
   replace F:=F.mono s14.ts
   replace S:=S.trans s14
   replace hl1:=s14 _ _ hl1
   replace hu7:=s14 _ _ hu7
   refine q2O hu7 hu8 (by simp) (by simp) (by simp) fun t6 H15 s15 ht6=>?_
   replace hq:=s15 _ _ hq
   replace h0:=s15 _ _ h0
   replace F:=F.mono s15.ts
   replace S:=S.trans s15
   replace hl1:=s15 _ _ hl1
   replace F:=F.add _ ht6 (.inr rfl)
   walk_at "r"
   intro l2 ht16
   have s16:=Same.upd (o:= .lst [.ref t4,.ref t5,.ref t6]) ht16
   have hl2:=qc (H:=H15) (a:=l2) (o:= .lst [.ref t4,.ref t5,.ref t6])
   generalize upd H15 l2 (.lst [.ref t4,.ref t5,.ref t6])=H16 at s16 hl2 ⊢
   replace hq:=s16 _ _ hq
   replace h0:=s16 _ _ h0
   replace F:=F.mono s16.ts
   replace S:=S.trans s16
   replace hl1:=s16 _ _ hl1
   refine⟨l1,l2,_,_,rfl,rfl,hl1,hl2,by simp;omega,fun l3 ht17=>?_⟩
   have s17:=Same.upd (o:= .lst ([.ref t1,.ref t2,.ref t3]++[.ref t4,.ref t5,.ref t6])) ht17
   have hl3:upd H16 l3 (.lst ([.ref t1,.ref t2,.ref t3]++[.ref t4,.ref t5,.ref t6])) l3=some (.lst [.ref t1,.ref t2,.ref t3,.ref t4,.ref t5,.ref t6]):=qc
   generalize upd H16 l3 (.lst ([.ref t1,.ref t2,.ref t3]++[.ref t4,.ref t5,.ref t6]))=H17 at s17 hl3 ⊢
   replace hq:=s17 _ _ hq
   replace h0:=s17 _ _ h0
   replace F:=F.mono s17.ts
   replace S:=S.trans s17
   walk_at "r"
   intro t7 ht18
   have s18:=Same.upd (o:= .tup [.int a,.int b,.int d,.int 256,.int g]) ht18
   have ht7:(upd H17 t7 (.tup [.int a,.int b,.int d,.int 256,.int g])) t7=some (.tup (([a,b,d,256,g]:List Int).map V.int)):=qc
   generalize upd H17 t7 (.tup [.int a,.int b,.int d,.int 256,.int g])=H18 at s18 ht7 ⊢
   replace hq:=s18 _ _ hq
   replace h0:=s18 _ _ h0
   replace F:=F.mono s18.ts
   replace S:=S.trans s18
   replace hl3:=s18 _ _ hl3
   replace F:=F.add _ ht7 (.inr rfl)
   walk_at "r"
   intro u9 ht19
   have s19:=Same.upd (o:= .tup [.int (n / 8 % C.rooms)]) ht19
   have hu9:(upd H18 u9 (.tup [.int (n / 8 % C.rooms)])) u9=some (.tup (([(n / 8 % C.rooms)]:List Int).map V.int)):=qc
   generalize upd H18 u9 (.tup [.int (n / 8 % C.rooms)])=H19 at s19 hu9 ⊢
   replace hq:=s19 _ _ hq
   replace h0:=s19 _ _ h0
   replace F:=F.mono s19.ts
   replace S:=S.trans s19
   replace hl3:=s19 _ _ hl3
   walk_at "r"
   refine q3o [b,d,e,g] (st:=[a,b,d,e,g]) hq rfl fun u10 H20 s20 hu10=>?_
   replace hq:=s20 _ _ hq
   replace h0:=s20 _ _ h0
   replace F:=F.mono s20.ts
   replace S:=S.trans s20
   replace hl3:=s20 _ _ hl3
   replace hu9:=s20 _ _ hu9
   refine q2O hu9 hu10 (by simp) (by simp) (by simp) fun t8 H21 s21 ht8=>?_
   replace hq:=s21 _ _ hq
   replace h0:=s21 _ _ h0
   replace F:=F.mono s21.ts
   replace S:=S.trans s21
   replace hl3:=s21 _ _ hl3
   replace F:=F.add _ ht8 (.inr rfl)
   walk_at "r"
   intro l4 ht22
   have s22:=Same.upd (o:= .lst [.ref t7,.ref t8]) ht22
   have hl4:=qc (H:=H21) (a:=l4) (o:= .lst [.ref t7,.ref t8])
   generalize upd H21 l4 (.lst [.ref t7,.ref t8])=H22 at s22 hl4 ⊢
   replace hq:=s22 _ _ hq
   replace h0:=s22 _ _ h0
   replace F:=F.mono s22.ts
   replace S:=S.trans s22
   replace hl3:=s22 _ _ hl3
   refine⟨l3,l4,_,_,rfl,rfl,hl3,hl4,by simp;omega,fun l5 ht23=>?_⟩
   have s23:=Same.upd (o:= .lst ([.ref t1,.ref t2,.ref t3,.ref t4,.ref t5,.ref t6]++[.ref t7,.ref t8])) ht23
   have hl5:upd H22 l5 (.lst ([.ref t1,.ref t2,.ref t3,.ref t4,.ref t5,.ref t6]++[.ref t7,.ref t8])) l5=some (.lst [.ref t1,.ref t2,.ref t3,.ref t4,.ref t5,.ref t6,.ref t7,.ref t8]):=qc
   generalize upd H22 l5 (.lst ([.ref t1,.ref t2,.ref t3,.ref t4,.ref t5,.ref t6]++[.ref t7,.ref t8]))=H23 at s23 hl5 ⊢
   replace hq:=s23 _ _ hq
   replace h0:=s23 _ _ h0
   replace F:=F.mono s23.ts
   replace S:=S.trans s23
   walk_at "r"
   intro t9 ht24
   have s24:=Same.upd (o:= .tup [.int a,.int b,.int (Builtin.bitXor d (1*2 ^ (n / 8 % 21).toNat)),.int e,.int g]) ht24
   have ht9:(upd H23 t9 (.tup [.int a,.int b,.int (Builtin.bitXor d (1*2 ^ (n / 8 % 21).toNat)),.int e,.int g])) t9=some (.tup (([a,b,(Builtin.bitXor d (1*2 ^ (n / 8 % 21).toNat)),e,g]:List Int).map V.int)):=qc
   generalize upd H23 t9 (.tup [.int a,.int b,.int (Builtin.bitXor d (1*2 ^ (n / 8 % 21).toNat)),.int e,.int g])=H24 at s24 ht9 ⊢
   replace hq:=s24 _ _ hq
   replace h0:=s24 _ _ h0
   replace F:=F.mono s24.ts
   replace S:=S.trans s24
   replace hl5:=s24 _ _ hl5
   replace F:=F.add _ ht9 (.inr rfl)
   walk_at "r"
   intro t10 ht25
   have s25:=Same.upd (o:= .tup [.int a,.int b,.int (-1),.int e,.int g]) ht25
   have ht10:(upd H24 t10 (.tup [.int a,.int b,.int (-1),.int e,.int g])) t10=some (.tup (([a,b,(-1),e,g]:List Int).map V.int)):=qc
   generalize upd H24 t10 (.tup [.int a,.int b,.int (-1),.int e,.int g])=H25 at s25 ht10 ⊢
   replace hq:=s25 _ _ hq
   replace h0:=s25 _ _ h0
   replace F:=F.mono s25.ts
   replace S:=S.trans s25
   replace hl5:=s25 _ _ hl5
   replace F:=F.add _ ht10 (.inr rfl)
   walk_at "r"
   intro l6 ht26
   have s26:=Same.upd (o:= .lst [.ref t9,.ref t10]) ht26
   have hl6:=qc (H:=H25) (a:=l6) (o:= .lst [.ref t9,.ref t10])
   generalize upd H25 l6 (.lst [.ref t9,.ref t10])=H26 at s26 hl6 ⊢
   replace hq:=s26 _ _ hq
   replace h0:=s26 _ _ h0
   replace F:=F.mono s26.ts
   replace S:=S.trans s26
   replace hl5:=s26 _ _ hl5
   refine⟨l5,l6,_,_,rfl,rfl,hl5,hl6,by simp;omega,fun l7 ht27=>?_⟩
   have s27:=Same.upd (o:= .lst ([.ref t1,.ref t2,.ref t3,.ref t4,.ref t5,.ref t6,.ref t7,.ref t8]++[.ref t9,.ref t10])) ht27
   have hl7:upd H26 l7 (.lst ([.ref t1,.ref t2,.ref t3,.ref t4,.ref t5,.ref t6,.ref t7,.ref t8]++[.ref t9,.ref t10])) l7=some (.lst [.ref t1,.ref t2,.ref t3,.ref t4,.ref t5,.ref t6,.ref t7,.ref t8,.ref t9,.ref t10]):=qc
   generalize upd H26 l7 (.lst ([.ref t1,.ref t2,.ref t3,.ref t4,.ref t5,.ref t6,.ref t7,.ref t8]++[.ref t9,.ref t10]))=H27 at s27 hl7 ⊢
   replace hq:=s27 _ _ hq
   replace h0:=s27 _ _ h0
   replace F:=F.mono s27.ts
   replace S:=S.trans s27
   walk_at "r"
   have hl7:H27 l7=some (.lst ([t1,t2,t3,t4,t5,t6,t7,t8,t9,t10].map V.ref)):=hl7
   obtain⟨j,hj,ej,aj⟩:=q3v (xs:=[t1,t2,t3,t4,t5,t6,t7,t8,t9,t10].map V.ref) (i:=n % 10) (qQ _ (by decide)) (qW _ (by decide))
   rw[zbJ] at aj
   refine q2d (SqL.of hl7) aj ?_
   walk_at "r"
   exact k _ _ S (F _ (zx _))
end
def GL (x:Ln):Prop:=x.st.length=4\/x.st.length=5
section
variable {K:W.Frag}{H:Hp}{Q:VK}{R a b:Addr}{us vs:List Addr}
theorem qaU (u:H R=some (.lst (us.map V.ref)))(j:Nat)(k:∀a H',Same H H'->H' a=some (.lst ((us.take j).map V.ref))->Q (.ref a) H'):rSlL K (.ref R) none (some (j:Int)) H Q:=
 ⟨R,_,rfl,SqL.of u,fun a ha=>k a _ (Same.upd ha) (by rw[q94,<-List.map_take];exact qc)⟩
theorem qaV (u:H R=some (.lst (us.map V.ref)))(i:Int)(j:Nat)(e:i=(j:Int))(k:∀a H',Same H H'->H' a=some (.lst ((us.drop j).map V.ref))->Q (.ref a) H'):rSlL K (.ref R) (some i) none H Q:=by
 subst e
 exact⟨R,_,rfl,SqL.of u,fun a ha=>k a _ (Same.upd ha) (by rw[q95,<-List.map_drop];exact qc)⟩
theorem q2N (ha:H a=some (.lst (us.map V.ref)))(hb:H b=some (.lst (vs.map V.ref)))(hl:us.length+vs.length<=1000)(k:∀r H',Same H H'->H' r=some (.lst ((us++vs).map V.ref))->Q (.ref r) H'):rCat (.ref a) (.ref b) H Q:=
 ⟨a,b,_,_,rfl,rfl,ha,hb,by have:=qE;rw[yC,yC];omega,fun r hr=>k r _ (Same.upd hr) (by rw[zv];exact qc)⟩
end
def spBent:Sp:=fun vs H Q _=>∃(c R:Addr) (C:Cl) (ls:List Ln) (n:Int),vs=[.ref c,.ref R,.int n]/\ClAt H c C/\CvOk C/\qI LnAt H R ls/\ls.length<=200/\(∀x∈ls,GL x)/\∀(r:Addr) (ls':List Ln) (H':Hp),Same H H'->qI LnAt H' r ls'->ls'.length<=ls.length+1->(∀x∈ls',GL x)->Q (.ref r) H'
section
variable {P:Program}{w:World}{K:W.Frag}{mg:Str->Option Value}{base:Heap}{cs:Cs}
theorem qbU (T:Txt mg cs)(L:Laid K mg "_law_bent" q1L ["_law_cave_here","_law_paper_here","_law_cell"])(wP:Cal P w K mg base 1 "_law_bent_stand" ["_law_cave_here","_law_stand","_law_cell"] q8b):Cal P w K mg base 2 "_law_bent" ["_law_cave_here","_law_paper_here","_law_cell"] spBent:=by
 refine L.cal (k:=1) qV (fun vs H Q E h=>?_) (fun f cdv A outer s H vs Q E hr h=>?_)
 ·obtain ⟨c,R,C,ls,n,rfl,_⟩:=h
  rfl
 ·obtain ⟨c,R,C,ls,n,rfl,hC,cv,hls,ll,gl,k⟩:=h
  have big:=qE
  obtain⟨us,hus,rus⟩:=hls
  refine⟨_,(qe (qN (qq (q72 K 1 (q34 hr)) (pv 1) (q0h qd) (qp _)) (qg (qm (pv 1))) qu)
   (qe (qv (i:=3) qV.nd rfl (Or.inl rfl) (qi qC (pv 2) qb))
   (qe (qv (i:=4) qV.nd rfl (Or.inl rfl) (qi qC (qi qC (qi q3Z (qi qR (pv 2) qb) qb) qb) (qx (lenK K) rfl T.wf q02 (qa (pv 1) qd))))
   (qe (q4x (qj (qM K) (pv 1) (pv 4) (fun _ _=>rfl)) (q0g (n:=3) K rfl (qr (qk (i:=5) qV.nd rfl (Or.inl rfl)) (qr (qk (i:=6) qV.nd rfl (Or.inl rfl)) (qr (qk (i:=7) qV.nd rfl (Or.inl rfl)) q0f)))))
   (qe (qv (i:=2) qV.nd rfl (Or.inl rfl) (qi qR (pv 2) qb))
   (qe (qN (qq q01 (pv 3) qb (qp _)) (qg (qm (qi q19 (qX (q0R K) (pv 1) q0A (q00 (pv 4))) (qX (q0R K) (pv 1) (q00 (qi q05 (pv 4) qb)) q0A)))) qu)
   (qe (qN (qq q01 (pv 3) qb (qp _)) (qg (qm (qi q19 (pv 1) (q0h (qa (qj (qM K) (pv 1) (pv 4) (fun _ _=>rfl)) qd))))) qu)
   (qe (qN (qq q01 (pv 3) qb (qp _)) (qg (qv (i:=7) qV.nd rfl (Or.inl rfl) (qj (qM K) (q0h (qa qb (qa qb (qa (qi q05 (pv 7) qb) (qa (qi q2h (pv 7) qb) (qa (pe_un qaH qb) (qa qb qd))))))) (qi qC (pv 2) qb) (fun _ _=>rfl)))) qu)
   (qe (qN (qq q01 (pv 3) qb (qp _)) (qe (qv (i:=8) qV.nd rfl (Or.inl rfl) (q0h (qa qL (qa qL (qa qL (qa qL (qa qL (qa qL qd))))))))
   (qg (qv (i:=6) qV.nd rfl (Or.inl rfl) (qj (qM K) (q0h (qa (qA (qa (qj (qM K) (pv 8) (qi qC (qi qR (pv 2) qb) qb) (fun _ _=>rfl)) (qa (qi qC (qi qR (pv 2) qb) qb) qd))) (qa q8p qd))) (qi qR (qi qC (pv 2) qb) qb) (fun _ _=>rfl))))) qu)
   (qe (qN (qq q01 (pv 3) qb (qp _)) (qg (qv (i:=5) qV.nd rfl (Or.inl rfl) (qz wP hr (by decide) rfl (qa (pv 0) (qa (pv 5) (qa (pv 2) qd)))))) qu)
   (qg (qm (qi q19 (qi q19 (qX (q0R K) (pv 1) q0A (q00 (pv 4))) (q0h (qa (qA (qa (pv 5) (qa (pv 6) (qa (pv 7) qd)))) qd))) (qX (q0R K) (pv 1) (q00 (qi q05 (pv 4) qb)) q0A)))))))))))))),?_⟩
  walk_at "r"
  intro e1 he1
  have s1:=Same.upd (o:= .lst []) he1
  have e1':=qc (H:=H) (a:=e1) (o:= .lst [])
  generalize upd H e1 (.lst [])=H1 at s1 e1' ⊢
  have u1:=s1 _ _ hus
  refine q6r u1 e1' ?_
  refine⟨_,rfl,ifd (fun g1=>?_) (fun g1=>?_)⟩
  ·walk_at "r"
   exact k R ls H1 s1 ⟨us,u1,rus.mono fun _ _=>LnAt.mono s1.ts⟩ (by omega) gl
  ·walk_at "r"
   rw[yC]
   have l0:0<us.length:=za9.mpr g1
   have l1:us.length=ls.length:=rus.1
   walk_at "r"
   obtain⟨j,hj,ej,aj⟩:=q3v (xs:=us.map V.ref) (i:=n / 8*48271 % 1000003 % (us.length:Int)) (qQ _ (by omega)) (by rw[yC];exact qW _ (by omega))
   rw[ej] at aj ⊢
   rw[yC] at hj
   rw[zbJ] at aj
   have hx:=(rus.mono fun _ _=>LnAt.mono s1.ts).2 j us[j] ls[j] (yB hj) (yB (by omega))
   have gx:=gl ls[j] (zx _)
   obtain⟨q,v,hx1,hx2,hx3⟩:=hx
   have aj1:=aj
   refine q2d (SqL.of u1) aj ?_
   walk_at "r"
   refine ifd (fun g2=>?_) (fun g2=>?_)
   ·walk_at "r"
    refine qaU u1 j fun a H2 s2 a2=>?_
    have u2:=s2 _ _ u1
    walk_at "r"
    refine qaV u2 _ (j+1) (by omega) fun b H3 s3 b3=>?_
    refine q2N (s3 _ _ a2) b3 (by rw[zl,zS];omega) fun r H4 s4 r4=>?_
    have s14:=s1.trans (s2.trans (s3.trans s4))
    refine k r (ls.take j++ls.drop (j+1)) H4 s14 ⟨_,r4,(q13 (q3S rus j) (q3T rus (j+1))).mono fun _ _=>LnAt.mono s14.ts⟩ (by rw[zk,zl,zS];omega) fun x hx=>?_
    rcases zr.mp hx with z|z
    ·exact gl x (zad z)
    ·exact gl x (zar z)
   ·walk_at "r"
    refine ifd (fun g3=>?_) (fun g3=>?_)
    ·walk_at "r"
     intro b hb
     have s2:=Same.upd (o:= .lst [.ref us[j]]) hb
     have b2:upd H1 b (.lst [.ref us[j]]) b=some (.lst ([us[j]].map V.ref)):=qc
     generalize upd H1 b (.lst [.ref us[j]])=H2 at s2 b2 ⊢
     refine q2N (s2 _ _ u1) b2 (by simp;omega) fun r H4 s4 r4=>?_
     have s14:=s1.trans (s2.trans s4)
     refine k r (ls++[ls[j]]) H4 s14 ⟨_,r4,(q13 rus (Rows.nil.snoc (rus.2 j us[j] ls[j] (yB hj) (yB (by omega))))).mono fun _ _=>LnAt.mono s14.ts⟩ (by simp) fun x hx=>?_
     rcases zr.mp hx with z|z
     ·exact gl x z
     ·rw [zu.mp z];exact gx
    ·walk_at "r"
     rename_i z2 hz2
     have f2:∀(q':Addr) (v':V) (m':Int) (vs:Option V) (H':Hp),Same H H'->IT H' q'->(∃dd,DdAt H' v' dd)->z2 {nx:=fun x H'=>Q V.non H',rt:=Q} [some (.ref c),some (.ref R),some (.int (n / 8)),some (.int (n % 8)),some (.int (j:Nat)),some (.ref q'),some v',some (.int m'),vs] H':=by
      intro q' v' m' vs H' sH hq' hv'
      walk_at "r"
      rename_i z3 hz3
      have f3:∀(q':Addr) (v':V) (m':Int) (vs:Option V) (H':Hp),Same H H'->IT H' q'->(∃dd,DdAt H' v' dd)->z3 {nx:=fun x H'=>Q V.non H',rt:=Q} [some (.ref c),some (.ref R),some (.int (n / 8)),some (.int (n % 8)),some (.int (j:Nat)),some (.ref q'),some v',some (.int m'),vs] H':=by
       intro q' v' m' vs H' sH hq' hv'
       walk_at "r"
       rename_i z4 hz4
       have f4:∀(q':Addr) (v':V) (m':Int) (vs:Option V) (H':Hp),Same H H'->IT H' q'->(∃dd,DdAt H' v' dd)->z4 {nx:=fun x H'=>Q V.non H',rt:=Q} [some (.ref c),some (.ref R),some (.int (n / 8)),some (.int (n % 8)),some (.int (j:Nat)),some (.ref q'),some v',some (.int m'),vs] H':=by
        rintro q' v' m' vs H' sH ⟨st,hst,lst⟩ ⟨dd,hdd⟩
        walk_at "r"
        refine qaU (sH _ _ hus) j fun a H2 s2 a2=>?_
        walk_at "r"
        intro t ht
        have s3:=Same.upd (o:= .tup [.ref q',v',.int m']) ht
        have t3:=qc (H:=H2) (a:=t) (o:= .tup [.ref q',v',.int m'])
        generalize upd H2 t (.tup [.ref q',v',.int m'])=H3 at s3 t3 ⊢
        walk_at "r"
        intro b hb
        have s4:=Same.upd (o:= .lst [.ref t]) hb
        have b4:upd H3 b (.lst [.ref t]) b=some (.lst ([t].map V.ref)):=qc
        generalize upd H3 b (.lst [.ref t])=H4 at s4 b4 ⊢
        refine q2N ((s3.trans s4) _ _ a2) b4 (by simp;omega) fun d H5 s5 d5=>?_
        have s25:=s2.trans (s3.trans (s4.trans s5))
        walk_at "r"
        refine qaV ((sH.trans s25) _ _ hus) _ (j+1) (by omega) fun b H6 s6 b6=>?_
        refine q2N (s6 _ _ d5) b6 (by simp;omega) fun r H7 s7 r7=>?_
        have s37:=s4.trans (s5.trans (s6.trans s7))
        have s07:=sH.trans (s2.trans (s3.trans s37))
        have hln:LnAt H7 t ⟨st,dd,m'⟩:=⟨q',v',s37 _ _ t3,(s2.trans (s3.trans s37)) _ _ hst,hdd.mono (s2.trans (s3.trans s37)).ts⟩
        have r0:Rows LnAt H7 us ls:=rus.mono fun _ _=>LnAt.mono s07.ts
        refine k r (ls.take j++[⟨st,dd,m'⟩]++ls.drop (j+1)) H7 s07 ⟨_,r7,q13 (q13 (q3S r0 j) (Rows.nil.snoc hln)) (q3T r0 (j+1))⟩ (by simp;omega) fun x hx=>?_
        rcases zr.mp hx with z|z
        ·rcases zr.mp z with z|z
         ·exact gl x (zad z)
         ·rw [zu.mp z];exact lst
        ·exact gl x (zar z)
       clear hz4
       refine ifd (fun g4=>?_) (fun g4=>?_)
       ·walk_at "r"
        obtain⟨st,hst,lst⟩:=hq'
        refine⟨c,q',C,st,_,rfl,hC.mono sH.ts,cv,hst,lst,fun r H2 s2 hr2=>?_⟩
        walk_at "r"
        exact f4 _ _ _ _ _ (sH.trans s2) hr2 (let ⟨dd,h⟩:=hv';⟨dd,h.mono s2.ts⟩)
       ·walk_at "r"
        exact f4 _ _ _ _ _ sH hq' hv'
      clear hz3
      refine ifd (fun g4=>?_) (fun g4=>?_)
      ·walk_at "r"
       intro p hp
       have s2:=Same.upd (o:= .lst [.str "go",.str "take",.str "pull",.str "unlock",.str "turn",.str "go"]) hp
       have p2:=qc (H:=H') (a:=p) (o:= .lst [.str "go",.str "take",.str "pull",.str "unlock",.str "turn",.str "go"])
       generalize upd H' p (.lst [.str "go",.str "take",.str "pull",.str "unlock",.str "turn",.str "go"])=H2 at s2 p2 ⊢
       walk_at "r"
       obtain⟨i,hi,ei,ai⟩:=q3v (xs:=[V.str "go",.str "take",.str "pull",.str "unlock",.str "turn",.str "go"]) (i:=n / 8 / 2 % 6) (qQ _ (by decide)) (qW _ (by decide))
       obtain⟨wd,ewd⟩:∃wd:Wd,[V.str "go",.str "take",.str "pull",.str "unlock",.str "turn",.str "go"][i]= .str wd.str:=by
        have hi':i<6:=hi
        obtain rfl|rfl|rfl|rfl|rfl|rfl:i=0\/i=1\/i=2\/i=3\/i=4\/i=5:=by omega
        ·exact ⟨.go,rfl⟩
        ·exact ⟨.take,rfl⟩
        ·exact ⟨.pull,rfl⟩
        ·exact ⟨.unlock,rfl⟩
        ·exact ⟨.turn,rfl⟩
        ·exact ⟨.go,rfl⟩
       rw[ewd] at ai
       refine q2d (SqL.of p2) ai ?_
       walk_at "r"
       intro t ht
       have s3:=Same.upd (o:= .tup [.str wd.str,.int (n / 8 / 12 % 9)]) ht
       have t3:=qc (H:=H2) (a:=t) (o:= .tup [.str wd.str,.int (n / 8 / 12 % 9)])
       generalize upd H2 t (.tup [.str wd.str,.int (n / 8 / 12 % 9)])=H3 at s3 t3 ⊢
       walk_at "r"
       intro b hb
       have s4:=Same.upd (o:= .lst [.ref t,.non]) hb
       have b4:=qc (H:=H3) (a:=b) (o:= .lst [.ref t,.non])
       generalize upd H3 b (.lst [.ref t,.non])=H4 at s4 b4 ⊢
       have a1:=qQ (n / 8) (n:=7) (by decide)
       have a2:=qW (n / 8) (n:=7) (by decide)
       have a3:=qQ (n / 8 / 12) (n:=9) (by decide)
       have s04:=s2.trans (s3.trans s4)
       walk_at "r"
       obtain⟨i2,hi2,ei2,ai2⟩:=q3v (xs:=[V.ref t,.non]) (i:=n / 8 % 7 / 6) (by omega) (by show _<(2:Int);omega)
       refine q2d (SqL.of b4) ai2 ?_
       walk_at "r"
       refine f3 _ _ _ _ _ (sH.trans s04) (hq'.mono s04.ts) ?_
       have hi':i2<2:=hi2
       obtain rfl|rfl:i2=0\/i2=1:=by omega
       ·exact ⟨some (wd,(n / 8 / 12 % 9).toNat),t,rfl,by show H4 t=_;rw[s4 _ _ t3];simp;omega⟩
       ·exact ⟨none,rfl⟩
      ·walk_at "r"
       exact f3 _ _ _ _ _ sH hq' hv'
     clear hz2
     have it1:IT H1 q:=⟨_,hx2,gx⟩
     refine ifd (fun g4=>?_) (fun g4=>?_)
     ·walk_at "r"
      generalize ls[j].n=nn
      intro p hp
      have s2:=Same.upd (o:= .lst [.int 0,.int 1,.int (nn+1),.int (nn - 1),.int (-1),.int 1000]) hp
      have p2:=qc (H:=H1) (a:=p) (o:= .lst [.int 0,.int 1,.int (nn+1),.int (nn - 1),.int (-1),.int 1000])
      generalize upd H1 p (.lst [.int 0,.int 1,.int (nn+1),.int (nn - 1),.int (-1),.int 1000])=H2 at s2 p2 ⊢
      walk_at "r"
      obtain⟨i,hi,ei,ai⟩:=q3v (xs:=[V.int 0,.int 1,.int (nn+1),.int (nn - 1),.int (-1),.int 1000]) (i:=n / 8 % 6) (qQ _ (by decide)) (qW _ (by decide))
      obtain⟨m',em⟩:∃m':Int,[V.int 0,.int 1,.int (nn+1),.int (nn - 1),.int (-1),.int 1000][i]= .int m':=by
       have hi':i<6:=hi
       obtain rfl|rfl|rfl|rfl|rfl|rfl:i=0\/i=1\/i=2\/i=3\/i=4\/i=5:=by omega
       all_goals exact⟨_,rfl⟩
      rw[em] at ai
      refine q2d (SqL.of p2) ai ?_
      walk_at "r"
      exact f2 _ _ _ _ _ (s1.trans s2) (it1.mono s2.ts) ⟨_,hx3.mono s2.ts⟩
     ·walk_at "r"
      exact f2 _ _ _ _ _ s1 it1 ⟨_,hx3⟩
theorem q9s {ds:Nat->Option Int}{op:Int}{m:Nat}(h0:0<=op):decide (Builtin.bitAnd op (dbs ds m)=op)=(decide (0<=op/\op<2 ^ m)&&drs ds m op):=by
 rw[<-q4B]
 unfold hasB
 rw[ze h0,zay,zY]
 simp only[Bool.and_eq_true,decide_eq_true_eq]
 rw[q9U]
 exact⟨fun h=>⟨by have:=(zco op (q36 ds m).1).2;omega,h⟩,fun h=>h.2⟩
def spLis:Sp:=fun vs H Q _=>∃(c q:Addr) (C:Cl) (st:List Int),vs=[.ref c,.ref q]/\ClAt H c C/\CvOk C/\H q=some (.tup (st.map V.int))/\(st.length=4\/st.length=5)/\∀H',Same H H'->Q (.bl (stOk C st)) H'
theorem ok_lis (T:Txt mg cs)(L:Laid K mg "_law_is_stand" q0u ["_law_cave_here","_law_stand"])(wq:Cal P w K mg base 1 "_law_amount" ["_law_cave_here","_law_stand","_law_kind"] q3L):Cal P w K mg base 2 "_law_is_stand" ["_law_cave_here","_law_stand"] spLis:=by
 refine L.cal (k:=1) q0F (fun vs H Q E h=>?_) (fun f cdv A outer s H vs Q E hr h=>?_)
 ·obtain ⟨c,q,C,st,rfl,_⟩:=h
  rfl
 ·obtain ⟨c,q,C,st,rfl,hC,cv,hq,l45,k⟩:=h
  have big:=qE
  have hu:=zbj (qan hr)
  have ok:=cv.ok
  have okw:=ok.wl
  have okt:=ok.tl
  obtain⟨pw,pt,pl,pv',h0,h1,h2,_⟩:=hC.ex
  obtain⟨wv,hw,hwl,hwg⟩:=h1.get
  obtain⟨tv,ht,htl,htg⟩:=h2.get
  have htl2:(tv.length:Int)<=8:=by omega
  have hwl2:(wv.length:Int)<=20:=by omega
  refine⟨_,(qe (qN (PW.pt (q33 (qq q3y (qx (lenK K) rfl T.wf q02 (qa (pv 1) qd)) qb (qp _)) (q33 (qq q4q (qx (minTK K rfl) rfl T.waq q9l (qa (pv 1) qd)) qb (qp _)) (q2f (qq q7z (qj (qf K) (pv 1) qb (fun _ _=>rfl)) (qj (qf K) (pv 0) qb (fun _ _=>rfl)) (qp _)))))) (qg (qm q1g)) qu)
   (qe (qN (PW.pt (q33 (qq q7z (qj (qf K) (pv 1) qb (fun _ _=>rfl)) (qi q28 qb (qx (lenK K) rfl T.wf q02 (qa (qj (qf K) (pv 0) qb (fun _ _=>rfl)) qd))) (qp _)) (q33 (qq q40 (qj (qf K) (pv 1) qb (fun _ _=>rfl)) qb (qp _)) (q2f (qq q40 (qj (qf K) (pv 1) qb (fun _ _=>rfl)) qb (qp _)))))) (qg (qm q1g)) qu)
   (qe (qv (i:=2) q0F.nd rfl (Or.inl rfl) qb)
   (qe (q0z PassesOwn.never rfl (q03 rfl T.wu (qa (qx (lenK K) rfl T.wf q02 (qa (qj (qf K) (pv 0) qb (fun _ _=>rfl)) qd)) qd)) (qk (i:=3) q0F.nd rfl (Or.inl rfl)) (qg (qN (qq q01 (qj (qf K) (qj (qf K) (qj (qf K) (qj (qf K) (pv 0) qb (fun _ _=>rfl)) (pv 3) (fun _ _=>rfl)) qb (fun _ _=>rfl)) qb (fun _ _=>rfl)) qL (qp _)) (qg (qv (i:=2) q0F.nd rfl (Or.inl rfl) (qi q05 (pv 2) (qi q28 qb (pv 3))))) qu)))
   (qe (qN (qq q3y (qi q41 (qj (qf K) (pv 1) qb (fun _ _=>rfl)) (pv 2)) (qj (qf K) (pv 1) qb (fun _ _=>rfl)) (qp _)) (qg (qm q1g)) qu)
   (qg (qm (qP (qbJ K hu) (q0C (q0p (N:=["_law_kind","_law_cave_here","_law_stand"]) (own:=1) (caps:=[0,1]) ["_law_cave_here","_law_stand","_law_doors","_law_k"] (qh q0u) (by walk_at "k")) rfl (q03 rfl T.wu (qa qb qd)) (fun _ _ _ _=>(qk (i:=0) (show List.Nodup (["_law_kind","_law_cave_here","_law_stand"]:List Str) by walk_at "k") rfl (Or.inl rfl))) (fun _ _ _ _=>(q3p (qq q4q (qz wq hr (by decide) rfl (qa (pv 1) (qa (pv 2) (qa (pv 0) qd)))) qb (qp _)))) (fun _ _ _ _=>(pv 0))) (q0h qd) (qp _))))))))),?_⟩
  walk_at "r"
  rw[yC]
  rcases l45 with l4|l5
  ·rw [l4,zj (show(!decide (((4:Nat):Int)=5))=true from rfl)]
   walk_at "r"
   have:=k H (Same.refl _)
   rw[q4J (by omega)] at this
   exact this
  rw[l5,zd (show¬(!decide (((5:Nat):Int)=5))=true by decide)]
  obtain⟨rm,tk,op,b,wt,rfl⟩:∃rm tk op b wt,st=[rm,tk,op,b,wt]:=by
   match st,l5 with
   |[rm,tk,op,b,wt],_=>exact⟨rm,tk,op,b,wt,rfl⟩
  rw[q3K] at k
  have fls:∀Hn,Same H Hn->(((((decide (0<=rm/\rm<C.rooms)&&decide (0<=tk/\tk<2 ^ C.things.length))&&(decide (0<=op/\op<2 ^ C.ways.length)&&drs (dsOf C) C.ways.length op))&&decide (0<=b/\b<256))&&decide (0<=wt/\wt<10))&&q2l C tk op)=false->Q (.bl false) Hn:=fun Hn sn e=>by have:=k Hn sn;rw[e] at this;exact this
  walk_at "r"
  refine⟨q,[rm,tk,op,b,wt],rfl,SqT.of hq,by simp,fun M m1 m2=>?_⟩
  have hq:H q=some (.tup [.int rm,.int tk,.int op,.int b,.int wt]):=hq
  simp only[List.mem_cons,List.not_mem_nil,or_false] at m1
  have p1:=m2 rm (by simp)
  have p2:=m2 tk (by simp)
  have p3:=m2 op (by simp)
  have p4:=m2 b (by simp)
  have p5:=m2 wt (by simp)
  walk_at "r"
  refine ifd (fun g1=>?_) (fun g1=>?_)
  ·walk_at "r"
   refine fls _ (Same.refl _) (zaZ.mpr fun z=>?_)
   simp only[Bool.and_eq_true,decide_eq_true_eq] at z
   obtain⟨⟨⟨⟨⟨z1,z2⟩,z3,z4⟩,z5⟩,z6⟩,z7⟩:=z
   have y2:=z2.1
   have y3:=z3.1
   clear z2 z3
   omega
  walk_at "r"
  refine ifd (fun g2=>?_) (fun g2=>?_)
  ·walk_at "r"
   refine fls _ (Same.refl _) (zaZ.mpr fun z=>?_)
   simp only[Bool.and_eq_true,decide_eq_true_eq] at z
   obtain⟨⟨⟨⟨⟨z1,z2⟩,z3,z4⟩,z5⟩,z6⟩,z7⟩:=z
   clear z2 z3
   omega
  walk_at "r"
  rw[zaF,zh,htl]
  refine ifd (fun g3=>?_) (fun g3=>?_)
  ·walk_at "r"
   refine fls _ (Same.refl _) (zaZ.mpr fun z=>?_)
   simp only[Bool.and_eq_true,decide_eq_true_eq] at z
   obtain⟨⟨⟨⟨⟨z1,z2⟩,z3,z4⟩,z5⟩,z6⟩,z7⟩:=z
   exact absurd z2.2 (Int.not_lt.mpr g3)
  walk_at "r"
  refine ifd (fun g4=>?_) (fun g4=>?_)
  ·walk_at "r"
   refine fls _ (Same.refl _) (zaZ.mpr fun z=>?_)
   simp only[Bool.and_eq_true,decide_eq_true_eq] at z
   obtain⟨⟨⟨⟨⟨z1,z2⟩,z3,z4⟩,z5⟩,z6⟩,z7⟩:=z
   clear z2 z3
   omega
  walk_at "r"
  refine ifd (fun g5=>?_) (fun g5=>?_)
  ·walk_at "r"
   refine fls _ (Same.refl _) (zaZ.mpr fun z=>?_)
   simp only[Bool.and_eq_true,decide_eq_true_eq] at z
   obtain⟨⟨⟨⟨⟨z1,z2⟩,z3,z4⟩,z5⟩,z6⟩,z7⟩:=z
   clear z2 z3
   omega
  have c1:decide (0<=rm/\rm<C.rooms)=true:=ze ⟨by omega,by omega⟩
  have c2:decide (0<=tk/\tk<2 ^ C.things.length)=true:=ze ⟨by omega,Int.not_le.mp g3⟩
  have c4:decide (0<=b/\b<256)=true:=ze ⟨by omega,by omega⟩
  have c5:decide (0<=wt/\wt<10)=true:=ze ⟨by omega,by omega⟩
  rw[c1,c2,c4,c5] at fls k
  have ad:=q9s (ds:=dsOf C) (op:=op) (m:=C.ways.length) (by omega)
  rw[<-ad] at fls k
  walk_at "r"
  refine q24 (fun i σ H'=>∃v3,σ=[some (.ref c),some (.ref q),some (.int (dbs (dsOf C) i)),v3]/\H'=H) ⟨none,rfl,rfl⟩ ?_ ?_
  ·rintro i σ H' hi ⟨v3,rfl,rfl⟩
   have hi2:i<C.ways.length:=by rw[<-hwl];simpa using hi
   obtain⟨p2,hx,g2,hp2,hg2⟩:=hwg i hi2
   have hwd:=gt_at C.ways[i].g
   have hdr:=gt_dr C.ways[i].g
   have eds:dsOf C i=C.ways[i].g.dk:=by simp[dsOf,hi2]
   have hi20:((i:Nat):Int)<=20:=by omega
   intro D2 hn2 hc2 hb2 hr2
   walk_at "r"
   rw[hdr,<-eds]
   refine ite2 (fun hs=>?_) (fun hs=>?_)
   ·walk_at "r"
    refine hn2 _ _ ⟨some (.int (0+(i:Nat))),?_,rfl⟩
    rw[show dbs (dsOf C) (i+1)=dbs (dsOf C) i+(if (dsOf C i).isSome=true then 2 ^ i else 0) from rfl,zj hs,zas,zaF,zh]
    rfl
   ·walk_at "r"
    refine hn2 _ _ ⟨some (.int (0+(i:Nat))),?_,rfl⟩
    rw[show dbs (dsOf C) (i+1)=dbs (dsOf C) i+(if (dsOf C i).isSome=true then 2 ^ i else 0) from rfl,zd hs,zbz]
    rfl
  ·rintro σ H' ⟨v3,rfl,rfl⟩
   rw[zh,hwl]
   walk_at "r"
   by_cases g6:Builtin.bitAnd op (dbs (dsOf C) C.ways.length)=op
   rotate_left
   ·rw [zf g6] at fls ⊢
    walk_at "r"
    exact fls _ (Same.refl _) (by simp)
   ·rw [ze g6] at k ⊢
    walk_at "r"
    intro D hD
    refine q2w (fun i σ H2=>∃(v0:Option V) (ms:List Int),σ=[v0,some (.ref c),some (.ref q)]/\Same H' H2/\H2 D=some (.lst (ms.map V.int))/\ms.length<=i/\(ms=[]↔∀k:Nat,k<i->0<=hold C tk op k)) ⟨none,[],rfl,Same.upd hD,qc,zc _,by simp⟩ ?_ ?_
    ·rintro i σ H2 hi ⟨v0,ms,rfl,s2,hm,ml,me⟩
     walk_at "r"
     refine⟨c,q,C,⟨rm,tk,op,b,wt⟩,_,rfl,hC.mono s2.ts,ok,s2 _ _ hq,fun H3 s3=>?_⟩
     walk_at "r"
     rw[zas]
     refine ifd (fun g7=>?_) (fun g7=>?_)
     ·walk_at "r"
      refine⟨_,s3 _ _ hm,by rw[yC];omega,_,ms++[(i:Int)],rfl,(s2.trans s3).put hD,by rw[qc];simp,by simp;omega,?_⟩
      constructor
      ·intro z;simp at z
      ·intro z;exact absurd (z i (by omega)) (Int.not_le.mpr g7)
     ·refine ⟨_,ms,rfl,s2.trans s3,s3 _ _ hm,by omega,?_⟩
      rw[me]
      constructor
      ·intro z k hk
       by_cases e:k=i
       ·subst e;exact Int.not_lt.mp g7
       ·exact z k (by omega)
      ·intro z k hk
       exact z k (by omega)
    ·rintro σ H2 ⟨v0,ms,rfl,s2,hm,ml,me⟩
     walk_at "r"
     intro e1 he1
     have s3:=Same.upd (o:= .lst []) he1
     have e3:=qc (H:=H2) (a:=e1) (o:= .lst [])
     generalize upd H2 e1 (.lst [])=H3 at s3 e3 ⊢
     refine⟨D,e1,_,_,rfl,rfl,SqL.of (s3 _ _ hm),SqL.of e3,by simp[q3i],rfl,?_⟩
     walk_at "r"
     have:=k H3 (s2.trans s3)
     have ea:eqVs (ms.map V.int) []=q2l C tk op:=by
      have e5:eqVs (ms.map V.int) []=decide (ms=[]):=by cases ms<;>rfl
      rw[e5,zY]
      unfold q2l
      rw[decide_eq_true_eq,me]
      simp
     rw[ea]
     simpa using this
def ik (st:List Int):List Key:=st.map Sum.inl
theorem ik_vs (st:List Int):(ik st).map kV=st.map V.int:=by unfold ik;rw[List.map_map];rfl
theorem ik_inj {a b:List Int}(h:ik a=ik b):a=b:=(List.map_inj_right (fun _ _ e=>Sum.inl.inj e)).mp h
def NumD (H:Hp)(D:Addr)(N:List Int->Option Int):Prop:=∃kvs,H D=some (.dT kvs)/\∀st,valV kvs (ik st)=(N st).map V.int
theorem NumD.same {H H':Hp}(s:Same H H'){D:Addr}{N:List Int->Option Int}(h:NumD H D N):NumD H' D N:=let ⟨kvs,h1,h2⟩:=h;⟨kvs,s _ _ h1,h2⟩
theorem q4c {H:Hp}{D b:Addr}{N:List Int->Option Int}{st:List Int}(h:NumD H D N)(hb:H b=some (.tup (st.map V.int))):DGet H D (.ref b) ((N st).map V.int):=by
 obtain⟨kvs,h1,h2⟩:=h
 exact .inr ⟨kvs,ik st,b,.inl h1,rfl,by rw[ik_vs];exact hb,(h2 st).symm⟩
def q78 (C:Cl)(N:List Int->Option Int)(s:Sd)(x:Ln):Bool:=
 if x.n=0 then decide (s.rm=C.lst)&&decide (x.dd=none) else if x.n<0 then false else(fitD C s).any fun d=>decide (x.dd=some d)&&decide ((N (q0N C s d.1 (d.2:Int)).ns).getD 0<x.n)
theorem qcg {d e:Wd×Nat}:eqVs [.str d.1.str,.int ((d.2:Nat):Int)] [.str e.1.str,.int ((e.2:Nat):Int)]=decide (some e=some d):=by
 obtain⟨a,i⟩:=d
 obtain⟨b,j⟩:=e
 have hs:(a.str=b.str)↔a=b:=by cases a<;>cases b<;>first|decide|simp
 rw[zY]
 simp[eqVs,eqV]
 rw[hs]
 constructor
 ·rintro ⟨rfl,e⟩;exact⟨rfl,by omega⟩
 ·rintro ⟨rfl,rfl⟩;exact⟨rfl,rfl⟩
theorem qaX {K:W.Frag}{H:Hp}{Q:VK}{t:Addr}{v:V}{d:Wd×Nat}{dd:Option (Wd×Nat)}(ht:TAt H t d)(hv:DdAt H v dd)(k:Q (.bl (decide (dd=some d))) H):rEqTN K (.ref t) v H Q:=by
 cases dd with
 |none=>rw[show v= .non from hv];exact .inr ⟨t,_,rfl,rfl,SqT.of ht,by simpa using k⟩
 |some e=>obtain⟨t2,rfl,h2⟩:=hv;exact .inl ⟨t,t2,_,_,rfl,rfl,SqT.of ht,SqT.of h2,rfl,rfl,by rw[qcg];exact k⟩
def q89:Sp:=fun vs H Q _=>∃(c D p l:Addr) (C:Cl) (N:List Int->Option Int) (s:Sd) (x:Ln),vs=[.ref c,.ref D,.ref p,.ref l]/\ClAt H c C/\CvOk C/\NumD H D N/\LnAt H p x/\x.st=s.ns/\qI (PrAt C s) H l (fitD C s)/\(∀y∈nx C s,(N y.ns).isSome=true)/\∀H',Same H H'->Q (.bl (q78 C N s x)) H'
theorem qa6 (T:Txt mg cs)(L:Laid K mg "falls" q3R ["cellar","numbers","line","pairs"]):Cal P w K mg base 1 "falls" ["cellar","numbers","line","pairs"] q89:=by
 obtain⟨t1,wc⟩:=T.wc
 obtain⟨t2,vA⟩:=T.vA
 refine L.cal (k:=0) q6T (fun vs H Q E h=>?_) (fun f cdv A outer s H vs Q E hr h=>?_)
 ·obtain ⟨c,D,p,l,C,N,st,x,rfl,_⟩:=h
  rfl
 ·obtain ⟨c,D,p,l,C,N,st,x,rfl,hC,cv,hN,⟨q,v,h1,h2,h3⟩,ex,⟨ps,hps,rps⟩,hin,k⟩:=h
  have big:=qE
  have hu:=zbj (qan hr)
  obtain⟨pw,pt,pl,pv',h0,_⟩:=hC.ex
  rw[ex] at h2
  have h2:H q=some (.tup [.int st.rm,.int st.tk,.int st.op,.int st.b,.int st.wt]):=h2
  have fx:=cv.few st
  refine⟨_,(qe (qv (i:=4) q6T.nd rfl (Or.inr rfl) (qj (qf K) (pv 2) qb (fun _ _=>rfl)))
   (qe (qN (qq q01 (pv 4) qb (qp _)) (qg (qm (q1C (qP q01 (qj (qf K) (qj (qf K) (pv 2) qb (fun _ _=>rfl)) (qt (v:= .int 0) rfl wc ⟨_,rfl⟩) (fun _ _=>rfl)) (qj (qf K) (pv 0) (qt (v:= .int 2) rfl vA ⟨_,rfl⟩) (fun _ _=>rfl)) (qp _)) (q27 (qb1 (pc_isN (qj (qf K) (pv 2) qb (fun _ _=>rfl)))))))) qu)
   (qe (qN (qq q4q (pv 4) qb (qp _)) (qg (qm q1g)) qu)
   (qg (qm (qx (anyK K) rfl T.wa7 qb7 (qa (q0C (q0p (N:=["deed","other","line","numbers","number"]) (own:=2) (caps:=[2,1,4]) ["cellar","numbers","line","pairs","number"] (qh q3R) (by walk_at "k")) rfl (qO K (pv 3)) (fun _ _ _ _=>(q0g (n:=2) K rfl (qr (qk (i:=0) (show List.Nodup (["deed","other","line","numbers","number"]:List Str) by walk_at "k") rfl (Or.inl rfl)) (qr (qk (i:=1) (show List.Nodup (["deed","other","line","numbers","number"]:List Str) by walk_at "k") rfl (Or.inl rfl)) q0f)))) (fun _ _ _ _=>q18) (fun _ _ _ _=>(q1C (qP (q8t K hu) (pv 0) (qj (qf K) (pv 2) qb (fun _ _=>rfl)) (qp _)) (q27 (qP q4q (q3W (q0w hr) (pv 3) (pv 1) (fun _ _=>rfl)) (pv 4) (qp _)))))) qd))))))),?_⟩
  walk_at "r"
  unfold q78 at k
  refine ifd (fun g1=>?_) (fun g1=>?_)
  ·rw [zj g1] at k
   have ev:decide (v=V.non)=decide (x.dd=none):=by
    cases hd:x.dd with
    |none=>rw[hd] at h3;rw[show v=V.non from h3];simp
    |some d=>rw[hd] at h3;obtain⟨t,rfl,_⟩:=h3;simp
   walk_at "r"
   by_cases g2:st.rm=C.lst
   ·rw [ze g2] at k ⊢
    walk_at "r"
    rw[ev]
    simpa using k H (Same.refl _)
   ·rw [zf g2] at k ⊢
    walk_at "r"
    simpa using k H (Same.refl _)
  ·rw [zd g1] at k
   walk_at "r"
   refine ifd (fun g2=>?_) (fun g2=>?_)
   ·rw [zj g2] at k
    walk_at "r"
    exact k H (Same.refl _)
   ·rw [zd g2] at k
    walk_at "r"
    intro B hB
    refine q0c (ps.map V.ref) (fun j σ H'=>∃v0 v1,σ=[v0,v1,some (.ref p),some (.ref D),some (.int x.n)]/\Same H H'/\H' B=some (.lst ((((fitD C st).take j).map fun d=>decide (x.dd=some d)&&decide ((N (q0N C st d.1 (d.2:Int)).ns).getD 0<x.n)).map V.bl))) ⟨none,none,rfl,Same.upd hB,qc⟩ ?_ ?_ ?_
    ·rintro j σ H' ⟨_,_,rfl,s1,_⟩
     exact SqL.of (s1 _ _ hps)
    ·rintro j z σ H1 hz ⟨v0,v1,rfl,s1,hb1⟩
     have hj:j<(fitD C st).length:=by have:=(yA hz).1;rw[yC,rps.1] at this;exact this
     obtain⟨p5,ep,hp5⟩:=rps.get hj
     rw[hz] at ep
     cases ep
     have hin1:=hin (q0N C st (fitD C st)[j].1 ((fitD C st)[j].2:Int)) (zN.mpr ⟨_,zx hj,rfl⟩)
     have et:(fitD C st).take (j+1)=(fitD C st).take j++[(fitD C st)[j]]:=zn hj
     generalize (fitD C st)[j]=d at hp5 et hin1
     obtain⟨t,r,e5,ht5,hr5⟩:=PrAt.mono s1.ts hp5
     obtain⟨m,hm⟩:=zaK.mp hin1
     have hr5':H1 r=some (.tup ((q0N C st d.1 (d.2:Int)).ns.map V.int)):=hr5
     have hg:=q4c (hN.same s1) hr5'
     rw[hm] at hg
     have p1:=s1 _ _ h1
     walk_at "r"
     refine qaX ht5 (h3.mono s1.ts) ⟨_,rfl,?_⟩
     have fin:∀b:Bool,b=(decide (x.dd=some d)&&decide ((N (q0N C st d.1 (d.2:Int)).ns).getD 0<x.n))->∃ys,H1 B=some (.lst ys)/\ys.length<sizeLine/\∃v0 v1,[some (V.ref t),some (V.ref r),some (V.ref p),some (V.ref D),some (V.int x.n)]=[v0,v1,some (.ref p),some (.ref D),some (.int x.n)]/\Same H (upd H1 B (.lst (ys++[V.bl b])))/\upd H1 B (.lst (ys++[V.bl b])) B=some (.lst ((((fitD C st).take (j+1)).map fun d=>decide (x.dd=some d)&&decide ((N (q0N C st d.1 (d.2:Int)).ns).getD 0<x.n)).map V.bl)):=by
      rintro b rfl
      refine⟨_,hb1,by rw[yC,yC,zl];omega,_,_,rfl,s1.put hB,?_⟩
      rw[qc,et,zv,zv]
      rfl
     by_cases g3:x.dd=some d
     ·rw [zj (ze g3)]
      rw[ze g3,hm,zay] at fin
      walk_at "r"
      refine⟨D,_,rfl,hg,?_⟩
      walk_at "r"
      obtain⟨ys,f1,f2,v0',v1',f3,f4,f5⟩:=fin _ rfl
      exact⟨ys,f1,f2,v0',v1',f3,f4,f5⟩
     ·rw [zd (by simpa using g3)]
      rw[zf g3,zaz] at fin
      obtain⟨ys,f1,f2,v0',v1',f3,f4,f5⟩:=fin _ rfl
      exact⟨ys,f1,f2,v0',v1',f3,f4,f5⟩
    ·rintro σ H1 ⟨v0,v1,rfl,s1,hb1⟩
     rw[yC,rps.1,zG] at hb1
     walk_at "r"
     refine⟨B,_,rfl,SqL.of hb1,?_⟩
     rw[zcu]
     exact k H1 s1
def sdL:List Int->Sd
 |[a,b,c,d,e]=>⟨a,b,c,d,e⟩
 |_=>⟨0,0,0,0,0⟩
theorem q8R {st:List Int}(h:st.length=5):st=(sdL st).ns:=by
 match st,h with
 |[a,b,c,d,e],_=>rfl
theorem q4t {C:Cl}{st:List Int}(h:stOk C st=true):st.length=5:=by
 by_cases e:st.length=5
 ·exact e
 ·rw [q4J e] at h;cases h
theorem q4z {C:Cl}{s:Sd}(h:stOk C s.ns=true):s.ok C:=by
 have h:stOk C [s.rm,s.tk,s.op,s.b,s.wt]=true:=h
 rw[q3K] at h
 simp only[Bool.and_eq_true,decide_eq_true_eq] at h
 obtain⟨⟨⟨⟨⟨z1,z2⟩,z3,z4⟩,z5⟩,z6⟩,z7⟩:=h
 refine⟨z1,z2,z3,fun i hi hb=>?_,⟨z5.1,by omega⟩,⟨z6.1,by omega⟩,fun k k0 k1=>?_⟩
 ·unfold drs at z4
  have:=zav.mp z4 i (zbA.mpr hi)
  simpa[hb] using this
 ·unfold q2l at z7
  have:=zav.mp z7 k.toNat (zbA.mpr (by omega))
  rw[decide_eq_true_eq,Int.toNat_of_nonneg k0] at this
  exact this
def q4r (C:Cl)(N:List Int->Option Int)(x:Ln):Bool:=stOk C x.st&&(((nx C (sdL x.st)).all fun y=>(N y.ns).isSome)&&q78 C N (sdL x.st) x)
def qaR:Sp:=fun vs H Q _=>∃(c D p:Addr) (C:Cl) (N:List Int->Option Int) (x:Ln),vs=[.ref c,.ref D,.ref p]/\ClAt H c C/\CvOk C/\NumD H D N/\LnAt H p x/\GL x/\∀H',Same H H'->Q (.bl (q4r C N x)) H'
theorem qbO (T:Txt mg cs)(L:Laid K mg "line_holds" q0Y ["cellar","numbers","line"])(vI:Cal P w K mg base 3 "is_stand" ["cellar","thing"] spIs)(wac:Cal P w K mg base 8 "leads" ["cellar","stand"] q2L)(waj:Cal P w K mg base 1 "falls" ["cellar","numbers","line","pairs"] q89):Cal P w K mg base 9 "line_holds" ["cellar","numbers","line"] qaR:=by
 refine L.cal (k:=8) q1E (fun vs H Q E h=>?_) (fun f cdv A outer s H vs Q E hr h=>?_)
 ·obtain ⟨c,D,p,C,N,x,rfl,_⟩:=h
  rfl
 ·obtain ⟨c,D,p,C,N,x,rfl,hC,cv,hN,⟨q,v,h1,h2,h3⟩,gx,k⟩:=h
  have big:=qE
  have ok:=cv.ok
  have l5:x.st.length<=10:=by rcases gx with z|z<;>omega
  refine⟨_,(qe (qv (i:=3) q1E.nd rfl (Or.inl rfl) (qj (qf K) (pv 2) qb (fun _ _=>rfl)))
   (qe (qN (q2C (q14 (qz vI hr (by decide) rfl (qa (pv 0) (qa (pv 3) qd))))) (qg (qm q1g)) qu)
   (qe (qv (i:=4) q1E.nd rfl (Or.inl rfl) (qz wac hr (by decide) rfl (qa (pv 0) (qa (pv 3) qd))))
   (qe (qN (q14 (qx (anyK K) rfl T.wa7 qb7 (qa (q0C (q0p (N:=["deed","other","numbers"]) (own:=2) (caps:=[1]) ["cellar","numbers","line","stand","pairs"] (qh q0Y) (by walk_at "k")) rfl (qO K (pv 4)) (fun _ _ _ _=>(q0g (n:=2) K rfl (qr (qk (i:=0) (show List.Nodup (["deed","other","numbers"]:List Str) by walk_at "k") rfl (Or.inl rfl)) (qr (qk (i:=1) (show List.Nodup (["deed","other","numbers"]:List Str) by walk_at "k") rfl (Or.inl rfl)) q0f)))) (fun _ _ _ _=>q18) (fun _ _ _ _=>(qb1 (q1D (q0w hr) (pv 1) (pv 2))))) qd))) (qg (qm q1g)) qu)
   (qg (qm (qz waj hr (by decide) rfl (qa (pv 0) (qa (pv 1) (qa (pv 2) (qa (pv 4) qd))))))))))),?_⟩
  walk_at "r"
  refine⟨c,q,C,x.st,rfl,hC,ok,h2,l5,fun H1 s1=>?_⟩
  unfold q4r at k
  walk_at "r"
  by_cases g1:stOk C x.st=true
  rotate_left
  ·rw [za6] at g1
   rw[g1] at k ⊢
   walk_at "r"
   simpa using k H1 s1
  ·rw [g1] at k ⊢
   walk_at "r"
   have ex:=q8R (q4t g1)
   rw[ex] at g1
   have sok:=q4z g1
   generalize sdL x.st=st at ex sok k g1
   have h2':SAt H q st:=by rw[ex] at h2;exact h2
   refine⟨c,q,C,st,rfl,hC.mono s1.ts,ok,s1 _ _ h2',sok,fun l H2 s2 hl0 m2=>?_⟩
   obtain⟨ps,hps,rps⟩:=m2
   have fx:=cv.few st
   have s12:=s1.trans s2
   walk_at "r"
   intro B hB
   refine q0c (ps.map V.ref) (fun j σ H'=>∃v0 v1,σ=[v0,v1,some (.ref D)]/\Same H2 H'/\H' B=some (.lst ((((nx C st).take j).map fun y=> !(N y.ns).isSome).map V.bl))) ⟨none,none,rfl,Same.upd hB,qc⟩ ?_ ?_ ?_
   ·rintro j σ H' ⟨_,_,rfl,s3,_⟩
    exact SqL.of (s3 _ _ hps)
   ·rintro j z σ H3 hz ⟨v0,v1,rfl,s3,hb3⟩
    have hj:j<(fitD C st).length:=by have:=(yA hz).1;rw[yC,rps.1] at this;exact this
    obtain⟨p5,ep,hp5⟩:=rps.get hj
    rw[hz] at ep
    cases ep
    obtain⟨t,r,e5,ht5,hr5⟩:=PrAt.mono s3.ts hp5
    have hj':j<(nx C st).length:=by unfold nx;rw[yC];exact hj
    have ey:q0N C st (fitD C st)[j].1 ((fitD C st)[j].2:Int)=(nx C st)[j]:=by simp[nx]
    rw[ey] at hr5
    have hr5:H3 r=some (.tup ((nx C st)[j].ns.map V.int)):=hr5
    walk_at "r"
    refine⟨D,_,rfl,q4c (hN.same (s12.trans s3)) hr5,?_⟩
    refine⟨_,hb3,by rw[yC,yC,zl];omega,_,_,rfl,s3.put hB,?_⟩
    rw[qc,zn hj',zv,zv]
    simp
   ·rintro σ H3 ⟨v0,v1,rfl,s3,hb3⟩
    rw[yC,rps.1,show(fitD C st).length=(nx C st).length by simp[nx],zG] at hb3
    have s13:=s12.trans s3
    walk_at "r"
    refine⟨B,_,rfl,SqL.of hb3,?_⟩
    walk_at "r"
    by_cases g2:((nx C st).all fun y=>(N y.ns).isSome)=true
    ·rw [g2] at k
     have ea:(((nx C st).map fun y=> !(N y.ns).isSome).any id)=false:=by
      rw[zcu,List.any_eq_false]
      intro y hy
      have:=zav.mp g2 y hy
      show¬(!(N y.ns).isSome)=true
      rw[this]
      decide
     rw[ea]
     walk_at "r"
     refine⟨c,D,p,l,C,N,st,x,rfl,hC.mono s13.ts,cv,hN.same s13,⟨q,v,s13 _ _ h1,s13 _ _ h2,h3.mono s13.ts⟩,ex,⟨ps,s3 _ _ hps,rps.mono fun _ _=>PrAt.mono s3.ts⟩,fun y hy=>zav.mp g2 y hy,fun H4 s4=>?_⟩
     walk_at "r"
     simpa using k H4 (s13.trans s4)
    ·rw [za6] at g2
     rw[g2] at k
     have ea:(((nx C st).map fun y=> !(N y.ns).isSome).any id)=true:=by
      rw[zcu,List.any_eq_true]
      obtain⟨y,hy,hn⟩:=List.all_eq_false.mp g2
      exact⟨y,hy,by simpa using hn⟩
     rw[ea]
     walk_at "r"
     simpa using k H3 s13
end
section
variable {κ:Type}[DecidableEq κ]
theorem q6M (k k':κ)(v:V):∀l:List (κ×V),valV (l.map fun kv=>if kv.1=k then(kv.1,v) else kv) k'=if k=k' then(valV l k).map fun _=>v else valV l k'
 |[]=>by simp[valV]
 |p::l=>by
  have ih:=q6M k k' v l
  by_cases e:p.1=k
  ·by_cases e2:k=k'
   ·subst e2
    rw[z8,zj e,q0E (by exact e),zj rfl,q0E e]
    rfl
   ·rw [z8,zj e,q0x (by intro z;exact e2 (e.symm.trans z)),ih,zd e2,zd e2,q0x (by intro z;exact e2 (e.symm.trans z))]
  ·rw [z8,zd e]
   by_cases e3:p.1=k'
   ·rw [q0E e3,q0E e3,zd (by intro z;exact e (e3.trans z.symm))]
   ·rw [q0x e3,ih,q0x e3,q0x e]
theorem q3J (k k':κ)(v:V):∀l:List (κ×V),valV l k=none->valV (l++[(k,v)]) k'=if k=k' then some v else valV l k'
 |[],_=>by
  by_cases e:k=k'
  ·rw [zj e,zbR,q0E (by exact e)]
  ·rw [zd e,zbR,q0x (by exact e)]
 |p::l,h=>by
  by_cases e:p.1=k
  ·rw [q0E e] at h;cases h
  ·rw [q0x e] at h
   have ih:=q3J k k' v l h
   rw[List.cons_append]
   by_cases e3:p.1=k'
   ·rw [q0E e3,q0E e3,zd (by intro z;exact e (e3.trans z.symm))]
   ·rw [q0x e3,ih,q0x e3]
theorem q9x (kvs:List (κ×V))(k k':κ)(v:V):valV (putK kvs k v) k'=if k=k' then some v else valV kvs k':=by
 unfold putK
 rw[q2S]
 cases h:valV kvs k with
 |none=>rw[zd (by simp)];exact q3J k k' v kvs h
 |some u=>
  rw[zj (show(some u).isSome=true from rfl),q6M,h]
  rfl
theorem qc5 (kvs:List (κ×V))(k:κ)(v:V):(putK kvs k v).length=if (valV kvs k).isSome=true then kvs.length else kvs.length+1:=by
 unfold putK
 rw[q2S]
 split
 ·rw [yC]
 ·simp
end
def putN (N:List Int->Option Int)(x:Ln):List Int->Option Int:=fun st=>if x.st=st then some x.n else N st
def q2i (ls:List Ln):List Int->Option Int:=ls.foldl putN fun _=>none
theorem q7D (ls:List Ln)(x:Ln):q2i (ls++[x])=putN (q2i ls) x:=by unfold q2i;rw[List.foldl_append];rfl
theorem q61 (st:List Int):∀(ls:List Ln) (N:List Int->Option Int),((ls.foldl putN N) st).isSome=(decide (st∈ls.map Ln.st)||(N st).isSome)
 |[],N=>by simp
 |x::ls,N=>by
  rw[zcx,q61 st ls]
  unfold putN
  by_cases e:x.st=st
  ·rw [zj e];simp[e]
  ·rw [zd e]
   have:¬st=x.st:=fun z=>e z.symm
   simp[this]
theorem q2q (ls:List Ln)(st:List Int):(q2i ls st).isSome=decide (st∈ls.map Ln.st):=by
 unfold q2i
 rw[q61]
 simp
def q3z (H:Hp)(D:Addr)(ls:List Ln):Prop:=∃kvs,H D=some (.dT kvs)/\(∀st,valV kvs (ik st)=(q2i ls st).map V.int)/\kvs.length<=ls.length/\(kvs.length=ls.length↔(ls.map Ln.st).Nodup)
theorem q3z.num {H:Hp}{D:Addr}{ls:List Ln}(h:q3z H D ls):NumD H D (q2i ls):=let ⟨kvs,h1,h2,_⟩:=h;⟨kvs,h1,h2⟩
theorem q3z.same {H H':Hp}(s:Same H H'){D:Addr}{ls:List Ln}(h:q3z H D ls):q3z H' D ls:=let ⟨kvs,h1,h2⟩:=h;⟨kvs,s _ _ h1,h2⟩
theorem q3z.put {H:Hp}{D b:Addr}{ls:List Ln}{x:Ln}(h:q3z H D ls)(hb:H b=some (.tup (x.st.map V.int)))(hl:ls.length<=1000):∃o kvs,H D=some (.dT kvs)/\DPut H D (.ref b) (.int x.n) (upd H D (.dT o))/\q3z (upd H D (.dT o)) D (ls++[x]):=by
 have big:=qE
 obtain⟨kvs,h1,h2,h3,h4⟩:=h
 refine⟨_,kvs,h1,DPut.t (k:=ik x.st) h1 (by rw[ik_vs];exact hb) (by omega),putK kvs (ik x.st) (.int x.n),qc,fun st=>?_,?_,?_⟩
 ·rw [q9x,q7D]
  unfold putN
  by_cases e:x.st=st
  ·rw [zj (by rw[e]),zj e];rfl
  ·rw [zd (fun z=>e (ik_inj z)),zd e];exact h2 st
 ·have:=q2P kvs (ik x.st) (.int x.n)
  rw[zk]
  simp
  omega
 ·rw [qc5,h2,zaB,q2q,zk,zv]
  by_cases e:x.st∈ls.map Ln.st
  ·rw [zj (ze e)]
   constructor
   ·intro z;simp at z;omega
   ·intro z
    rw[zau] at z
    exact absurd rfl (z.2.2 _ e _ (by simp))
  ·rw [zd (by simpa using e)]
   constructor
   ·intro z
    have:=h4.mp (by simpa using z)
    exact zau.mpr ⟨this,by simp,fun a ha b hb' e2=>e (by rw[List.map_singleton,List.mem_singleton] at hb';rw[<-hb',<-e2];exact ha)⟩
   ·intro z
    rw[zau] at z
    rw[h4.mpr z.1]
    rfl
def q5q (C:Cl):List Int:=[C.fst,0,0,C.bars,C.water]
def q3r (C:Cl)(ls:List Ln):Bool:=decide ((ls.map Ln.st).Nodup)&&(decide (q5q C∈ls.map Ln.st)&&ls.all (q4r C (q2i ls)))
def q4K:Sp:=fun vs H Q _=>∃(c R:Addr) (C:Cl) (ls:List Ln),vs=[.ref c,.ref R]/\ClAt H c C/\CvOk C/\qI LnAt H R ls/\ls.length<=300/\(∀x∈ls,GL x)/\∀H',Same H H'->Q (.bl (q3r C ls)) H'
section
variable {P:Program}{w:World}{K:W.Frag}{mg:Str->Option Value}{base:Heap}{cs:Cs}
theorem qa2 (T:Txt mg cs)(L:Laid K mg "holds" q3Q ["cellar","paper"])(wai:Cal P w K mg base 1 "start" ["cellar"] q6e)(vC:Cal P w K mg base 9 "line_holds" ["cellar","numbers","line"] qaR):Cal P w K mg base 10 "holds" ["cellar","paper"] q4K:=by
 refine L.cal (k:=9) q2U (fun vs H Q E h=>?_) (fun f cdv A outer s H vs Q E hr h=>?_)
 ·obtain ⟨c,R,C,ls,rfl,_⟩:=h
  rfl
 ·obtain ⟨c,R,C,ls,rfl,hC,cv,⟨us,hus,rus⟩,ll,gl,k⟩:=h
  have big:=qE
  refine⟨_,(qe (qv (i:=2) q2U.nd rfl (Or.inr rfl) q3C)
   (qe (q0z PassesOwn.never rfl (qO K (pv 1)) (q0g (n:=3) K rfl (qr (qk (i:=3) q2U.nd rfl (Or.inl rfl)) (qr (qk (i:=4) q2U.nd rfl (Or.inl rfl)) (qr (qk (i:=5) q2U.nd rfl (Or.inl rfl)) q0f)))) (qg (q3e (q0w hr) (pv 2) (pv 3) (pv 5) rfl)))
   (qe (qN (PW.pt (q33 (qq q3y (qx lenT rfl T.wf q02 (qa (pv 2) qd)) (qx (lenK K) rfl T.wf q02 (qa (pv 1) qd)) (qp _)) (q2f (q2D (q1D (q0w hr) (qz wai hr (by decide) rfl (qa (pv 0) qd)) (pv 2)))))) (qg (qm q1g)) qu)
   (qg (qm (qx (q9k K rfl) rfl T.wbm bt_all (qa (q0C (q0p (N:=["line","cellar","numbers"]) (own:=1) (caps:=[0,2]) ["cellar","paper","numbers","stand","deed","number"] (qh q3Q) (by walk_at "k")) rfl (qO K (pv 1)) (fun _ _ _ _=>(qk (i:=0) (show List.Nodup (["line","cellar","numbers"]:List Str) by walk_at "k") rfl (Or.inl rfl))) (fun _ _ _ _=>q18) (fun _ _ _ _=>(qz vC hr (by decide) rfl (qa (pv 1) (qa (pv 2) (qa (pv 0) qd)))))) qd))))))),?_⟩
  walk_at "r"
  intro D hD
  have s1:=Same.upd (o:= .dT []) hD
  have d1:q3z (upd H D (.dT [])) D []:=⟨[],qc,fun st=>rfl,zc _,by simp⟩
  generalize upd H D (.dT [])=H1 at s1 d1 ⊢
  have u1:=s1 _ _ hus
  walk_at "r"
  refine q1v (us.map V.ref) (fun i σ H'=>∃(v3 v4 v5:Option V),σ=[some (.ref c),some (.ref R),some (.ref D),v3,v4,v5]/\Same H H'/\q3z H' D (ls.take i)) ⟨none,none,none,rfl,s1,d1⟩ ?_ ?_ ?_
  ·rintro i σ' H' ⟨_,_,_,rfl,s2,_⟩
   exact SqL.of (s2 _ _ hus)
  ·rintro i z σ' H2 hz ⟨v3,v4,v5,rfl,s2,d2⟩
   have hi:i<ls.length:=by have:=(yA hz).1;rw[yC,rus.1] at this;exact this
   obtain⟨p,ep,hp⟩:=rus.get hi
   rw[hz] at ep
   cases ep
   have et:ls.take (i+1)=ls.take i++[ls[i]]:=zn hi
   generalize ls[i]=x at hp et
   obtain⟨q,v,h1,h2,h3⟩:=hp.mono s2.ts
   obtain⟨o,kvs,hk,hput,d3⟩:=d2.put (x:=x) h2 (by rw[zl];omega)
   intro D2 hn2 hc2 hb2 hr2
   walk_at "r"
   refine⟨D,_,rfl,hput,?_⟩
   exact hn2 _ _ ⟨_,_,_,rfl,s2.put hD,by rw[et];exact d3⟩
  ·rintro σ' H2 ⟨v3,v4,v5,rfl,s2,d2⟩
   rw[yC,rus.1,zG] at d2
   have u2:=s2 _ _ hus
   have dn:=d2.num
   obtain⟨kvs,hk,_,kl,kn⟩:=d2
   unfold q3r at k
   walk_at "r"
   refine⟨D,kvs,rfl,hk,?_⟩
   walk_at "r"
   rw[yC,rus.1]
   by_cases g1:(ls.map Ln.st).Nodup
   rotate_left
   ·rw [zf g1] at k
    rw[zf (fun z=>g1 (kn.mp (by omega)))]
    walk_at "r"
    simpa using k H2 s2
   ·rw [ze g1] at k
    rw[ze (by rw[kn.mpr g1])]
    walk_at "r"
    refine⟨c,C,rfl,hC.mono s2.ts,fun q H3 s3 hq3=>?_⟩
    have hq3:H3 q=some (.tup ((q5q C).map V.int)):=hq3
    have s03:=s2.trans s3
    walk_at "r"
    refine⟨D,_,rfl,q4c (dn.same s3) hq3,?_⟩
    rw[zaB,q2q]
    by_cases g2:q5q C∈ls.map Ln.st
    rotate_left
    ·rw [zf g2] at k ⊢
     walk_at "r"
     simpa using k H3 s03
    ·rw [ze g2] at k ⊢
     have u3:=s03 _ _ hus
     walk_at "r"
     intro B hB
     refine q0c (us.map V.ref) (fun j σ H'=>∃v0,σ=[v0,some (.ref c),some (.ref D)]/\Same H3 H'/\H' B=some (.lst (((ls.take j).map (q4r C (q2i ls))).map V.bl))) ⟨none,rfl,Same.upd hB,qc⟩ ?_ ?_ ?_
     ·rintro j σ H' ⟨_,rfl,s4,_⟩
      exact SqL.of (s4 _ _ u3)
     ·rintro j z σ H4 hz ⟨v0,rfl,s4,hb4⟩
      have hj:j<ls.length:=by have:=(yA hz).1;rw[yC,rus.1] at this;exact this
      obtain⟨p,ep,hp⟩:=rus.get hj
      rw[hz] at ep
      cases ep
      have s04:=s03.trans s4
      walk_at "r"
      refine⟨c,D,p,C,q2i ls,ls[j],rfl,hC.mono s04.ts,cv,dn.same (s3.trans s4),hp.mono s04.ts,gl _ (zx hj),fun H5 s5=>?_⟩
      refine⟨_,s5 _ _ hb4,by rw[yC,yC,zl];omega,_,rfl,(s4.trans s5).put hB,?_⟩
      rw[qc,zn hj,zv,zv]
      rfl
     ·rintro σ H4 ⟨v0,rfl,s4,hb4⟩
      rw[yC,rus.1,zG] at hb4
      walk_at "r"
      refine⟨B,_,rfl,SqL.of hb4,?_⟩
      rw[List.all_map]
      simpa using k H4 (s03.trans s4)
theorem ok_due (T:Txt mg cs)(L:Laid K mg "_law_due" q1j ["_law_cave_here","_law_paper_here"])(wZ:Cal P w K mg base 2 "_law_is_stand" ["_law_cave_here","_law_stand"] spLis)(wr:Cal P w K mg base 4 "_law_next" ["_law_cave_here","_law_stand"] q2L):Cal P w K mg base 5 "_law_due" ["_law_cave_here","_law_paper_here"] q4K:=by
 refine L.cal (k:=4) q09 (fun vs H Q E h=>?_) (fun f cdv A outer s H vs Q E hr h=>?_)
 ·obtain ⟨c,R,C,ls,rfl,_⟩:=h
  rfl
 ·obtain ⟨c,R,C,ls,rfl,hC,cv,⟨us,hus,rus⟩,ll,gl,k⟩:=h
  have big:=qE
  have hu:=zbj (qan hr)
  obtain⟨pw,pt,pl,pv',h0,_⟩:=hC.ex
  have fls:∀H',Same H H'->q3r C ls=false->Q (.bl false) H':=fun H' s e=>by have:=k H' s;rw[e] at this;exact this
  have bad:∀x∈ls,q4r C (q2i ls) x=false->q3r C ls=false:=fun x hx e=>by
   unfold q3r
   rw[List.all_eq_false.mpr ⟨x,hx,by rw[e];decide⟩]
   simp
  refine⟨_,(qe (qv (i:=2) q09.nd rfl (Or.inr rfl) q3C)
   (qe (q0z PassesOwn.never rfl (qO K (pv 1)) (q0g (n:=3) K rfl (qr (qk (i:=3) q09.nd rfl (Or.inl rfl)) (qr (qk (i:=4) q09.nd rfl (Or.inr rfl)) (qr (qk (i:=5) q09.nd rfl (Or.inr rfl)) q0f)))) (qe (qN (PW.pt (q33 (q2D (q8r (q0w hr) (pv 3) (pv 2))) (q2f (q2C (q14 (qz wZ hr (by decide) rfl (qa (pv 0) (qa (pv 3) qd)))))))) (qg (qm q1g)) qu)
   (qg (q3e (q0w hr) (pv 2) (pv 3) (pv 5) rfl))))
   (qe (qN (q2D (q1D (q0w hr) (qA (qa (qj (qf K) (pv 0) qb (fun _ _=>rfl)) (qa qb (qa qb (qa (qj (qf K) (pv 0) qb (fun _ _=>rfl)) (qa (qj (qf K) (pv 0) qb (fun _ _=>rfl)) qd)))))) (pv 2))) (qg (qm q1g)) qu)
   (qe (q0z PassesOwn.never rfl (qO K (pv 1)) (q0g (n:=3) K rfl (qr (qk (i:=3) q09.nd rfl (Or.inl rfl)) (qr (qk (i:=4) q09.nd rfl (Or.inr rfl)) (qr (qk (i:=5) q09.nd rfl (Or.inr rfl)) q0f)))) (qe (qv (i:=6) q09.nd rfl (Or.inl rfl) (qz wr hr (by decide) rfl (qa (pv 0) (qa (pv 3) qd))))
   (qe (qN (qq (q8s K 1 (q34 hr)) (q0C (q0p (N:=["_law_one","_law_other","_law_number"]) (own:=2) (caps:=[2]) ["_law_cave_here","_law_paper_here","_law_number","_law_stand","_law_deed","_law_near_here","_law_moves","_law_nearer"] (qh q1j) (by walk_at "k")) rfl (qO K (pv 6)) (fun _ _ _ _=>(q0g (n:=2) K rfl (qr (qk (i:=0) (show List.Nodup (["_law_one","_law_other","_law_number"]:List Str) by walk_at "k") rfl (Or.inl rfl)) (qr (qk (i:=1) (show List.Nodup (["_law_one","_law_other","_law_number"]:List Str) by walk_at "k") rfl (Or.inl rfl)) q0f)))) (fun _ _ _ _=>(q3p (q2D (q1D (q0w hr) (pv 1) (pv 2))))) (fun _ _ _ _=>(pv 1))) (q0h qd) (qp _)) (qg (qm q1g)) qu)
   (qe (qN (PW.pt (q2B (qq q01 (pv 5) qb (qp _)) (q1x (PW.pt (q33 (qq q3y (qj (qf K) (pv 3) qb (fun _ _=>rfl)) (qj (qf K) (pv 0) qb (fun _ _=>rfl)) (qp _)) (q2f (q2D (q8q (pv 4))))))))) (qg (qm q1g)) qu)
   (qe (q2g (i:=7) q09.nd rfl rfl (q0p (N:=["_law_one","_law_other","_law_deed","_law_number","_law_near_here"]) (own:=2) (caps:=[4,2,5]) ["_law_cave_here","_law_paper_here","_law_number","_law_stand","_law_deed","_law_near_here","_law_moves","_law_nearer"] (qh q1j) (by walk_at "k")) rfl (qO K (pv 6)) (fun _ _ _ _=>(q0g (n:=2) K rfl (qr (qk (i:=0) (show List.Nodup (["_law_one","_law_other","_law_deed","_law_number","_law_near_here"]:List Str) by walk_at "k") rfl (Or.inl rfl)) (qr (qk (i:=1) (show List.Nodup (["_law_one","_law_other","_law_deed","_law_number","_law_near_here"]:List Str) by walk_at "k") rfl (Or.inl rfl)) q0f)))) (fun _ _ _ _=>(q3p (PW.pt (q2B (qq (q8t K hu) (pv 0) (pv 2) (qp _)) (q1x (qq q4q (q3W (q0w hr) (pv 3) (pv 1) (fun _ _=>rfl)) (pv 4) (qp _))))))) (fun _ _ _ _=>(pv 1)))
   (qg (qN (PW.pt (q2B (qq q3y (pv 5) qb (qp _)) (q1x (PW.pt (q33 (qq q4q (pv 5) qb (qp _)) (q2f (qq (q72 K 1 (q34 hr)) (pv 7) (q0h qd) (qp _)))))))) (qg (qm q1g)) qu)))))))
   (qg (qm q1g)))))),?_⟩
  walk_at "r"
  intro D hD
  have s1:=Same.upd (o:= .dT []) hD
  have d1:q3z (upd H D (.dT [])) D []:=⟨[],qc,fun st=>rfl,zc _,by simp⟩
  generalize upd H D (.dT [])=H1 at s1 d1 ⊢
  have u1:=s1 _ _ hus
  walk_at "r"
  refine q1v (us.map V.ref) (fun i σ H'=>∃(v3 v4 v5:Option V),σ=[some (.ref c),some (.ref R),some (.ref D),v3,v4,v5,none,none]/\Same H H'/\q3z H' D (ls.take i)/\((ls.take i).map Ln.st).Nodup/\∀x∈ls.take i,stOk C x.st=true) ⟨none,none,none,rfl,s1,d1,by simp,by simp⟩ ?_ ?_ ?_
  ·rintro i σ' H' ⟨_,_,_,rfl,s2,_⟩
   exact SqL.of (s2 _ _ hus)
  ·rintro i z σ' H2 hz ⟨v3,v4,v5,rfl,s2,d2,nd,so⟩
   have hi:i<ls.length:=by have:=(yA hz).1;rw[yC,rus.1] at this;exact this
   obtain⟨p,ep,hp⟩:=rus.get hi
   rw[hz] at ep
   cases ep
   have et:ls.take (i+1)=ls.take i++[ls[i]]:=zn hi
   have hxm:ls[i]∈ls:=zx hi
   generalize ls[i]=x at hp et hxm
   obtain⟨q,v,h1,h2,h3⟩:=hp.mono s2.ts
   intro D2 hn2 hc2 hb2 hr2
   walk_at "r"
   refine⟨D,_,rfl,q4c d2.num h2,?_⟩
   rw[zaB,q2q]
   by_cases g1:x.st∈(ls.take i).map Ln.st
   ·rw [ze g1]
    walk_at "r"
    refine hr2 _ _ (fls _ s2 ?_)
    unfold q3r
    rw[zf,zaz]
    intro z
    have:=z.sublist ((zP (i+1) ls).map Ln.st)
    rw[et,zv,zau] at this
    exact this.2.2 _ g1 _ (by simp) rfl
   ·rw [zf g1]
    walk_at "r"
    refine⟨c,q,C,x.st,rfl,hC.mono s2.ts,cv,h2,gl x hxm,fun H3 s3=>?_⟩
    walk_at "r"
    by_cases g2:stOk C x.st=true
    rotate_left
    ·rw [za6] at g2
     rw[g2]
     walk_at "r"
     exact hr2 _ _ (fls _ (s2.trans s3) (bad x hxm (by unfold q4r;rw[g2];rfl)))
    ·rw [g2]
     obtain⟨o,kvs,hk,hput,d3⟩:=(d2.same s3).put (x:=x) (s3 _ _ h2) (by rw[zl];omega)
     walk_at "r"
     refine⟨D,_,rfl,hput,?_⟩
     refine hn2 _ _ ⟨_,_,_,rfl,(s2.trans s3).put hD,by rw[et];exact d3,?_,fun y hy=>?_⟩
     ·rw [et,zv]
      exact zau.mpr ⟨nd,by simp,fun a ha b hb' e2=>g1 (by rw[List.map_singleton,List.mem_singleton] at hb';rw[<-hb',<-e2];exact ha)⟩
     ·rw [et] at hy
      rcases zr.mp hy with z|z
      ·exact so y z
      ·rw [zu.mp z];exact g2
  ·rintro σ' H2 ⟨v3,v4,v5,rfl,s2,d2,nd,so⟩
   rw[yC,rus.1,zG] at d2 nd so
   have dn:=d2.num
   have c2:=s2 _ _ h0
   walk_at "r"
   intro t ht
   have s3:=Same.upd (o:= .tup [.int C.fst,.int 0,.int 0,.int C.bars,.int C.water]) ht
   have t3:upd H2 t (.tup [.int C.fst,.int 0,.int 0,.int C.bars,.int C.water]) t=some (.tup ((q5q C).map V.int)):=qc
   generalize upd H2 t (.tup [.int C.fst,.int 0,.int 0,.int C.bars,.int C.water])=H3 at s3 t3 ⊢
   have s03:=s2.trans s3
   walk_at "r"
   refine⟨D,_,rfl,q4c (dn.same s3) t3,?_⟩
   rw[zaB,q2q]
   by_cases g2:q5q C∈ls.map Ln.st
   rotate_left
   ·rw [zf g2]
    walk_at "r"
    exact fls _ s03 (by unfold q3r;rw[decide_eq_false g2];simp)
   ·rw [ze g2]
    have u3:=s03 _ _ hus
    walk_at "r"
    refine q1v (us.map V.ref) (fun i σ H'=>∃(v3 v4 v5 v6 v7:Option V),σ=[some (.ref c),some (.ref R),some (.ref D),v3,v4,v5,v6,v7]/\Same H3 H'/\∀x∈ls.take i,q4r C (q2i ls) x=true) ⟨v3,v4,v5,none,none,rfl,Same.refl _,by simp⟩ ?_ ?_ ?_
    ·rintro i σ' H' ⟨_,_,_,_,_,rfl,s4,_⟩
     exact SqL.of (s4 _ _ u3)
    ·rintro i z σ' H4 hz ⟨v3,v4,v5,v6,v7,rfl,s4,gd⟩
     have hi:i<ls.length:=by have:=(yA hz).1;rw[yC,rus.1] at this;exact this
     obtain⟨p,ep,hp⟩:=rus.get hi
     rw[hz] at ep
     cases ep
     have et:ls.take (i+1)=ls.take i++[ls[i]]:=zn hi
     have hxm:ls[i]∈ls:=zx hi
     generalize ls[i]=x at hp et hxm
     have s04:=s03.trans s4
     have g1:=so x hxm
     have bx:=bad x hxm
     have goal1:q4r C (q2i ls) x=true->∀y∈ls.take (i+1),q4r C (q2i ls) y=true:=fun e y hy=>by
      rw[et] at hy
      rcases zr.mp hy with z|z
      ·exact gd y z
      ·rw [zu.mp z];exact e
     unfold q4r at bx goal1
     have ex:=q8R (q4t g1)
     have g1':=g1
     rw[ex] at g1'
     have sok:=q4z g1'
     rw[g1,zay] at bx goal1
     generalize sdL x.st=st at ex sok bx goal1
     clear g1'
     obtain⟨q,v,h1,h2,h3⟩:=hp.mono s04.ts
     have h2':SAt H4 q st:=by rw[ex] at h2;exact h2
     intro D2 hn2 hc2 hb2 hr2
     walk_at "r"
     refine⟨c,q,C,st,rfl,hC.mono s04.ts,cv.ok,h2',sok,fun l H5 s5 hl0 m5=>?_⟩
     obtain⟨ps,hps,rps⟩:=m5
     have fx:=cv.few st
     have s05:=s04.trans s5
     have dn5:=dn.same (s3.trans (s4.trans s5))
     walk_at "r"
     intro B hB
     refine q0c (ps.map V.ref) (fun j σ H'=>∃(v0 v1:Option V) (bs:List Addr),σ=[v0,v1,some (.ref D)]/\Same H5 H'/\H' B=some (.lst (bs.map V.ref))/\bs.length<=j/\(bs=[]↔((nx C st).take j).all (fun y=>(q2i ls y.ns).isSome)=true)) ⟨none,none,[],rfl,Same.upd hB,qc,zc _,by simp⟩ ?_ ?_ ?_
     ·rintro j σ H' ⟨_,_,_,rfl,s6,_⟩
      exact SqL.of (s6 _ _ hps)
     ·rintro j z σ H6 hz ⟨v0,v1,bs,rfl,s6,hb6,bl,be⟩
      have hj:j<(fitD C st).length:=by have:=(yA hz).1;rw[yC,rps.1] at this;exact this
      obtain⟨p5,ep,hp5⟩:=rps.get hj
      rw[hz] at ep
      cases ep
      obtain⟨t',r,e5,ht5,hr5⟩:=PrAt.mono s6.ts hp5
      have hj':j<(nx C st).length:=by unfold nx;rw[yC];exact hj
      have ey:q0N C st (fitD C st)[j].1 ((fitD C st)[j].2:Int)=(nx C st)[j]:=by simp[nx]
      rw[ey] at hr5
      have hr5:H6 r=some (.tup ((nx C st)[j].ns.map V.int)):=hr5
      have et2:(nx C st).take (j+1)=(nx C st).take j++[(nx C st)[j]]:=zn hj'
      walk_at "r"
      refine⟨D,_,rfl,q4c (dn5.same s6) hr5,?_⟩
      rw[zaB]
      by_cases g3:(q2i ls (nx C st)[j].ns).isSome=true
      ·rw [g3]
       refine⟨_,rfl,?_⟩
       rw[zd (by decide)]
       refine⟨_,_,bs,rfl,s6,hb6,by omega,?_⟩
       rw[et2,List.all_append,be]
       simp[g3]
      ·rw [za6] at g3
       rw[g3]
       refine⟨_,rfl,?_⟩
       rw[zj (by decide)]
       walk_at "r"
       refine⟨_,hb6,by rw[yC];omega,_,_,bs++[r],rfl,s6.put hB,by rw[qc];simp,by simp;omega,?_⟩
       rw[et2,List.all_append]
       simp[g3]
     ·rintro σ H6 ⟨v0,v1,bs,rfl,s6,hb6,bl,be⟩
      rw[yC,rps.1,show(fitD C st).length=(nx C st).length by simp[nx],zG] at be
      walk_at "r"
      intro e1 he1
      have s7:=Same.upd (o:= .lst []) he1
      have e7:=qc (H:=H6) (a:=e1) (o:= .lst [])
      generalize upd H6 e1 (.lst [])=H7 at s7 e7 ⊢
      have s57:=s6.trans s7
      have s07:=s05.trans s57
      refine q6q (s7 _ _ hb6) e7 ?_
      by_cases g3:bs=[]
      rotate_left
      ·rw [zf g3]
       walk_at "r"
       refine hr2 _ _ (fls _ s07 (bx ?_))
       rw[zaZ.mpr (fun z=>g3 (be.mpr z)),zaz]
      ·rw [ze g3]
       have al:=be.mp g3
       rw[al,zay] at bx goal1
       have c7:=s07 _ _ h0
       have q7:H7 q=some (.tup [.int st.rm,.int st.tk,.int st.op,.int st.b,.int st.wt]):=(s5.trans s57) _ _ h2'
       have l7:=s57 _ _ hps
       have ev:decide (v=V.non)=decide (x.dd=none):=by
        cases hd:x.dd with
        |none=>rw[hd] at h3;rw[show v=V.non from h3];simp
        |some d=>rw[hd] at h3;obtain⟨t,rfl,_⟩:=h3;simp
       unfold q78 at bx goal1
       walk_at "r"
       rename_i zz hzz
       have fin:(x.n=0->(decide (st.rm=C.lst)&&decide (x.dd=none))=true)->zz ⟨D2.nx,D2.rt,D2.bk,D2.ct⟩ [some (.ref c),some (.ref R),some (.ref D),some (.ref q),some v,some (.int x.n),some (.ref l),v7] H7:=by
        intro hz0
        walk_at "r"
        intro B2 hB2
        refine q0c (ps.map V.ref) (fun j σ H'=>∃(v0 v1:Option V) (bs:List Addr),σ=[v0,v1,some v,some (.ref D),some (.int x.n)]/\Same H7 H'/\H' B2=some (.lst (bs.map V.ref))/\bs.length<=j/\(bs=[]↔((fitD C st).take j).any (fun d=>decide (x.dd=some d)&&decide ((q2i ls (q0N C st d.1 (d.2:Int)).ns).getD 0<x.n))=false)) ⟨none,none,[],rfl,Same.upd hB2,qc,zc _,by simp⟩ ?_ ?_ ?_
        ·rintro j σ H' ⟨_,_,_,rfl,s8,_⟩
         exact SqL.of (s8 _ _ l7)
        ·rintro j z σ H8 hz ⟨v0,v1,bs',rfl,s8,hb8,bl',be'⟩
         have hj:j<(fitD C st).length:=by have:=(yA hz).1;rw[yC,rps.1] at this;exact this
         obtain⟨p5,ep,hp5⟩:=rps.get hj
         rw[hz] at ep
         cases ep
         have hin1:=zav.mp al (q0N C st (fitD C st)[j].1 ((fitD C st)[j].2:Int)) (zN.mpr ⟨_,zx hj,rfl⟩)
         have et3:(fitD C st).take (j+1)=(fitD C st).take j++[(fitD C st)[j]]:=zn hj
         generalize (fitD C st)[j]=d at hp5 et3 hin1
         obtain⟨t',r,e5,ht5,hr5⟩:=PrAt.mono (s57.trans s8).ts hp5
         obtain⟨m,hm⟩:=zaK.mp hin1
         have hr5':H8 r=some (.tup ((q0N C st d.1 (d.2:Int)).ns.map V.int)):=hr5
         have hg:=q4c (dn5.same (s57.trans s8)) hr5'
         rw[hm] at hg
         walk_at "r"
         refine qaX ht5 (h3.mono (s5.trans (s57.trans s8)).ts) ⟨_,rfl,?_⟩
         by_cases g4:x.dd=some d
         ·rw [zj (ze g4)]
          walk_at "r"
          refine⟨D,_,rfl,hg,?_⟩
          walk_at "r"
          by_cases g5:m<x.n
          ·rw [ze g5,zj rfl]
           walk_at "r"
           refine⟨_,hb8,by rw[yC];omega,_,_,bs'++[r],rfl,s8.put hB2,by rw[qc];simp,by simp;omega,?_⟩
           rw[et3,zcC]
           simp[g4,hm,g5]
          ·rw [zf g5,zd (by decide)]
           refine⟨_,_,bs',rfl,s8,hb8,by omega,?_⟩
           rw[et3,zcC,be']
           simp[g4,hm,g5]
         ·rw [zd (by simpa using g4)]
          refine⟨_,_,bs',rfl,s8,hb8,by omega,?_⟩
          rw[et3,zcC,be']
          simp[g4]
        ·rintro σ H8 ⟨v0,v1,bs',rfl,s8,hb8,bl',be'⟩
         rw[yC,rps.1,zG] at be'
         have s08:=s07.trans s8
         walk_at "r"
         by_cases g4:x.n=0
         ·rw [ze g4]
          rw[zj g4] at goal1
          walk_at "r"
          exact hn2 _ _ ⟨_,_,_,_,_,rfl,s4.trans (s5.trans (s57.trans s8)),goal1 (hz0 g4)⟩
         ·rw [zf g4]
          rw[zd g4] at goal1 bx
          walk_at "r"
          by_cases g5:x.n<0
          ·rw [ze g5]
           rw[zj g5] at bx
           walk_at "r"
           exact hr2 _ _ (fls _ s08 (bx rfl))
          ·rw [zf g5]
           rw[zd g5] at goal1 bx
           walk_at "r"
           intro e1 he1
           have s9:=Same.upd (o:= .lst []) he1
           have e9:=qc (H:=H8) (a:=e1) (o:= .lst [])
           generalize upd H8 e1 (.lst [])=H9 at s9 e9 ⊢
           refine q6r (s9 _ _ hb8) e9 ?_
           by_cases g6:bs'=[]
           ·rw [ze g6]
            walk_at "r"
            exact hr2 _ _ (fls _ (s08.trans s9) (bx (be'.mp g6)))
           ·rw [zf g6]
            walk_at "r"
            exact hn2 _ _ ⟨_,_,_,_,_,rfl,s4.trans (s5.trans (s57.trans (s8.trans s9))),goal1 (Bool.not_eq_false _▸fun z=>g6 (be'.mpr z))⟩
       clear hzz
       by_cases g4:x.n=0
       ·rw [ze g4]
        walk_at "r"
        rw[zj g4] at bx
        by_cases g5:st.rm=C.lst
        rotate_left
        ·rw [zf g5] at bx ⊢
         walk_at "r"
         exact hr2 _ _ (fls _ s07 (bx rfl))
        ·rw [ze g5] at bx ⊢
         walk_at "r"
         rw[ev]
         by_cases g6:x.dd=none
         rotate_left
         ·rw [zf g6] at bx ⊢
          walk_at "r"
          exact hr2 _ _ (fls _ s07 (bx rfl))
         ·rw [ze g6] at bx ⊢
          walk_at "r"
          exact fin fun _=>by rw[ze g5,ze g6];rfl
       ·rw [zf g4]
        walk_at "r"
        exact fin fun z=>absurd z g4
    ·rintro σ' H4 ⟨v3,v4,v5,v6,v7,rfl,s4,gd⟩
     rw[yC,rus.1,zG] at gd
     walk_at "r"
     have:=k H4 (s03.trans s4)
     unfold q3r at this
     rw[ze nd,ze g2,zav.mpr gd] at this
     exact this
def qbh:Sp:=fun vs H Q _=>∃(c R:Addr) (C:Cl) (ls:List Ln),vs=[.ref c,.ref R]/\ClAt H c C/\CvOk C/\qI LnAt H R ls/\ls.length<=300/\(∀x∈ls,GL x)/\∀H',Same H H'->Q (.bl true) H'
theorem q9Y (T:Txt mg cs)(L:Laid K mg "_law_right" q1p ["_law_cave_here","_law_paper_here"])(waa:Cal P w K mg base 10 "holds" ["cellar","paper"] q4K)(vJ:Cal P w K mg base 5 "_law_due" ["_law_cave_here","_law_paper_here"] q4K):Cal P w K mg base 11 "_law_right" ["_law_cave_here","_law_paper_here"] qbh:=by
 refine L.cal (k:=10) q1F (fun vs H Q E h=>?_) (fun f cdv A outer s H vs Q E hr h=>?_)
 ·obtain ⟨c,R,C,ls,rfl,_⟩:=h
  rfl
 ·obtain ⟨c,R,C,ls,rfl,hC,cv,⟨us,hus,rus⟩,ll,gl,k⟩:=h
  have big:=qE
  refine⟨_,(qe (qv (i:=2) q1F.nd rfl (Or.inl rfl) (q0L (lstOfK K) rfl T.waz q9m (qa (pv 1) qd)))
   (qe (qv (i:=3) q1F.nd rfl (Or.inl rfl) (qz waa hr (by decide) rfl (qa (pv 0) (qa (pv 2) qd))))
   (qg (qm (q1C (qx q4g rfl T.ve q25 (qa (pv 3) (qa (q6t (v:= .ty "bool") rfl T.waN q9o rfl) qd))) (q1C (qP q01 (pv 3) (qz vJ hr (by decide) rfl (qa (pv 0) (qa (pv 1) qd))) (qp _)) (q27 (qP (q72 K 1 (q34 hr)) (pv 2) (pv 1) (qp _))))))))),?_⟩
  walk_at "r"
  refine⟨R,_,rfl,.inl (SqL.of hus),fun R2 hR2=>?_⟩
  have s1:=Same.upd (o:= .lst (us.map V.ref)) hR2
  have r1:=qc (H:=H) (a:=R2) (o:= .lst (us.map V.ref))
  have ne:R2≠R:=fun z=>by rw[z,hus] at hR2;cases hR2
  generalize upd H R2 (.lst (us.map V.ref))=H1 at s1 r1 ⊢
  walk_at "r"
  refine⟨c,R2,C,ls,rfl,hC.mono s1.ts,cv,⟨us,r1,rus.mono fun _ _=>LnAt.mono s1.ts⟩,ll,gl,fun H2 s2=>?_⟩
  have s02:=s1.trans s2
  walk_at "r"
  refine⟨c,R,C,ls,rfl,hC.mono s02.ts,cv,⟨us,s02 _ _ hus,rus.mono fun _ _=>LnAt.mono s02.ts⟩,ll,gl,fun H3 s3=>?_⟩
  have s03:=s02.trans s3
  walk_at "r"
  rw[zj (ze rfl)]
  walk_at "r"
  refine .inr (.inl ⟨R2,R,us.map V.ref,us.map V.ref,fun _=>true,rfl,rfl,SqL.of ((s2.trans s3) _ _ r1),SqL.of (s03 _ _ hus),rfl,fun j hj _=>?_,?_⟩)
  ·rw [yC] at hj
   rw[List.getD_eq_getElem?_getD,zT,yB hj]
   exact .same _
  ·rw [show((List.range (us.map V.ref).length).all fun _=>true)=true from zav.mpr fun _ _=>rfl]
   exact k H3 s03
theorem q7e {P Q:Nat->Bool}:∀n,(∀i,i<n->P i=true->Q i=true)->cnt P n<=cnt Q n
 |0,_=>zc _
 |n+1,h=>by
  have ih:=q7e n fun i hi=>h i (by omega)
  unfold cnt
  cases hp:P n with
  |false=>split<;>split<;>first|omega|simp_all
  |true=>rw[h n (by omega) hp];simp;omega
theorem qaE {n i:Nat}(hi:i<n):bit (2 ^ n - 1) i=true:=by
 have e:((2:Int) ^ n - 1)=((2 ^ n - 1:Nat):Int):=by rw[Int.natCast_sub Nat.one_le_two_pow];simp
 rw[e,q1i (Int.natCast_nonneg _),zh,Nat.testBit_two_pow_sub_one]
 exact ze hi
theorem qcc {C:Cl}{sd:Sd}(h:sd.ok C){b:Int}(hb:0<=b/\b<=255):(⟨sd.rm,2 ^ C.things.length - 1,sd.op,b,sd.wt⟩:Sd).ok C:=by
 have hp:(0:Int)<2 ^ C.things.length:=Int.pow_pos (by decide)
 refine⟨h.hrm,⟨by show(0:Int)<=2 ^ C.things.length - 1;omega,by show(2:Int) ^ C.things.length - 1<2 ^ C.things.length;omega⟩,h.hop,h.dr,hb,h.hwt,fun k k0 k1=>?_⟩
 have:=h.held k k0 k1
 show 0<=hold C (2 ^ C.things.length - 1) sd.op k
 unfold hold at this ⊢
 have mono:cnt (tP C sd.tk k) C.things.length<=cnt (tP C (2 ^ C.things.length - 1) k) C.things.length:=q7e _ fun i hi hp=>by
  unfold tP at hp ⊢
  rw[zbI] at hp ⊢
  exact⟨hp.1,qaE hi⟩
 omega
def spMore:Sp:=fun vs H Q _=>∃(c R m:Addr) (C:Cl) (ls:List Ln) (sds:List Sd) (n:Int) (ns:List Int),vs=[.ref c,.ref R,.int n,.ref m]/\ClAt H c C/\CvOk C/\qI LnAt H R ls/\ls.map Ln.st=sds.map Sd.ns/\sds.Nodup/\(∀x∈sds,x.ok C)/\1<=sds.length/\sds.length<=55/\H m=some (.lst (ns.map V.int))/\3<=ns.length/\(∀x∈ns,0<=x)/\∀(r:Addr) (ls':List Ln) (H':Hp),Same H H'->qI LnAt H' r ls'->ls'.length<=170->(∀x∈ls',GL x)->Q (.ref r) H'
theorem qbN (T:Txt mg cs)(L:Laid K mg "_law_more" q0t ["_law_cave_here","_law_paper_here","_law_cell","_law_numbers_here"])(wU:Cal P w K mg base 5 "_law_coming" ["_law_cave_here","_law_stand","_law_most"] q6Q)(w9:Cal P w K mg base 6 "_law_paper" ["_law_cave_here","_law_stands","_law_numbers_here"] q84):Cal P w K mg base 7 "_law_more" ["_law_cave_here","_law_paper_here","_law_cell","_law_numbers_here"] spMore:=by
 refine L.cal (k:=6) q0r (fun vs H Q E h=>?_) (fun f cdv A outer s H vs Q E hr h=>?_)
 ·obtain ⟨c,R,m,C,ls,sds,n,ns,rfl,_⟩:=h
  rfl
 ·obtain ⟨c,R,m,C,ls,sds,n,ns,rfl,hC,cv,⟨us,hus,rus⟩,es,nd,so,s1l,s2l,hm,m3,mz,k⟩:=h
  have big:=qE
  have ok:=cv.ok
  have lls:ls.length=sds.length:=by have:=zM List.length es;rw[yC,yC] at this;exact this
  have gl:∀x∈ls,GL x:=fun x hx=> .inr (by
   have:x.st∈sds.map Sd.ns:=by rw[<-es];exact zN.mpr ⟨x,hx,rfl⟩
   obtain⟨s,_,e⟩:=zN.mp this
   rw[<-e];rfl)
  have at5:∀{j:Nat} (hj:j<ls.length),ls[j].st=(sds[j]'(by omega)).ns:=fun {j} hj=>by
   have:=zM (fun l=>l[j]?) es
   simp only[List.getElem?_map,yB hj,yB (show j<sds.length by omega),Option.map_some,Option.some.injEq] at this
   exact this
  obtain⟨pw,pt,pl,pv',h0,h1,h2,_⟩:=hC.ex
  obtain⟨wv,hw,hwl,hwg⟩:=h1.get
  obtain⟨tv,ht,htl,htg⟩:=h2.get
  have okw:=ok.wl
  have okt:=ok.tl
  have htl2:(tv.length:Int)<=8:=by omega
  have hwl2:(wv.length:Int)<=20:=by omega
  have wp:0<(wv.length:Int):=by have:=cv.w;omega
  have q0:=qQ (n / 4) wp
  have q1:=qW (n / 4) wp
  have ul:us.length=sds.length:=rus.1.trans lls
  refine⟨_,(qe (qN (qq q40 (qi qC (pv 2) qb) qb (qp _)) (qg (qm (pv 1))) qu)
   (qe (qN (qq q01 (qi qC (pv 2) qb) qb (qp _)) (qe (qv (i:=4) q0r.nd rfl (Or.inr rfl) (qi q28 qb (qi qC (qi qR (pv 2) qb) (qx (lenK K) rfl T.wf q02 (qa (qj (qf K) (pv 0) qb (fun _ _=>rfl)) qd)))))
   (qg (qm (qi q19 (pv 1) (q0C (q0p (N:=["_law_one","_law_bit"]) (own:=1) (caps:=[4]) ["_law_cave_here","_law_paper_here","_law_cell","_law_numbers_here","_law_bit","_law_stand","_law_other","_law_known","_law_stands","_law_fresh"] (qh q0t) (by walk_at "k")) rfl (qO K (pv 1)) (fun _ _ _ _=>(qk (i:=0) (show List.Nodup (["_law_one","_law_bit"]:List Str) by walk_at "k") rfl (Or.inl rfl))) (fun _ _ _ _=>q18) (fun _ _ _ _=>(qA (qa (qi (q1h K) (qi (q1h K) (qX (q0Q K) (qj (qf K) (pv 0) qb (fun _ _=>rfl)) q0A (q00 qb)) (qA (qa (qi q5S (qj (qf K) (qj (qf K) (pv 0) qb (fun _ _=>rfl)) qb (fun _ _=>rfl)) (pv 1)) qd))) (qX (q0Q K) (qj (qf K) (pv 0) qb (fun _ _=>rfl)) (q00 qb) q0A)) (qa (qj (qf K) (pv 0) qb (fun _ _=>rfl)) (qa (qj (qf K) (pv 0) qb (fun _ _=>rfl)) qd)))))))))) qu)
   (qe (qv (i:=5) q0r.nd rfl (Or.inl rfl) (qj (qf K) (qj (qM K) (pv 1) (qi qC (qi qR (pv 2) qb) (qx (lenK K) rfl T.wf q02 (qa (pv 1) qd))) (fun _ _=>rfl)) qb (fun _ _=>rfl)))
   (qe (qv (i:=6) q0r.nd rfl (Or.inl rfl) (qA (qa (qj (qf K) (pv 5) qb (fun _ _=>rfl)) (qa (qi q2h (qi q28 qb (qx (lenK K) rfl T.wf q02 (qa (qj (qf K) (pv 0) qb (fun _ _=>rfl)) qd))) qb) (qa (qj (qf K) (pv 5) qb (fun _ _=>rfl)) (qa (qi qC (qi qR (pv 2) qb) qb) (qa (qj (qf K) (pv 5) qb (fun _ _=>rfl)) qd)))))))
   (qe (qv (i:=7) q0r.nd rfl (Or.inr rfl) (q0C (q0p (N:=["_law_one"]) (own:=1) (caps:=[]) ["_law_cave_here","_law_paper_here","_law_cell","_law_numbers_here","_law_bit","_law_stand","_law_other","_law_known","_law_stands","_law_fresh"] (qh q0t) (by walk_at "k")) rfl (qO K (pv 1)) (fun _ _ _ _=>(qk (i:=0) (show List.Nodup (["_law_one"]:List Str) by walk_at "k") rfl (Or.inl rfl))) (fun _ _ _ _=>q18) (fun _ _ _ _=>(qj (qf K) (pv 0) qb (fun _ _=>rfl)))))
   (qe (q2g (i:=8) q0r.nd rfl rfl (q0p (N:=["_law_one","_law_known"]) (own:=1) (caps:=[7]) ["_law_cave_here","_law_paper_here","_law_cell","_law_numbers_here","_law_bit","_law_stand","_law_other","_law_known","_law_stands","_law_fresh"] (qh q0t) (by walk_at "k")) rfl (qO K (qz wU hr (by decide) rfl (qa (pv 0) (qa (pv 6) (qa qb qd))))) (fun _ _ _ _=>(qk (i:=0) (show List.Nodup (["_law_one","_law_known"]:List Str) by walk_at "k") rfl (Or.inl rfl))) (fun _ _ _ _=>(q3p (qq (q5T K 1 (q34 hr)) (pv 0) (pv 1) (by with_unfolding_all rfl)))) (fun _ _ _ _=>(pv 0)))
   (qe (qv (i:=9) q0r.nd rfl (Or.inl rfl) (qz w9 hr (by decide) rfl (qa (pv 0) (qa (qx (qaT K) rfl T.vT q68 (qa (qi q19 (pv 7) (pv 8)) qd)) (qa (pv 3) qd)))))
   (qg (qm (qi q19 (pv 1) (q0C (q0p (N:=["_law_one","_law_known"]) (own:=1) (caps:=[7]) ["_law_cave_here","_law_paper_here","_law_cell","_law_numbers_here","_law_bit","_law_stand","_law_other","_law_known","_law_stands","_law_fresh"] (qh q0t) (by walk_at "k")) rfl (qO K (pv 9)) (fun _ _ _ _=>(qk (i:=0) (show List.Nodup (["_law_one","_law_known"]:List Str) by walk_at "k") rfl (Or.inl rfl))) (fun _ _ _ _=>(q3p (qq (q5T K 1 (q34 hr)) (qj (qf K) (pv 0) qb (fun _ _=>rfl)) (pv 1) (by with_unfolding_all rfl)))) (fun _ _ _ _=>(pv 0))))))))))))),?_⟩
  walk_at "r"
  refine ifd (fun g1=>?_) (fun g1=>?_)
  ·walk_at "r"
   exact k R ls H (Same.refl _) ⟨us,hus,rus⟩ (by omega) gl
  ·walk_at "r"
   refine ifd (fun g2=>?_) (fun g2=>?_)
   ·walk_at "r"
    intro B hB
    generalize (1:Int)*2 ^ (n / 4 % (wv.length:Int)).toNat=bt
    refine q0c (us.map V.ref) (fun j σ H'=>∃(v0:Option V) (ls2:List Ln),σ=[v0,some (.int bt)]/\Same H H'/\qI LnAt H' B ls2/\ls2.length=j/\∀x∈ls2,GL x) ⟨none,[],rfl,Same.upd hB,⟨[],qc,Rows.nil⟩,rfl,by simp⟩ ?_ ?_ ?_
    ·rintro j σ H' ⟨_,_,rfl,s1,_⟩
     exact SqL.of (s1 _ _ hus)
    ·rintro j z σ H1 hz ⟨v0,ls2,rfl,s1,⟨bs,hbs,rbs⟩,l2,g2'⟩
     have hj:j<ls.length:=by have:=(yA hz).1;rw[yC,rus.1] at this;exact this
     obtain⟨p,ep,hp⟩:=rus.get hj
     rw[hz] at ep
     cases ep
     have e5:=at5 hj
     generalize sds[j]'(by omega)=sd at e5
     generalize ls[j]=x at hp e5
     obtain⟨q,v,h1',h2',h3'⟩:=hp.mono s1.ts
     rw[e5] at h2'
     walk_at "r"
     refine q3o [sd.rm,sd.tk] (st:=sd.ns) h2' rfl fun t1 H2 s2 ht1=>?_
     have p2:=s2 _ _ h1'
     have q2:H2 q=some (.tup [.int sd.rm,.int sd.tk,.int sd.op,.int sd.b,.int sd.wt]):=s2 _ _ h2'
     walk_at "r"
     intro t2 ht2
     have s3:=Same.upd (o:= .tup [.int (Builtin.bitXor sd.op bt)]) ht2
     have t23:upd H2 t2 (.tup [.int (Builtin.bitXor sd.op bt)]) t2=some (.tup (([Builtin.bitXor sd.op bt]:List Int).map V.int)):=qc
     generalize upd H2 t2 (.tup [.int (Builtin.bitXor sd.op bt)])=H3 at s3 t23 ⊢
     refine q2O (s3 _ _ ht1) t23 (by simp) (by simp) (by simp) fun t3 H4 s4 ht3=>?_
     have p4:=(s3.trans s4) _ _ p2
     walk_at "r"
     refine q3o [sd.b,sd.wt] (st:=sd.ns) ((s2.trans (s3.trans s4)) _ _ h2') rfl fun t4 H5 s5 ht4=>?_
     refine q2O (s5 _ _ ht3) ht4 (by simp) (by simp) (by simp) fun t5 H6 s6 ht5=>?_
     have s26:=s2.trans (s3.trans (s4.trans (s5.trans s6)))
     have p6:=s26 _ _ h1'
     walk_at "r"
     intro t6 ht6
     have s7:=Same.upd (o:= .tup [.ref t5,v,.int x.n]) ht6
     have t67:=qc (H:=H6) (a:=t6) (o:= .tup [.ref t5,v,.int x.n])
     generalize upd H6 t6 (.tup [.ref t5,v,.int x.n])=H7 at s7 t67 ⊢
     have s17:=s26.trans s7
     have b7:=s17 _ _ hbs
     refine⟨_,b7,by rw[yC,rbs.1];omega,_,ls2++[⟨[sd.rm,sd.tk]++[Builtin.bitXor sd.op bt]++[sd.b,sd.wt],x.dd,x.n⟩],rfl,(s1.trans s17).put hB,qS (fun _ _=>LnAt.mono (q0o.lst b7)) (rbs.mono fun _ _=>LnAt.mono s17.ts) (show LnAt H7 t6 ⟨[sd.rm,sd.tk]++[Builtin.bitXor sd.op bt]++[sd.b,sd.wt],x.dd,x.n⟩ from⟨t5,v,t67,s7 _ _ ht5,h3'.mono s17.ts⟩),by simp[l2],fun y hy=>?_⟩
     rcases zr.mp hy with z|z
     ·exact g2' y z
     ·rw [zu.mp z];exact .inr rfl
    ·rintro σ H1 ⟨v0,ls2,rfl,s1,⟨bs,hbs,rbs⟩,l2,g2'⟩
     rw[yC] at l2
     have bl:bs.length=ls2.length:=rbs.1
     walk_at "r"
     refine q2N (s1 _ _ hus) hbs (by omega) fun r H2 s2 r2=>?_
     refine k r (ls++ls2) H2 (s1.trans s2) ⟨_,r2,q13 (rus.mono fun _ _=>LnAt.mono (s1.trans s2).ts) (rbs.mono fun _ _=>LnAt.mono s2.ts)⟩ (by rw[zk];omega) fun x hx=>?_
     rcases zr.mp hx with z|z
     ·exact gl x z
     ·exact g2' x z
   ·have up:0<((us.map V.ref).length:Int):=by rw[yC];omega
    walk_at "r"
    obtain⟨j,hj,ej,aj⟩:=q3v (xs:=us.map V.ref) (i:=n / 4 % ((us.map V.ref).length:Int)) (qQ _ up) (qW _ up)
    rw[yC] at hj
    rw[zbJ] at aj
    refine q2d (SqL.of hus) aj ?_
    have hx:=rus.2 j us[j] ls[j] (yB hj) (yB (by omega))
    have e5:=at5 (j:=j) (by omega)
    have sok:=so _ (zx (show j<sds.length by omega))
    generalize sds[j]'(by omega)=sd at e5 sok
    generalize ls[j]'(by omega)=x at hx e5
    generalize us[j]=p at hx
    obtain⟨q,v,h1',h2',h3'⟩:=hx
    rw[e5] at h2'
    have q0':H q=some (.tup [.int sd.rm,.int sd.tk,.int sd.op,.int sd.b,.int sd.wt]):=h2'
    walk_at "r"
    rw[zaF,zh,htl]
    intro t1 ht1
    have s1:=Same.upd (o:= .tup [.int sd.rm,.int (2 ^ C.things.length - 1),.int sd.op,.int (n / 4 % 256),.int sd.wt]) ht1
    have t11:SAt (upd H t1 (.tup [.int sd.rm,.int (2 ^ C.things.length - 1),.int sd.op,.int (n / 4 % 256),.int sd.wt])) t1 ⟨sd.rm,2 ^ C.things.length - 1,sd.op,n / 4 % 256,sd.wt⟩:=qc
    generalize upd H t1 (.tup [.int sd.rm,.int (2 ^ C.things.length - 1),.int sd.op,.int (n / 4 % 256),.int sd.wt])=H1 at s1 t11 ⊢
    have u1:=s1 _ _ hus
    have b0:=qQ (n / 4) (n:=256) (by decide)
    have b1:=qW (n / 4) (n:=256) (by decide)
    walk_at "r"
    intro Kn hKn
    refine q0c (us.map V.ref) (fun j σ H'=>∃(v0:Option V),σ=[v0]/\Same H1 H'/\qI SAt H' Kn (sds.take j)) ⟨none,rfl,Same.upd hKn,⟨[],qc,Rows.nil⟩⟩ ?_ ?_ ?_
    ·rintro j σ H' ⟨_,rfl,s2,_⟩
     exact SqL.of (s2 _ _ u1)
    ·rintro j z σ H2 hz ⟨v0,rfl,s2,⟨bs,hbs,rbs⟩⟩
     have hj:j<ls.length:=by have:=(yA hz).1;rw[yC,rus.1] at this;exact this
     have hj':j<sds.length:=by omega
     obtain⟨p,ep,hp⟩:=rus.get hj
     rw[hz] at ep
     cases ep
     have e5:=at5 hj
     obtain⟨q,v,h1',h2',h3'⟩:=hp.mono (s1.trans s2).ts
     rw[e5] at h2'
     walk_at "r"
     refine⟨_,hbs,by rw[yC,rbs.1,zl];omega,_,rfl,s2.put hKn,?_⟩
     rw[zn hj']
     exact qS (fun _ _=>SAt.put hbs) rbs h2'
    ·rintro σ H2 ⟨v0,rfl,s2,m2⟩
     rw[yC,ul,zG] at m2
     have s02:=s1.trans s2
     walk_at "r"
     refine⟨c,t1,C,_,40,rfl,hC.mono s02.ts,cv,s2 _ _ t11,qcc sok ⟨b0,by omega⟩,zc _,fun r row H3 s3 hr0 hrow nd2 rl r1 ro=>?_⟩
     obtain⟨rs,hrs,rrs⟩:=hrow
     have m3':qI SAt H3 Kn sds:=let ⟨bs,h1,h2⟩:=m2;⟨bs,s3 _ _ h1,h2.mono fun _ _=>SAt.mono s3.ts⟩
     walk_at "r"
     intro St hSt
     refine q0c (rs.map V.ref) (fun j σ H'=>∃(v0:Option V),σ=[v0,some (.ref Kn)]/\Same H3 H'/\qI SAt H' St ((row.take j).filter fun y=> !decide (y∈sds))) ⟨none,rfl,Same.upd hSt,⟨[],qc,Rows.nil⟩⟩ ?_ ?_ ?_
     ·rintro j σ H' ⟨_,rfl,s4,_⟩
      exact SqL.of (s4 _ _ hrs)
     ·rintro j z σ H4 hz ⟨v0,rfl,s4,⟨bs,hbs,rbs⟩⟩
      have hj:j<row.length:=by have:=(yA hz).1;rw[yC,rrs.1] at this;exact this
      obtain⟨p,ep,hp⟩:=rrs.get hj
      rw[hz] at ep
      cases ep
      have et:row.take (j+1)=row.take j++[row[j]]:=zn hj
      generalize row[j]=y at hp et
      have hp:=s4 _ _ hp
      have bl:bs.length<=55:=by rw[rbs.1];refine zab (zaI _ _) ?_;rw[zl];omega
      walk_at "r"
      refine q6Z (let ⟨bs,h1,h2⟩:=m3';⟨bs,s4 _ _ h1,h2.mono fun _ _=>SAt.mono s4.ts⟩) hp ?_
      refine⟨_,rfl,?_⟩
      by_cases g3:y∈sds
      ·rw [ze g3]
       rw[zd (by decide)]
       refine⟨_,rfl,s4,?_⟩
       rw[et,zax]
       simpa[g3] using(show qI SAt H4 St _ from⟨bs,hbs,rbs⟩)
      ·rw [zf g3]
       rw[zj (by decide)]
       walk_at "r"
       refine⟨_,hbs,by rw[yC];omega,_,rfl,s4.put hSt,?_⟩
       rw[et,zax]
       have:=qS (fun _ _=>SAt.put hbs) rbs hp
       simpa[g3] using this
     ·rintro σ H4 ⟨v0,rfl,s4,m4⟩
      rw[yC,rrs.1,zG] at m4
      obtain⟨ks,hks,rks⟩:=m3'
      obtain⟨ss,hss,rss⟩:=m4
      have fl:=zaI (fun y=> !decide (y∈sds)) row
      have kl:ks.length=sds.length:=rks.1
      have sl:ss.length=(row.filter fun y=> !decide (y∈sds)).length:=rss.1
      walk_at "r"
      refine q2N (s4 _ _ hks) hss (by omega) fun cl H5 s5 hcl=>?_
      have rows5:Rows SAt H5 (ks++ss) (sds++row.filter fun y=> !decide (y∈sds)):=q13 (rks.mono fun _ _=>SAt.mono (s4.trans s5).ts) (rss.mono fun _ _=>SAt.mono s5.ts)
      walk_at "r"
      obtain⟨l,e1,e2,e3⟩:=qI.pairs rows5
      have el:(l.map fun x=>V.ref x.1)=(ks++ss).map V.ref:=by rw[<-e1,zae];rfl
      refine⟨cl,l,5,rfl,SqL.of (by rw[el];exact hcl),by decide,e3,fun so' l' hso hp hs=>?_⟩
      obtain⟨R',pm,_,rr⟩:=q4u (ps:=ks++ss) e2 e3 hp hs
      have s6:=Same.upd (o:= .lst (l'.map fun x=>V.ref x.1)) hso
      have o6:upd H5 so' (.lst (l'.map fun x=>V.ref x.1)) so'=some (.lst ((l'.map (·.1)).map V.ref)):=by rw[zae];exact qc
      generalize upd H5 so' (.lst (l'.map fun x=>V.ref x.1))=H6 at s6 o6 ⊢
      have s36:=s4.trans (s5.trans s6)
      have s06:=s02.trans (s3.trans s36)
      have pl':=pm.length_eq
      rw[zk] at pl'
      walk_at "r"
      refine⟨c,so',m,C,R',ns,rfl,hC.mono s06.ts,cv,⟨l'.map (·.1),o6,rr.mono fun _ _=>SAt.mono s6.ts⟩,pm.nodup_iff.mpr (zau.mpr ⟨nd,nd2.filter _,fun a ha b hb e=>?_⟩),by omega,by omega,fun y hy=>?_,s06 _ _ hm,m3,mz,fun fr lsF H7 s7 hF pF=>?_⟩
      ·have:=(zbb.mp hb).2
       rw[<-e] at this
       simp[ha] at this
      ·rcases zr.mp (pm.mem_iff.mp hy) with z|z
       ·exact so y z
       ·exact ro y (zbb.mp z).1
      obtain⟨fs,hfs,rfs⟩:=hF
      have lf:lsF.length=R'.length:=by have:=pF.length_eq;rw[yC,yC] at this;exact this
      have kn7:qI SAt H7 Kn sds:=⟨ks,(s36.trans s7) _ _ hks,rks.mono fun _ _=>SAt.mono (s36.trans s7).ts⟩
      have inF:∀x∈lsF,∃s:Sd,x.st=s.ns:=fun x hx=>by
       have:x.st∈R'.map Sd.ns:=pF.mem_iff.mp (zN.mpr ⟨x,hx,rfl⟩)
       obtain⟨s,_,e⟩:=zN.mp this
       exact⟨s,e.symm⟩
      have s07:=s06.trans s7
      have u7:=s07 _ _ hus
      walk_at "r"
      intro B hB
      refine q0c (fs.map V.ref) (fun j σ H'=>∃(v0:Option V) (ls3:List Ln),σ=[v0,some (.ref Kn)]/\Same H7 H'/\qI LnAt H' B ls3/\ls3.length<=j/\∀x∈ls3,GL x) ⟨none,[],rfl,Same.upd hB,⟨[],qc,Rows.nil⟩,zc _,by simp⟩ ?_ ?_ ?_
      ·rintro j σ H' ⟨_,_,rfl,s8,_⟩
       exact SqL.of (s8 _ _ hfs)
      ·rintro j z σ H8 hz ⟨v0,ls3,rfl,s8,⟨bs,hbs,rbs⟩,l3,g3'⟩
       have hj:j<lsF.length:=by have:=(yA hz).1;rw[yC,rfs.1] at this;exact this
       obtain⟨p,ep,hp⟩:=rfs.get hj
       rw[hz] at ep
       cases ep
       obtain⟨sd2,e6⟩:=inF _ (zx hj)
       generalize lsF[j]=y at hp e6
       have hy:=hp.mono s8.ts
       have hy2:=hy
       obtain⟨q,v,h1',h2',h3'⟩:=hy
       rw[e6] at h2'
       have bl:bs.length<=110:=by rw[rbs.1];omega
       walk_at "r"
       refine q6Z (let ⟨bs,h1,h2⟩:=kn7;⟨bs,s8 _ _ h1,h2.mono fun _ _=>SAt.mono s8.ts⟩) (show SAt H8 q sd2 from h2') ?_
       refine⟨_,rfl,?_⟩
       by_cases g3:sd2∈sds
       ·rw [ze g3]
        rw[zd (by decide)]
        exact⟨_,ls3,rfl,s8,⟨bs,hbs,rbs⟩,by omega,g3'⟩
       ·rw [zf g3]
        rw[zj (by decide)]
        walk_at "r"
        refine⟨_,hbs,by rw[yC];omega,_,ls3++[y],rfl,s8.put hB,qS (fun _ _=>LnAt.mono (q0o.lst hbs)) rbs hy2,by simp;omega,fun x hx=>?_⟩
        rcases zr.mp hx with z|z
        ·exact g3' x z
        ·rw [zu.mp z];exact .inr (by rw[e6];rfl)
      ·rintro σ H8 ⟨v0,ls3,rfl,s8,⟨bs,hbs,rbs⟩,l3,g3'⟩
       rw[yC,rfs.1] at l3
       have bl:bs.length=ls3.length:=rbs.1
       walk_at "r"
       refine q2N (s8 _ _ u7) hbs (by omega) fun r H9 s9 r9=>?_
       have s09:=s07.trans (s8.trans s9)
       refine k r (ls++ls3) H9 s09 ⟨_,r9,q13 (rus.mono fun _ _=>LnAt.mono s09.ts) (rbs.mono fun _ _=>LnAt.mono s9.ts)⟩ (by rw[zk];omega) fun x hx=>?_
       rcases zr.mp hx with z|z
       ·exact gl x z
       ·exact g3' x z
theorem ok_law {f:Addr}{fd:FuncData}(F:Fun K "law" "law" qbn f fd)(T:Txt mg cs)(TC:Tcl K cs)(wbH:Laid K mg "_wall" q8h ["k"])(wbl:Laid K mg "within" q3A ["number","least","most"])(wbe:Laid K mg "has_bit" q2V ["bits","place"])(wbh:Laid K mg "changed" q2X ["parts","place","part"])(wbg:Laid K mg "gate_of" q2W ["gate"])(wbu:Laid K mg "start" q4T ["cellar"])(wbB:Laid K mg "held" q6U ["cellar","stand"])(wba:Laid K mg "is_stand" q2n ["cellar","thing"])(wan:Laid K mg "has_bits_of" q1a ["bits","all_bits"])(wau:Laid K mg "thing_bits" q1o ["cellar"])(wa1:Laid K mg "door_bits" q1n ["cellar"])(waB:Laid K mg "door_kinds" q0Z ["cellar"])(waT:Laid K mg "can_enter" q1H ["way","room"])(wbp:Laid K mg "leads" q3P ["cellar","stand"])(waP:Laid K mg "fit_deeds" q1m ["cellar","stand"])(wbc:Laid K mg "all_goes" q1A ["cellar"])(waR:Laid K mg "all_deeds" q0s ["cellar"])(wbq:Laid K mg "holds" q3Q ["cellar","paper"])(waJ:Laid K mg "line_holds" q0Y ["cellar","numbers","line"])(wbo:Laid K mg "falls" q3R ["cellar","numbers","line","pairs"])(wad:Laid K mg "_law_cell_at" q0T ["_law_script","_law_k"])(vZ:Laid K mg "_law_numbers" q0S ["_law_script","_law_first","_law_total"])(wa3:Laid K mg "_law_gate" q1K ["_law_number","_law_base"])(waD:Laid K mg "_law_great" q12 ["_law_numbers_here"])(waY:Laid K mg "_law_cave" q0P ["_law_script"])(wam:Laid K mg "_law_amount" q1c ["_law_cave_here","_law_stand","_law_kind"])(wa5:Laid K mg "_law_lets" q1J ["_law_cave_here","_law_stand","_law_k"])(wae:Laid K mg "_law_by_ways" q0U ["_law_cave_here","_law_stand"])(waU:Laid K mg "_law_next" q1I ["_law_cave_here","_law_stand"])(wak:Laid K mg "_law_coming" q1b ["_law_cave_here","_law_stand","_law_most"])(wa0:Laid K mg "_law_near" q0O ["_law_cave_here","_law_stands"])(was:Laid K mg "_law_paper" q1q ["_law_cave_here","_law_stands","_law_numbers_here"])(vQ:Laid K mg "_law_bent_stand" q0y ["_law_cave_here","_law_stand","_law_cell"])(waS:Laid K mg "_law_bent" q1L ["_law_cave_here","_law_paper_here","_law_cell"])(waQ:Laid K mg "_law_more" q0t ["_law_cave_here","_law_paper_here","_law_cell","_law_numbers_here"])(vY:Laid K mg "_law_is_stand" q0u ["_law_cave_here","_law_stand"])(wbb:Laid K mg "_law_due" q1j ["_law_cave_here","_law_paper_here"])(waH:Laid K mg "_law_right" q1p ["_law_cave_here","_law_paper_here"])(wap:LaidM K cs.Plain "lets" "Plain.lets" q1r ["self","held","opened","bars","water"])(wby:LaidM K cs.Plain "told" "Gate.told" qY ["self"])(wbk:LaidI K mg "Plain" cs.Plain "Plain.__init__" q1s ["self"])(waL:LaidM K cs.Door "lets" "Door.lets" q20 ["self","held","opened","bars","water"])(wbC:LaidM K cs.Door "told" "Gate.told" qY ["self"])(wbv:LaidI K mg "Door" cs.Door "Door.__init__" q21 ["self","kind"])(waC:LaidM K cs.Need "lets" "Need.lets" q1X ["self","held","opened","bars","water"])(wbE:LaidM K cs.Need "told" "Gate.told" qY ["self"])(wbw:LaidI K mg "Need" cs.Need "Need.__init__" q1Y ["self","kind"])(waX:LaidM K cs.Bar "lets" "Bar.lets" q2o ["self","held","opened","bars","water"])(wbF:LaidM K cs.Bar "told" "Gate.told" qY ["self"])(wbD:LaidI K mg "Bar" cs.Bar "Bar.__init__" q2p ["self","bar"])(wat:LaidM K cs.Wade "lets" "Wade.lets" q1M ["self","held","opened","bars","water"])(wbA:LaidM K cs.Wade "told" "Gate.told" qY ["self"])(wbx:LaidI K mg "Wade" cs.Wade "Wade.__init__" q1N ["self","height","kind"])(wal:LaidM K cs.Float "lets" "Float.lets" q1t ["self","held","opened","bars","water"])(wbz:LaidM K cs.Float "told" "Gate.told" qY ["self"])(wbj:LaidI K mg "Float" cs.Float "Float.__init__" q1u ["self","height"])(wbf:LaidM K cs.Go "can" "Deed.can" q08 ["self","cellar","stand"])(wa6:LaidM K cs.Go "done" "Go.done" q30 ["self","cellar","stand"])(wa9:LaidM K cs.Go "fits" "Go.fits" q2Z ["self","cellar","stand"])(wag:LaidM K cs.Go "own_part" "Deed.own_part" qF ["self","cellar"])(wa8:LaidM K cs.Go "told" "Deed.told" qZ ["self"])(wbG:LaidI K mg "Go" cs.Go "Go.__init__" q2Y ["self","number"])(waW:LaidM K cs.Pull "can" "Deed.can" q08 ["self","cellar","stand"])(waF:LaidM K cs.Pull "done" "Pull.done" q1W ["self","cellar","stand"])(waE:LaidM K cs.Pull "fits" "Pull.fits" q1V ["self","cellar","stand"])(vV:LaidM K cs.Pull "own_part" "Deed.own_part" qF ["self","cellar"])(waA:LaidM K cs.Pull "told" "Deed.told" qZ ["self"])(wbr:LaidI K mg "Pull" cs.Pull "Pull.__init__" q1U ["self","number"])(wa2:LaidM K cs.Take "can" "Deed.can" q08 ["self","cellar","stand"])(waI:LaidM K cs.Take "done" "Take.done" q1T ["self","cellar","stand"])(wax:LaidM K cs.Take "fits" "Take.fits" q1S ["self","cellar","stand"])(vU:LaidM K cs.Take "own_part" "Deed.own_part" qF ["self","cellar"])(waw:LaidM K cs.Take "told" "Deed.told" qZ ["self"])(wbt:LaidI K mg "Take" cs.Take "Take.__init__" q1R ["self","number"])(waZ:LaidM K cs.Turn "can" "Deed.can" q08 ["self","cellar","stand"])(waG:LaidM K cs.Turn "done" "Turn.done" q1Q ["self","cellar","stand"])(wav:LaidM K cs.Turn "fits" "Turn.fits" q1P ["self","cellar","stand"])(vS:LaidM K cs.Turn "own_part" "Deed.own_part" qF ["self","cellar"])(waK:LaidM K cs.Turn "told" "Deed.told" qZ ["self"])(wbs:LaidI K mg "Turn" cs.Turn "Turn.__init__" q1O ["self","number"])(wao:LaidM K cs.Unlock "can" "Deed.can" q08 ["self","cellar","stand"])(wab:LaidM K cs.Unlock "done" "Unlock.done" q1f ["self","cellar","stand"])(waf:LaidM K cs.Unlock "fits" "Unlock.fits" q1e ["self","cellar","stand"])(vM:LaidM K cs.Unlock "own_part" "Deed.own_part" qF ["self","cellar"])(wah:LaidM K cs.Unlock "told" "Deed.told" qZ ["self"])(wbi:LaidI K mg "Unlock" cs.Unlock "Unlock.__init__" q1d ["self","number"])(waO:LaidC K mg "Deed" "__init__" "Deed.__init__" q22 ["self","word","number","part"])(waM:LaidC K mg "Gate" "__init__" "Gate.__init__" q1Z ["self","word","numbers"]):FnOk P w K mg base CX0 13 f fd ["_law_script"] (q9C K):=by
 have wg:Cal P w K mg base 1 "has_bit" ["bits","place"] q6j:=q7A T wbe
 have ww:Cal P w K mg base 1 "within" ["number","least","most"] q2T:=q8v T wbl
 have wL:Cal P w K mg base 1 "can_enter" ["way","room"] q4L:=qa7 T waT
 have wj:Cal P w K mg base 1 "changed" ["parts","place","part"] q6h:=q7C T wbh
 have wE:Cal P w K mg base 1 "door_kinds" ["cellar"] spDk:=ok_dk T waB
 have vg:Cal P w K mg base 2 "held" ["cellar","stand"] q5r:=qbQ T wbB wg wE
 have wb:CCal P w K mg base 1 "Gate" "__init__" ["self","word","numbers"] (q2b K):=qa4 T waM
 have wM:Makes P w K mg base 2 "Plain" cs.Plain ["self"] (spMk cs "plain"):=qae T TC wbk wb
 have wR:Makes P w K mg base 2 "Door" cs.Door ["self","kind"] (spMk cs "door"):=qc2 T TC wbv wb
 have wQ:Makes P w K mg base 2 "Need" cs.Need ["self","kind"] (spMk cs "need"):=qc1 T TC wbw wb
 have vk:Makes P w K mg base 2 "Bar" cs.Bar ["self","bar"] (spMk cs "bar"):=mk_bar T TC wbD wb
 have wS:Makes P w K mg base 2 "Wade" cs.Wade ["self","height","kind"] (spMk cs "wade"):=qbX T TC wbx wb
 have wK:Makes P w K mg base 2 "Float" cs.Float ["self","height"] (spMk cs "float"):=qaf T TC wbj wb
 have vL:Cal P w K mg base 4 "gate_of" ["gate"] (qbi cs):=q7B T wbg wM wR wQ vk wS wK
 have vl:∀g:Gt,VMeth P w K mg base 2 (q9a cs g) "lets" ["self","held","opened","bars","water"] (q3k cs g.word):=fun g=>by
  cases g
  ·exact q4G T TC wap
  ·exact q5d T TC waL
  ·exact q5c T TC waC
  ·exact q6d T TC waX wg
  ·exact q5b T TC wat
  ·exact q4H T TC wal
 have we:CCal P w K mg base 1 "Deed" "__init__" ["self","word","number","part"] (q2M K):=qa8 T waO
 have vi:Makes P w K mg base 2 "Go" cs.Go ["self","number"] (q2a cs .go):=mk_go T TC wbG we
 have wH:Makes P w K mg base 2 "Pull" cs.Pull ["self","number"] (q2a cs .pull):=qc0 T TC wbr we
 have wF:Makes P w K mg base 2 "Take" cs.Take ["self","number"] (q2a cs .take):=qbZ T TC wbt we
 have wG:Makes P w K mg base 2 "Turn" cs.Turn ["self","number"] (q2a cs .turn):=qbY T TC wbs we
 have wA:Makes P w K mg base 2 "Unlock" cs.Unlock ["self","number"] (q2a cs .unlock):=q8z T TC wbi we
 have vo:∀d,VMeth P w K mg base 1 (dcls cs d) "own_part" ["self","cellar"] (q4m cs d):=fun d=>by
  have D:=q2I TC d
  cases d
  ·exact q5a wag D
  ·exact q5a vV D
  ·exact q5a vU D
  ·exact q5a vS D
  ·exact q5a vM D
 have vf:∀d,VMeth P w K mg base 5 (dcls cs d) "fits" ["self","cellar","stand"] (q3M cs d):=fun d=>by
  have D:=q2I TC d
  have v:=vo d
  cases d
  ·exact q7m T D wa9 v wL wg vL vl vg
  ·exact q5g T D waE v
  ·exact q5f T D wax v wg
  ·exact q5e T D wav v
  ·exact q4k T D waf v wL wg vg
 have vc:∀d,VMeth P w K mg base 6 (dcls cs d) "can" ["self","cellar","stand"] (qbk cs d):=fun d=>by
  have D:=q2I TC d
  have v:=vf d
  cases d
  ·exact q5k T wbf D ww v
  ·exact q5k T waW D ww v
  ·exact q5k T wa2 D ww v
  ·exact q5k T waZ D ww v
  ·exact q5k T wao D ww v
 have vd:∀d,VMeth P w K mg base 2 (dcls cs d) "done" ["self","cellar","stand"] (q3N cs d):=fun d=>by
  have D:=q2I TC d
  have v:=vo d
  cases d
  ·exact q7n T D wa6 v wj
  ·exact q5j T D waF v wj
  ·exact q5i T D waI wj
  ·exact q5h T D waG v wj
  ·exact q4l T D wab wj
 have vt:∀d,VMeth P w K mg base 1 (dcls cs d) "told" ["self"] (q6g cs d):=fun d=>by
  have D:=q2I TC d
  cases d
  ·exact q2R wa8 D
  ·exact q2R waA D
  ·exact q2R waw D
  ·exact q2R waK D
  ·exact q2R wah D
 have wai:Cal P w K mg base 1 "start" ["cellar"] q6e:=q9X T wbu
 have vK:Cal P w K mg base 4 "all_goes" ["cellar"] (q87 cs):=qbS T wbc vi
 have vH:Cal P w K mg base 5 "all_deeds" ["cellar"] (q8c cs):=qbV T waR vK wH wF wG wA
 have vF:Cal P w K mg base 7 "fit_deeds" ["cellar","stand"] (q88 cs):=qbT T waP vH vc
 have wac:=qa1 T wbp vF vt vd
 have wV:=qbR T wan ww
 have vB:=q9W (P:=P) (w:=w) (base:=base) T wau
 have vG:=qa9 T wa1 wE
 have vI:=qbP T wba ww wV vB vG vg
 have waj:=qa6 (P:=P) (w:=w) (base:=base) T wbo
 have vC:=qbO T waJ vI wac waj
 have waa:=qa2 T wbq wai vC
 have wx:=qaa (P:=P) (w:=w) (base:=base) T wad
 have wO:=qbK T vZ wx
 have wJ:=qa5 (P:=P) (w:=w) (base:=base) T wa3
 have vz:=qa3 T waD wJ
 have wa4:=qab T waY wx wO wJ vz
 have wq:=q8x (P:=P) (w:=w) (base:=base) T wam
 have vD:=qa0 T wa5 wq
 have vh:=ok_byw T wae vD wq
 have wr:=qbL T waU vh
 have wU:=q8w T wak wr
 have vE:=qbM T wa0 wr
 have w9:=q9Z T was wr vE
 have wP:=qac (P:=P) (w:=w) (base:=base) T vQ
 have vR:=qbU T waS wP
 have waV:=qbN T waQ wU w9
 have wZ:=ok_lis T vY wq
 have vJ:=ok_due T wbb wZ wr
 have vb:=q9Y T waH waa vJ
 refine F.ok (k:=12) q3l (fun vs H Q E h=>?_) (fun cdv A outer s H vs Q E hr h=>?_)
 ·obtain ⟨a,ns,rfl,_⟩:=h
  rfl
 ·obtain ⟨a,ns,rfl,hS,hl,k⟩:=h
  have big:=qE
  refine⟨_,(qe (qv (i:=1) q3l.nd rfl (Or.inl rfl) (qz wa4 hr (by decide) rfl (qa (pv 0) qd)))
   (qe (qv (i:=2) q3l.nd rfl (Or.inl rfl) (qz wO hr (by decide) rfl (qa (pv 0) (qa qb (qa qb qd)))))
   (qe (qv (i:=3) q3l.nd rfl (Or.inl rfl) (qz wU hr (by decide) rfl (qa (pv 1) (qa (qA (qa (qj (qf K) (pv 1) qb (fun _ _=>rfl)) (qa qb (qa qb (qa (qj (qf K) (pv 1) qb (fun _ _=>rfl)) (qa (qj (qf K) (pv 1) qb (fun _ _=>rfl)) qd)))))) (qa qb qd)))))
   (qe (qv (i:=4) q3l.nd rfl (Or.inl rfl) (qz w9 hr (by decide) rfl (qa (pv 1) (qa (pv 3) (qa (pv 2) qd)))))
   (qe (qN (q2C (q14 (qz vb hr (by decide) rfl (qa (pv 1) (qa (pv 4) qd))))) (qg (qm q1g)) qu)
   (qe (qv (i:=5) q3l.nd rfl (Or.inl rfl) (qz wx hr (by decide) rfl (qa (pv 0) (qa qb qd))))
   (qe (qv (i:=4) q3l.nd rfl (Or.inl rfl) (qz waV hr (by decide) rfl (qa (pv 1) (qa (pv 4) (qa (pv 5) (qa (pv 2) qd))))))
   (qe (qN (q2C (q14 (qz vb hr (by decide) rfl (qa (pv 1) (qa (pv 4) qd))))) (qg (qm q1g)) qu)
   (qe (qv (i:=4) q3l.nd rfl (Or.inl rfl) (qz vR hr (by decide) rfl (qa (pv 1) (qa (pv 4) (qa (qz wx hr (by decide) rfl (qa (pv 0) (qa qb qd))) qd)))))
   (qe (qN (q2C (q14 (qz vb hr (by decide) rfl (qa (pv 1) (qa (pv 4) qd))))) (qg (qm q1g)) qu)
   (qg (qm (qz vb hr (by decide) rfl (qa (pv 1) (qa (qz vR hr (by decide) rfl (qa (pv 1) (qa (pv 4) (qa (qj (qM K) (pv 2) qb (fun _ _=>rfl)) qd)))) qd))))))))))))))),?_⟩
  walk_at "r"
  refine⟨a,ns,rfl,hS,hl,fun c C H1 s1 hC cv=>?_⟩
  walk_at "r"
  refine⟨a,ns,40,6,rfl,s1.seq hS,hl,by decide,by decide,by decide,fun m ms H2 s2 hm0 hm ml mz=>?_⟩
  have s02:=s1.trans s2
  have hC2:=hC.mono s2.ts
  obtain⟨pw,pt,pl,pv',h0,_⟩:=hC2.ex
  walk_at "r"
  intro t ht
  have s3:=Same.upd (o:= .tup [.int C.fst,.int 0,.int 0,.int C.bars,.int C.water]) ht
  have t3:SAt (upd H2 t (.tup [.int C.fst,.int 0,.int 0,.int C.bars,.int C.water])) t ⟨C.fst,0,0,C.bars,C.water⟩:=qc
  generalize upd H2 t (.tup [.int C.fst,.int 0,.int 0,.int C.bars,.int C.water])=H3 at s3 t3 ⊢
  have s03:=s02.trans s3
  walk_at "r"
  refine⟨c,t,C,_,40,rfl,hC2.mono s3.ts,cv,t3,q9B cv.ok,zc _,fun r row H4 s4 hr0 hrow nd rl r1 ro=>?_⟩
  have s04:=s03.trans s4
  have hC4:=hC2.mono (s3.trans s4).ts
  have m4:=(s3.trans s4) _ _ hm
  walk_at "r"
  refine⟨c,r,m,C,row,ms,rfl,hC4,cv,hrow,nd,r1,by omega,ro,m4,by omega,mz,fun R ls H5 s5 hR pm=>?_⟩
  have hC5:=hC4.mono s5.ts
  have m5:=s5 _ _ m4
  have s05:=s04.trans s5
  have lls:ls.length=row.length:=by have:=pm.length_eq;rw[yC,yC] at this;exact this
  have inr:∀x∈ls,∃s∈row,x.st=s.ns:=fun x hx=>by
   have:x.st∈row.map Sd.ns:=pm.mem_iff.mp (zN.mpr ⟨x,hx,rfl⟩)
   obtain⟨s,hs,e⟩:=zN.mp this
   exact⟨s,hs,e.symm⟩
  have gl:∀x∈ls,GL x:=fun x hx=>by obtain⟨s,_,e⟩:=inr x hx;exact .inr (by rw[e];rfl)
  have es:ls.map Ln.st=(ls.map fun x=>sdL x.st).map Sd.ns:=by
   rw[zae]
   refine zaj fun x hx=>?_
   obtain⟨s,_,e⟩:=inr x hx
   show x.st=(sdL x.st).ns
   rw[e]
   rfl
  have ndn:(row.map Sd.ns).Nodup:=List.Pairwise.map _ (fun a b h e=>h (Sd.ns_inj e)) nd
  have nd5:(ls.map fun x=>sdL x.st).Nodup:=by
   have h1:=pm.nodup_iff.mpr ndn
   rw[es] at h1
   exact List.Pairwise.of_map _ (fun a b h e=>h (by rw[e])) h1
  have so5:∀x∈ls.map (fun x=>sdL x.st),x.ok C:=fun x hx=>by
   obtain⟨y,hy,rfl⟩:=zN.mp hx
   obtain⟨s,hs,e⟩:=inr y hy
   rw[e]
   exact ro s hs
  walk_at "r"
  refine⟨c,R,C,ls,rfl,hC5,cv,hR,by omega,gl,fun H6 s6=>?_⟩
  have hC6:=hC5.mono s6.ts
  have s06:=s05.trans s6
  have hR6:qI LnAt H6 R ls:=let ⟨us,h1,h2⟩:=hR;⟨us,s6 _ _ h1,h2.mono fun _ _=>LnAt.mono s6.ts⟩
  walk_at "r"
  refine⟨a,ns,1,rfl,s06.seq hS,hl,by decide,?_⟩
  walk_at "r"
  refine⟨c,R,m,C,ls,ls.map fun x=>sdL x.st,_,ms,rfl,hC6,cv,hR6,es,nd5,so5,by rw[yC];omega,by rw[yC];omega,s6 _ _ m5,by omega,mz,fun R2 ls2 H7 s7 hR7 l7 g7=>?_⟩
  have hC7:=hC6.mono s7.ts
  have s07:=s06.trans s7
  walk_at "r"
  refine⟨c,R2,C,ls2,rfl,hC7,cv,hR7,by omega,g7,fun H8 s8=>?_⟩
  have hC8:=hC7.mono s8.ts
  have s08:=s07.trans s8
  have hR8:qI LnAt H8 R2 ls2:=let ⟨us,h1,h2⟩:=hR7;⟨us,s8 _ _ h1,h2.mono fun _ _=>LnAt.mono s8.ts⟩
  walk_at "r"
  refine⟨a,ns,2,rfl,s08.seq hS,hl,by decide,?_⟩
  walk_at "r"
  refine⟨c,R2,C,ls2,_,rfl,hC8,cv,hR8,by omega,g7,fun R3 ls3 H9 s9 hR9 l9 g9=>?_⟩
  have hC9:=hC8.mono s9.ts
  have s09:=s08.trans s9
  walk_at "r"
  refine⟨c,R3,C,ls3,rfl,hC9,cv,hR9,by omega,g9,fun H10 s10=>?_⟩
  have hC10:=hC9.mono s10.ts
  have hR10:qI LnAt H10 R3 ls3:=let ⟨us,h1,h2⟩:=hR9;⟨us,s10 _ _ h1,h2.mono fun _ _=>LnAt.mono s10.ts⟩
  have m10:=(s6.trans (s7.trans (s8.trans (s9.trans s10)))) _ _ m5
  obtain⟨j,hj,ej,aj⟩:=q3v (xs:=ms.map V.int) (i:=5) (by decide) (by rw[yC,ml];decide)
  rw[zbJ] at aj
  walk_at "r"
  refine⟨c,R3,C,ls3,_,rfl,hC10,cv,hR10,by omega,g9,fun R4 ls4 H11 s11 hR11 l11 g11=>?_⟩
  walk_at "r"
  refine⟨c,R4,C,ls4,rfl,hC10.mono s11.ts,cv,hR11,by omega,g11,fun H12 s12=>?_⟩
  exact k H12
end
section
variable {K:W.Frag}{h:Heap}{mg:Str->Option Value}{x m q:Str}{C:Addr}{st:Stmt}{ps:List Str}{ds:List Value}
inductive GA (K:W.Frag)(x:Str)(st:Stmt):Prop
 |mk {f:Addr} {od an:Option Addr} {sl:Array (Option Value)} {oc kV dc pm cd ct:Value}:W.nsIn K mainGlobals x=some (some (.ref f))->K.lookup f=some ⟨oc,od,.func (W.fnOf x x (q0M st) (q0k st) (qh st) .none kV dc pm an cd ct),sl⟩->W.codeIn K cd x=true->W.keepIn K (.ref f)=true->GA K x st
theorem GA.laid (X:K.In h)(G:h.Ns mainGlobals mg)(g:GA K x st)(hb:∀(kV doc pm:Value) (an:Option Addr) (cdv ct:Value) (us:List Value),us.length=ps.length->bindArgs (W.fnOf x x (q0M st) (q0k st) (qh st) .none kV doc pm an cdv ct) ⟨us,[]⟩=pure (ps.zip us)):Laid K mg x st ps:=let ⟨a,l,c,k⟩:=g;qc6 X G a l c k hb
inductive MA (K:W.Frag)(C:Addr)(m q:Str)(st:Stmt):Prop
 |mk {f:Addr} {od an:Option Addr} {sl:Array (Option Value)} {oc kV dc pm cd ct:Value}:W.findIn K (.ref C) m=some (some (.ref f))->W.isFn K (.ref f)=true->K.lookup f=some ⟨oc,od,.func (W.fnOf m q (q0M st) (q0k st) (qh st) .none kV dc pm an cd ct),sl⟩->W.codeIn K cd q=true->W.keepIn K (.ref f)=true->MA K C m q st
theorem MA.laid (g:MA K C m q st)(hb:∀(kV doc pm:Value) (an:Option Addr) (cdv ct:Value) (us:List Value),us.length=ps.length->bindArgs (W.fnOf m q (q0M st) (q0k st) (qh st) .none kV doc pm an cdv ct) ⟨us,[]⟩=pure (ps.zip us)):LaidM K C m q st ps:=let ⟨a,i,l,c,k⟩:=g;⟨_,_,q35 l c k,⟨a,i,k⟩,(q35 l c k).binds hb⟩
inductive IA (K:W.Frag)(C:Addr)(q:Str)(st:Stmt):Prop
 |mk {f:Addr} {od an:Option Addr} {sl:Array (Option Value)} {oc kV dc pm cd ct:Value}:W.makesIn K C=true->W.keepIn K (.ref C)=true->W.findIn K (.ref C) "__init__"=some (some (.ref f))->W.isFn K (.ref f)=true->K.lookup f=some ⟨oc,od,.func (W.fnOf "__init__" q (q0M st) (q0k st) (qh st) .none kV dc pm an cd ct),sl⟩->W.codeIn K cd q=true->W.keepIn K (.ref f)=true->IA K C q st
theorem IA.laid (g:IA K C q st)(hx:mg x=some (.ref C))(hb:∀(kV doc pm:Value) (an:Option Addr) (cdv ct:Value) (us:List Value),us.length=ps.length->bindArgs (W.fnOf "__init__" q (q0M st) (q0k st) (qh st) .none kV doc pm an cdv ct) ⟨us,[]⟩=pure (ps.zip us)):LaidI K mg x C q st ps:=let ⟨z,y,a,i,l,c,k⟩:=g;⟨⟨_,_,q35 l c k,⟨z,a,i,y⟩,(q35 l c k).binds hb⟩,hx⟩
inductive CA (K:W.Frag)(C:Addr)(m q:Str)(st:Stmt):Prop
 |mk {f:Addr} {od an:Option Addr} {sl:Array (Option Value)} {oc kV dc pm cd ct:Value}:W.readsIn K C (.type "type")=true->W.findCls K (.ref C) (.type "type") m=some (.val (.ref f))->W.specialIn K (.ref C) "__getattribute__"=some (some (.builtin "type.__getattribute__"))->K.lookup f=some ⟨oc,od,.func (W.fnOf m q (q0M st) (q0k st) (qh st) .none kV dc pm an cd ct),sl⟩->W.codeIn K cd q=true->W.keepIn K (.ref f)=true->CA K C m q st
theorem CA.laid (g:CA K C m q st)(hx:mg x=some (.ref C))(hb:∀(kV doc pm:Value) (an:Option Addr) (cdv ct:Value) (us:List Value),us.length=ps.length->bindArgs (W.fnOf m q (q0M st) (q0k st) (qh st) .none kV doc pm an cdv ct) ⟨us,[]⟩=pure (ps.zip us)):LaidC K mg x m q st ps:=let ⟨r,y,z,l,c,k⟩:=g;⟨C,_,_,hx,q35 l c k,⟨r,y,z,k⟩,(q35 l c k).binds hb⟩
end
local macro_rules| `(tactic| walk_at "b1")=> `(tactic| exact fun _ _ _ _ _ _=>blS fun _=>bl0 rfl)
local macro_rules| `(tactic| walk_at "b2")=> `(tactic| exact fun _ _ _ _ _ _=>blS fun _=>blS fun _=>bl0 rfl)
local macro_rules| `(tactic| walk_at "b3")=> `(tactic| exact fun _ _ _ _ _ _=>blS fun _=>blS fun _=>blS fun _=>bl0 rfl)
local macro_rules| `(tactic| walk_at "b4")=> `(tactic| exact fun _ _ _ _ _ _=>blS fun _=>blS fun _=>blS fun _=>blS fun _=>bl0 rfl)
local macro_rules| `(tactic| walk_at "b5")=> `(tactic| exact fun _ _ _ _ _ _=>blS fun _=>blS fun _=>blS fun _=>blS fun _=>blS fun _=>bl0 rfl)
theorem all_mk {l:W.OpenLaw}{w:World}{K:W.Frag}{h:Heap}{mg:Str->Option Value}{fa vW wM wR wQ vk wS wK vX vi wH wF wG wA:Addr}(X:K.In h)(G:h.Ns mainGlobals mg)(hfa:mg "law"=some (.ref fa))
  (T0:TxtR (fun x v=>W.nsIn K mainGlobals x=some (some v)) (fun x=>W.nsIn K mainGlobals x=some none) (Cs.mk vW wM wR wQ vk wS wK vX vi wH wF wG wA))
  (TC:Tcl K (Cs.mk vW wM wR wQ vk wS wK vX vi wH wF wG wA))
  (h1:GA K "_wall" q8h)
  (h2:GA K "within" q3A)
  (h3:GA K "has_bit" q2V)
  (h4:GA K "changed" q2X)
  (h5:GA K "gate_of" q2W)
  (h6:GA K "start" q4T)
  (h7:GA K "held" q6U)
  (h8:GA K "is_stand" q2n)
  (h9:GA K "has_bits_of" q1a)
  (h10:GA K "thing_bits" q1o)
  (h11:GA K "door_bits" q1n)
  (h12:GA K "door_kinds" q0Z)
  (h13:GA K "can_enter" q1H)
  (h14:GA K "leads" q3P)
  (h15:GA K "fit_deeds" q1m)
  (h16:GA K "all_goes" q1A)
  (h17:GA K "all_deeds" q0s)
  (h18:GA K "holds" q3Q)
  (h19:GA K "line_holds" q0Y)
  (h20:GA K "falls" q3R)
  (h21:GA K "_law_cell_at" q0T)
  (h22:GA K "_law_numbers" q0S)
  (h23:GA K "_law_gate" q1K)
  (h24:GA K "_law_great" q12)
  (h25:GA K "_law_cave" q0P)
  (h26:GA K "_law_amount" q1c)
  (h27:GA K "_law_lets" q1J)
  (h28:GA K "_law_by_ways" q0U)
  (h29:GA K "_law_next" q1I)
  (h30:GA K "_law_coming" q1b)
  (h31:GA K "_law_near" q0O)
  (h32:GA K "_law_paper" q1q)
  (h33:GA K "_law_bent_stand" q0y)
  (h34:GA K "_law_bent" q1L)
  (h35:GA K "_law_more" q0t)
  (h36:GA K "_law_is_stand" q0u)
  (h37:GA K "_law_due" q1j)
  (h38:GA K "_law_right" q1p)
  (h39:GA K "law" qbn)
  (h40:MA K wM "lets" "Plain.lets" q1r)
  (h41:MA K wM "told" "Gate.told" qY)
  (h42:IA K wM "Plain.__init__" q1s)
  (h43:MA K wR "lets" "Door.lets" q20)
  (h44:MA K wR "told" "Gate.told" qY)
  (h45:IA K wR "Door.__init__" q21)
  (h46:MA K wQ "lets" "Need.lets" q1X)
  (h47:MA K wQ "told" "Gate.told" qY)
  (h48:IA K wQ "Need.__init__" q1Y)
  (h49:MA K vk "lets" "Bar.lets" q2o)
  (h50:MA K vk "told" "Gate.told" qY)
  (h51:IA K vk "Bar.__init__" q2p)
  (h52:MA K wS "lets" "Wade.lets" q1M)
  (h53:MA K wS "told" "Gate.told" qY)
  (h54:IA K wS "Wade.__init__" q1N)
  (h55:MA K wK "lets" "Float.lets" q1t)
  (h56:MA K wK "told" "Gate.told" qY)
  (h57:IA K wK "Float.__init__" q1u)
  (h58:MA K vi "can" "Deed.can" q08)
  (h59:MA K vi "done" "Go.done" q30)
  (h60:MA K vi "fits" "Go.fits" q2Z)
  (h61:MA K vi "own_part" "Deed.own_part" qF)
  (h62:MA K vi "told" "Deed.told" qZ)
  (h63:IA K vi "Go.__init__" q2Y)
  (h64:MA K wH "can" "Deed.can" q08)
  (h65:MA K wH "done" "Pull.done" q1W)
  (h66:MA K wH "fits" "Pull.fits" q1V)
  (h67:MA K wH "own_part" "Deed.own_part" qF)
  (h68:MA K wH "told" "Deed.told" qZ)
  (h69:IA K wH "Pull.__init__" q1U)
  (h70:MA K wF "can" "Deed.can" q08)
  (h71:MA K wF "done" "Take.done" q1T)
  (h72:MA K wF "fits" "Take.fits" q1S)
  (h73:MA K wF "own_part" "Deed.own_part" qF)
  (h74:MA K wF "told" "Deed.told" qZ)
  (h75:IA K wF "Take.__init__" q1R)
  (h76:MA K wG "can" "Deed.can" q08)
  (h77:MA K wG "done" "Turn.done" q1Q)
  (h78:MA K wG "fits" "Turn.fits" q1P)
  (h79:MA K wG "own_part" "Deed.own_part" qF)
  (h80:MA K wG "told" "Deed.told" qZ)
  (h81:IA K wG "Turn.__init__" q1O)
  (h82:MA K wA "can" "Deed.can" q08)
  (h83:MA K wA "done" "Unlock.done" q1f)
  (h84:MA K wA "fits" "Unlock.fits" q1e)
  (h85:MA K wA "own_part" "Deed.own_part" qF)
  (h86:MA K wA "told" "Deed.told" qZ)
  (h87:IA K wA "Unlock.__init__" q1d)
  (h88:CA K vX "__init__" "Deed.__init__" q22)
  (h89:CA K vW "__init__" "Gate.__init__" q1Z):
  ∃fd:FuncData,(∀(s:Shared) (v:Value),BindsTo s fd ⟨[v],[]⟩ [("_law_script",v)])/\∀base:Heap,K.In base->base.Ns mainGlobals mg->FnOk l.prog w K mg base CX0 13 fa fd ["_law_script"] (q9C K):=by
 obtain⟨al,ll,cl,kl⟩:=h39
 have e:=hfa.symm.trans (W.mg_of X G al)
 cases e
 have T:Txt mg (Cs.mk vW wM wR wQ vk wS wK vX vi wH wF wG wA):=T0.up (fun _ _ z=>W.mg_of X G z) fun _ z=>W.mg_none_of X G z
 exact⟨_,fun s v=> .of_eq rfl,fun base _ _=>ok_law (q35 ll cl kl) T TC (h1.laid X G (by walk_at "b1")) (h2.laid X G (by walk_at "b3")) (h3.laid X G (by walk_at "b2")) (h4.laid X G (by walk_at "b3")) (h5.laid X G (by walk_at "b1")) (h6.laid X G (by walk_at "b1")) (h7.laid X G (by walk_at "b2")) (h8.laid X G (by walk_at "b2")) (h9.laid X G (by walk_at "b2")) (h10.laid X G (by walk_at "b1")) (h11.laid X G (by walk_at "b1")) (h12.laid X G (by walk_at "b1")) (h13.laid X G (by walk_at "b2")) (h14.laid X G (by walk_at "b2")) (h15.laid X G (by walk_at "b2")) (h16.laid X G (by walk_at "b1")) (h17.laid X G (by walk_at "b1")) (h18.laid X G (by walk_at "b2")) (h19.laid X G (by walk_at "b3")) (h20.laid X G (by walk_at "b4")) (h21.laid X G (by walk_at "b2")) (h22.laid X G (by walk_at "b3")) (h23.laid X G (by walk_at "b2")) (h24.laid X G (by walk_at "b1")) (h25.laid X G (by walk_at "b1")) (h26.laid X G (by walk_at "b3")) (h27.laid X G (by walk_at "b3")) (h28.laid X G (by walk_at "b2")) (h29.laid X G (by walk_at "b2")) (h30.laid X G (by walk_at "b3")) (h31.laid X G (by walk_at "b2")) (h32.laid X G (by walk_at "b3")) (h33.laid X G (by walk_at "b3")) (h34.laid X G (by walk_at "b3")) (h35.laid X G (by walk_at "b4")) (h36.laid X G (by walk_at "b2")) (h37.laid X G (by walk_at "b2")) (h38.laid X G (by walk_at "b2")) (h40.laid (by walk_at "b5")) (h41.laid (by walk_at "b1")) (h42.laid T.c_Plain (by walk_at "b1")) (h43.laid (by walk_at "b5")) (h44.laid (by walk_at "b1")) (h45.laid T.c_Door (by walk_at "b2")) (h46.laid (by walk_at "b5")) (h47.laid (by walk_at "b1")) (h48.laid T.c_Need (by walk_at "b2")) (h49.laid (by walk_at "b5")) (h50.laid (by walk_at "b1")) (h51.laid T.c_Bar (by walk_at "b2")) (h52.laid (by walk_at "b5")) (h53.laid (by walk_at "b1")) (h54.laid T.c_Wade (by walk_at "b3")) (h55.laid (by walk_at "b5")) (h56.laid (by walk_at "b1")) (h57.laid T.c_Float (by walk_at "b2")) (h58.laid (by walk_at "b3")) (h59.laid (by walk_at "b3")) (h60.laid (by walk_at "b3")) (h61.laid (by walk_at "b2")) (h62.laid (by walk_at "b1")) (h63.laid T.c_Go (by walk_at "b2")) (h64.laid (by walk_at "b3")) (h65.laid (by walk_at "b3")) (h66.laid (by walk_at "b3")) (h67.laid (by walk_at "b2")) (h68.laid (by walk_at "b1")) (h69.laid T.c_Pull (by walk_at "b2")) (h70.laid (by walk_at "b3")) (h71.laid (by walk_at "b3")) (h72.laid (by walk_at "b3")) (h73.laid (by walk_at "b2")) (h74.laid (by walk_at "b1")) (h75.laid T.c_Take (by walk_at "b2")) (h76.laid (by walk_at "b3")) (h77.laid (by walk_at "b3")) (h78.laid (by walk_at "b3")) (h79.laid (by walk_at "b2")) (h80.laid (by walk_at "b1")) (h81.laid T.c_Turn (by walk_at "b2")) (h82.laid (by walk_at "b3")) (h83.laid (by walk_at "b3")) (h84.laid (by walk_at "b3")) (h85.laid (by walk_at "b2")) (h86.laid (by walk_at "b1")) (h87.laid T.c_Unlock (by walk_at "b2")) (h88.laid T.c_Deed (by walk_at "b4")) (h89.laid T.c_Gate (by walk_at "b3"))⟩
theorem walk {l:W.OpenLaw}{q:Program}{loose:List Str}{XP:(Str->Option Value)->Heap->Prop}{YP:World->Heap->Prop}{d:DefRec}{K:Params->W.Frag}(hn:l.most=some 63)(hdf:d.params.defaults=[])
  (hY:∀(w:World) (h:Heap),YP w h->(K w.params).In h)
  (F:∀(w:World) (mg:Str->Option Value) (fa:Addr) (h:Heap),(K w.params).In h->h.Ns mainGlobals mg->mg d.name=some (.ref fa)->
   ∃fd:FuncData,(∀(s:Shared) (u:Value),BindsTo s fd ⟨[u],[]⟩ [("_law_script",u)])/\∀base:Heap,(K w.params).In base->base.Ns mainGlobals mg->FnOk l.prog w (K w.params) mg base CX0 13 fa fd ["_law_script"] (q9C (K w.params))):
  W.WalkO q loose XP YP l.row.toRowW d [] (fun f vs=>PySem.call f vs):=
 L2.qbc (n:=63) (k:=13) (x:="_law_script") (CX:=fun _=>CX0) (sp:=fun w=>q9C (K w.params)) hn (by decide) hdf ⟨rfl,by decide,by decide,rfl⟩ hY F (fun _ _ a ns hl _ hS=>⟨a,ns,rfl,hS,hl,fun _=>rfl⟩) fun _ _ _ _ _ z=>z
end Mine
open PySem PySem.W PyProof.Rows
set_option maxRecDepth 100000 in
set_option maxHeartbeats 0 in
theorem PySem.Challenge.cw_delve_k32_papers_let_by_holds : PySem.Challenge.rw_delve_k32_papers_let_by.Holds := by
 w_on;o_law;k_head;(case hw=>w_witness2)
 k_fill
 refine Mine.walk (l:=PySem.Challenge.rw_delve_k32_papers_let_by) rfl rfl (fun w h Y=>PySem.W.kIn_of Y) ?F
 case F=>
  intro w mg fa h KX G hmg
  refine' Mine.all_mk KX G hmg ?T ?C ?_ ?_ ?_ ?_ ?_ ?_ ?_ ?_ ?_ ?_ ?_ ?_ ?_ ?_ ?_ ?_ ?_ ?_ ?_ ?_ ?_ ?_ ?_ ?_ ?_ ?_ ?_ ?_ ?_ ?_ ?_ ?_ ?_ ?_ ?_ ?_ ?_ ?_ ?_ ?_ ?_ ?_ ?_ ?_ ?_ ?_ ?_ ?_ ?_ ?_ ?_ ?_ ?_ ?_ ?_ ?_ ?_ ?_ ?_ ?_ ?_ ?_ ?_ ?_ ?_ ?_ ?_ ?_ ?_ ?_ ?_ ?_ ?_ ?_ ?_ ?_ ?_ ?_ ?_ ?_ ?_ ?_ ?_ ?_ ?_ ?_ ?_ ?_ ?_
  case T=>constructor<;>(try dsimp only)<;>first|k_is|exact⟨_,by k_is⟩
  case C=>constructor<;>(try dsimp only)<;>first|exact⟨by k_is,by k_is,by k_is,by k_is⟩|(unfold L2.qG;k_is)
  all_goals try dsimp only
  all_goals first|exact Mine.GA.mk (by k_is) (by k_is) (by k_is) (by k_is)|exact Mine.MA.mk (by k_is) (by k_is) (by k_is) (by k_is) (by k_is)|exact Mine.IA.mk (by k_is) (by k_is) (by k_is) (by k_is) (by k_is) (by k_is) (by k_is)|exact Mine.CA.mk (by k_is) (by k_is) (by k_is) (by k_is) (by k_is) (by k_is)|exact Mine.DA.mk (by k_is) (by k_is) (by k_is) (by k_is) (by k_is)|exact⟨_,Mine.DA.mk (by k_is) (by k_is) (by k_is) (by k_is) (by k_is)⟩|exact⟨_,_,Mine.DA.mk (by k_is) (by k_is) (by k_is) (by k_is) (by k_is)⟩
