import PyProof.Rows.All
import Wide.All
import OpenK.AllK
import Wide.FinOn
import Lean
import PyProof.EqAt
import PyProof.EqKinds
import PyProof.TupleCall
import PyProof.NeKinds
import KE.KDictSum
import KE.KDictList
import PyProof.DictTruth
import KE.KRevIter
import PySem.Challenge.RW_delve_k33_stuck_shown
section
open PySem PySem.Spec PyProof.Rows PySem.W
def zl:=@wpAny_pure
def zm:=@Heap.get?_push_of_some
def zn:=@Nat.le_refl
def zo:=@if_neg
def zp:=@Int.toNat_natCast
def zq:=@decide_eq_false
def zr:=@decide_eq_true
def zt:=@if_pos
def zu:=@Bool.false_ne_true
def zv:=@Heap.lt_size
def zw:=@List.take_succ_eq_append_getElem
def zx:=@List.length_append
def zy:=@List.size_toArray
def zA:=@List.mem_singleton
def zB:=@Heap.get?_push_size
def zC:=@Option.some.inj
def zD:=@List.length_take
def zE:=@List.mem_cons_of_mem
def zF:=@Nat.ne_of_lt
def zG:=@List.mem_cons
def zH:=@wpAny_ite_false
def zI:=@List.mem_append_right
def zJ:=@List.append_nil
def zK:=@Nat.lt_of_lt_of_le
def zL:=@List.getElem_mem
def zM:=@List.map_append
def zN:=@List.getElem?_map
def zO:=@wpAny_mono
def zP:=@Bool.eq_iff_iff
def zQ:=@List.take_length
def zR:=@PySem.F.plainAttrs_list
def zS:=@List.getElem?_append_left
def zT:=@Heap.get?_update_other
def zU:=@PySem.F.slot_list_append
def zX:=@PySem.F.type_list_append
def zY:=@List.mem_cons_self
def zZ:=@List.map_cons
def zaa:=@Heap.get?_update_self
def zab:=@Nat.le_trans
def zac:=@Bool.and_eq_true
def zad:=@List.mem_append
def zae:=@congrArg
def zaf:=@List.length_cons
def zag:=@List.getElem?_append_right
def zah:=@wpAny_holding
def zai:=@Array.length_toList
def zaj:=@PyProof.Rows.callWith_type1
def zak:=@wpAny_newObj_type
def zal:=@PyProof.Rows.slot_tuple_getitem
def zam:=@wpAny_field
def zan:=@Nat.lt_irrefl
def zao:=@PySem.W.kia_one
def zap:=@wpAny_Call_Name_kw
def zaq:=@Obj.data_mapFields
def zar:=@wpAny_callSpecial?_slot
def zas:=@Int.eq_ofNat_of_zero_le
def zat:=@List.lookup_cons
def zau:=@Int.zero_add
def zav:=@Array.getElem?_eq_some_iff
def zaw:=@List.getD_eq_getElem?_getD
def zax:=@List.map_congr_left
def zay:=@Obj.isFreed_of_fields
def zaz:=@List.length_drop
def zaA:=@wpAny_call_entry
def zaB:=@List.all_eq_true
def zaC:=@Nat.zero_le
def zaD:=@wpAny_setField
def zaE:=@F.slot_dict_keyiterator_next
def zaF:=@wpAny_truthy_bool
def zaG:=@of_decide_eq_true
def zaH:=@PySem.mem_of_lookup
def zaI:=@Bool.true_and
def zaJ:=@Array.getElem?_eq_getElem
def zaK:=@Int.one_mul
def zaL:=@List.mem_append_left
def zaM:=@wpAny_execs_nil
def zaN:=@List.mem_map
def zaO:=@wpAny_loadPart_at
def zaP:=@wpAny_typeNameOfWhole_keyiter
def zaQ:=@Heap.FunFrames.of_keeps
def zaR:=@wpAny_ite_true
def zaS:=@Nat.le_succ
def zaT:=@List.mem_filterMap
def zaU:=@PySem.W.callWith_K
def zaV:=@of_decide_eq_false
def zaW:=@List.filter_append
def zaX:=@wpAny_passesOwn
def zaY:=@wpAny_dictEpoch
def zaZ:=@F.slot_tuple_iterator_next
def za0:=@Bool.eq_false_iff
def za1:=@List.mem_of_getElem?
def za2:=@List.mem_range
def za3:=@Bool.false_and
def za4:=@Heap.size_push
def za5:=@wpAny_typeNameOf_keyiter
def za6:=@List.map_map
def za7:=@PySem.W.hideAll_get
def za8:=@List.replicate_succ
def za9:=@Heap.SameBut.update
def zba:=@wpAny_pyIter_tuple
def zbb:=@List.append_assoc
def zbc:=@Nat.lt_succ_of_lt
def zbd:=@wpAny_dictEntries
def zbe:=@Array.getElem?_toList
def zbf:=@PySem.W.methodCall_KW
def zbg:=@List.length_filter_le
def zbh:=@Array.mem_of_getElem?
def zbi:=@Array.getD_eq_getD_getElem?
def zbj:=@PySem.W.hideAll_none
def zbk:=@Nat.lt_succ_self
def zbl:=@List.nodup_cons
def zbm:=@KeyOrd.kle_refl
def zbn:=@codeAny_mono
def zbo:=@PySem.F.args_tuple_add_2
def zbp:=@Nat.lt_of_le_of_lt
def zbq:=@Int.add_zero
def zbr:=@wpAny_call
def zbs:=@PySem.F.entry_tuple_add
def zbt:=@List.flatten_cons
def zbu:=@wpAny_pyIter_enum
def zbv:=@Nat.lt_of_succ_lt
def zbw:=@decide_eq_true_eq
def zbx:=@PySem.F.slot_tuple_add
def zby:=@Calls.callWith_builtin
def zbz:=@List.take_of_length_le
def zbA:=@wpAny_standAt
def zbB:=@wpAny_execs_cons
def zbC:=@KeyOrd.kle_trans
def zbD:=@Bool.not_eq_true
def zbE:=@List.length_replicate
def zbF:=@wpAny_isOneOf_keyiter
def zbG:=@List.mem_filter
def zbH:=@Heap.get?_none_of_le
def zbI:=@wpAny_typeOf
def zbJ:=@wpAny_rule
def zbK:=@wpAny_loadPart'
def zbL:=@List.mem_iff_getElem
def zbM:=@Int.natCast_pow
def zbN:=@wpAny_specialOf
def zbO:=@F.args_dict_keyiterator_next_1
def zbP:=@wpAny_ite_split
def zbQ:=@Nat.min_eq_left
def zbR:=@List.mem_of_mem_take
def zbS:=@F.entry_dict_keyiterator_next
def zbT:=@PySem.W.plainGet_of
def zbU:=@List.getElem_of_mem
def zbV:=@F.args_tuple_iterator_next_1
def zbW:=@wpAny_fieldsOf
def zbX:=@Bool.and_false
def zbY:=@List.dropLast_concat_getLast
def zbZ:=@List.not_lt
def zb0:=@PySem.W.of_hideAll
def zb1:=@Calls.spliced_cons
def zb2:=@F.entry_tuple_iterator_next
def zb3:=@SeqAt.EqAt.of_refs
def zb4:=@slot_dict_contains
def zb5:=@Calls.Name_function_global
def zb6:=@Int.fdiv_eq_ediv_of_nonneg
def zb7:=@wpAny_letOwnedTupleGo_enum
def zb8:=@PySem.F.excBase_ValueError
def zb9:=@Bool.false_or
def zca:=@Calls.spliced_nil
def zcb:=@List.reverse_cons
def zcc:=@Obj.cls_mapFields
def zcd:=@List.ext_getElem?
def zce:=@Int.emod_eq_of_lt
def zcf:=@Option.isSome_map
def zcg:=@KeyOrd.kle_of_klt
def zch:=@List.pairwise_map
def zci:=@PyProof.Rows.bitAnd_range
def zcj:=@Calls.call_function_entry
def zck:=@Nat.ne_of_gt
def zcl:=@Nat.le_of_eq
def zcm:=@List.mem_reverse
def zcn:=@wpAny_forIn_list
def zco:=@List.of_mem_zip
def zcp:=@List.nil_append
def zcq:=@List.forIn_cons
def zcr:=@Nat.not_lt_zero
def zcs:=@List.map_id
def zct:=@wpAny_loadPart
def zcu:=@wpAny_seqItems
def zcv:=@List.take_zero
end
universe u v
theorem yA{α:Type u}{l:List α}{i:Nat}{a:α}(h:l[i]?=some a):∃h:i<l.length,l[i]=a:=List.getElem?_eq_some_iff.mp h
theorem yB{α:Type u}{l:List α}{i:Nat}(h:i<l.length):l[i]?=some l[i]:=List.getElem?_eq_getElem h
theorem yC{α:Type u}{β:Type v}{l:List α}(f:α->β):(l.map f).length=l.length:=List.length_map f
def yD:=@PySem.wpAny_bind
local macro_rules| `(tactic| walk_at "k")=> `(tactic| decide +kernel)
namespace PySem.W.Fast
def tw6991499398617942628:=0
def tw11071679039808146228:=0
def tw5898384552167306365:=0
def tw13068332908810489730:=0
def tw9942854355087642118:=0
def tw6132354759617877870:=0
def tw9314580978174249278:=0
def tw7807751290382524167:=0
def tw14887678598568757030:=0
def tw15651965519410028220:=0
def tw200633865991947476:=0
def tw12260524226814783001:=0
def tw7770190636977664382:=0
def tw905343384415396613:=0
def tw3202479667961936426:=0
def tw17777715070004443754:=0
def tw1777192855538374373:=0
def tw8695216063440978531:=0
def tw16975468343937482932:=0
def tw18003825823497729553:=0
def tw17337907648759847228:=0
def tw794856380284163401:=0
def tw735170738160308645:=0
def tw8413444409513831745:=0
def tw11057996355647898779:=0
def tw17685434077544119721:=0
def tw14394630120522599665:=0
def tw5510265220843369012:=0
def tw15413200051164389916:=0
def tw8890043114640342828:=0
def tw7466917833377706037:=0
def tw14277424790751057497:=0
def tw18263465066461749983:=0
def tw12031902223085485981:=0
def tw6009859781123760006:=0
def tw7824889414126964346:=0
def tw17475791788271596299:=0
def tw10356324031200861016:=0
def tw2724309918210381465:=0
def tw1387757921095170603:=0
def tw15012363842143677605:=0
def tw6930483056942911165:=0
def tw2725859885873345240:=0
def tw3771103467193523860:=0
def tw15236608239577710120:=0
def tw12680395144859708986:=0
def tw5671887016625021035:=0
def tw4181918776253522568:=0
def tw1708500128566171233:=0
def tw7337121313153506191:=0
def tw17141493045793048593:=0
def tw3644956431259047404:=0
def tw7993154125764703515:=0
def tw12664276979548407719:=0
def tw14246176084111201092:=0
def tw15524553741911383906:=0
def tw1605713608778897986:=0
def tw8492452353363233985:=0
def tw17409568894942750420:=0
def tw4357690451090658931:=0
def tw1256377922982528320:=0
def tw6679027526763621802:=0
def tw7863128342427562355:=0
def tw16326732966194582573:=0
def tw12796665596002923161:=0
def tw16402279558525209019:=0
def tw11233234323591363302:=0
def tw3507180111070644678:=0
def tw13573847684119930212:=0
def tw9237296640150810795:=0
def tw1618965694648674375:=0
def tw11770976656281358771:=0
def tw311021891636161536:=0
def tw1473084666012518991:=0
def tw5140606668946729519:=0
def tw15579423486181648347:=0
def tw10799376866494417847:=0
def tw5277542366566710172:=0
def tw4942283917626650615:=0
def tw12851692354556270755:=0
def tw13917997237016176:=0
def tw8253891006730043441:=0
def tw7820918803308445734:=0
def tw7943931243069076443:=0
def tw1190546253584403905:=0
def tw4969369314456283064:=0
def tw14625055333538881867:=0
def tw14119827300350130529:=0
def tw6002475067366216639:=0
def tw17228571741384063167:=0
def tw2523910118048022657:=0
def tw4289932399216748875:=0
def tw12125064821466661354:=0
def tw11010745930319943100:=0
def tw2699868386083755005:=0
def tw16503253046199884693:=0
def tw2653819873151217198:=0
def tw7570947651978646499:=0
def tw16287573504032942447:=0
def tw13330661029519087952:=0
def tw2246006674016066694:=0
def tw3735375900569446080:=0
def tw12952308644947629293:=0
def tw5958734753887140896:=0
def tw2382329997595008013:=0
def tw6948003383713084651:=0
def tw1772207328489542116:=0
def tw9162015550457028027:=0
def tw17292839381047803317:=0
def tw16650622460767719692:=0
def tw2508164802050343001:=0
def tw2529141793758352966:=0
def tw15952494833300854132:=0
def tw1930794304233524174:=0
def tw12170732432069456004:=0
def tw8521498328968663972:=0
def tw1957047068336580800:=0
def tw13303518985955169664:=0
def tw5582166551125168605:=0
def tw2152879385787674281:=0
def tw15683317511148591235:=0
def tw6402088027125329558:=0
def tw2782585391634699231:=0
def tw12857528720468856359:=0
def tw4938790117466257205:=0
def tw17847240989737333113:=0
def tw8971153030493091827:=0
def tw3904609718936799374:=0
def tw12574381298935830955:=0
def tw6109003431160534009:=0
def tw12593398166909212019:=0
def tw10652442076416615442:=0
def tw3814577851965957197:=0
def tw11231172192997595491:=0
def tw5658033646800001550:=0
def tw3684289123088209819:=0
def tw8636826039167634756:=0
def tw8550844747225361938:=0
def tw10400294263606820166:=0
def tw7454772130019454427:=0
def tw5815597231967113487:=0
def tw12909787613486631812:=0
def tw10419374768217305827:=0
def tw7837191211408838120:=0
def tw8997984286580080634:=0
def tw13823167451971299017:=0
def tw11946540614578092339:=0
def tw10767225867717566602:=0
def tw16644165498860243274:=0
def tw10092604787123864475:=0
def tw7044610786577501047:=0
def tw12880023181130808743:=0
def tw16464931046099212316:=0
def tw15417658567183637046:=0
def tw1711780812562768732:=0
def tw15862805892508749377:=0
def tw4504931125953058203:=0
def tw4840565319127072063:=0
def tw18205486975145740520:=0
def tw2217851031107976400:=0
def tw8621359336444900394:=0
def tw2339654772203414419:=0
def tw17733931397118192224:=0
def tw1433728146452720487:=0
def tw6551329262754343803:=0
def tw2388520548245529135:=0
def tw15460975919410183939:=0
def tw16934403924892308954:=0
def tw12945216182853140070:=0
def tw6974019739713895172:=0
def tw18421941925385456658:=0
def tw5677718925671855332:=0
def tw7607430412854357736:=0
def tw1595655438918099243:=0
def tw10090602049383613189:=0
def tw13675820295187826329:=0
def tw15418822210789313487:=0
def tw9010445621910770682:=0
def tw8041541989299285259:=0
def tw15659155516960300303:=0
def tw4644128071643376236:=0
def tw2842043939248706082:=0
def tw12805405782302978978:=0
def tw4386961256036500428:=0
def tw934364053576629322:=0
def tw17873106739328776567:=0
def tw13314576814212903135:=0
def tw8014560320915422836:=0
def tw10903424398154514768:=0
def tw7502305791950166525:=0
def tw669276310194846776:=0
def tw5794772479015467116:=0
def tw4819858209418701725:=0
def tw16926891426373143551:=0
def tw1378342500932138439:=0
def tw8878375976681963933:=0
def tw1820212868897645450:=0
def tw7521583515885955339:=0
def tw12833750164052435985:=0
def tw13890584987000307351:=0
def tw16449425691962687251:=0
def tw8816195943717352700:=0
def tw13137785252769391670:=0
def tw4485468678651287963:=0
def tw17186003867870969461:=0
def tw12793006195454387196:=0
def tw14452493739426160669:=0
def tw13977454528861458205:=0
def tw16251472160627567197:=0
def tw3505875953341838629:=0
def tw6821891682029553727:=0
def tw14041381799050075278:=0
def tw9301740311384327378:=0
def tw10890679229499151601:=0
def tw4404595335524726848:=0
def tw13570199906962981021:=0
def tw15018299648103673050:=0
def tw5699644123761835844:=0
def tw16785563518153764699:=0
def tw10934238307538035070:=0
def tw10627249514855077503:=0
def tw15871769860693113063:=0
def tw13102698493029568277:=0
def tw9287973794412796663:=0
def tw16617380095892440117:=0
def tw2249001286548303922:=0
def tw8408437813915430602:=0
def tw11236716478999574281:=0
def tw1879428105187786274:=0
def tw7974097473737355253:=0
def tw3782799734326522450:=0
def tw9327249202649661173:=0
def tw9078924266525768204:=0
def tw5584853915509326783:=0
def tw7644936737068869488:=0
def tw960805053826128448:=0
def tw16943295089644973772:=0
def tw4343939156900673737:=0
def tw11656579849276331435:=0
def tw3788253195228570373:=0
def tw12370276535625273261:=0
def tw8901384371525408456:=0
def tw5135396450538146296:=0
def tw7835911858171984319:=0
def tw6389814693899539853:=0
def tw17799641238878752979:=0
def tw14545334429745947179:=0
def tw13821139448739220553:=0
def tw18185354505620197161:=0
def tw1991754682663575906:=0
def tw374986092946778399:=0
def tw11588334481599807651:=0
def tw10153921636151451326:=0
def tw14833979020268902073:=0
def tw5051539972853604344:=0
def tw149706715471417471:=0
def tw1475373211896756456:=0
def tw14484395124324611200:=0
def tw10040559449441596264:=0
def tw5469156813187739960:=0
def tw8185257318136966637:=0
def tw10089233398971864251:=0
def tw593096491483446453:=0
def tw8790627575545236435:=0
def tw13863525687828740452:=0
def tw18133119459402700937:=0
def tw12444399198998386825:=0
def tw569264320123599725:=0
def tw11621870545773277002:=0
def tw4636902741223589904:=0
def tw5287450383197817444:=0
def tw12836294318334951201:=0
def tw4806070422124109036:=0
def tw11796755975021485740:=0
def tw15317651895148812507:=0
def tw14947880963939812280:=0
def tw9623728713632043739:=0
def tw7760129636555826421:=0
def tw655226307438874580:=0
def tw14639609654719814737:=0
def tw7017822918952001772:=0
def tw8235244372319574720:=0
def tw9073021605291042386:=0
def tw12867605533021869576:=0
def tw10456141105774581135:=0
def tw18033354094041290340:=0
def tw2341907518326569500:=0
def tw9326957533091654823:=0
def tw88376140491621587:=0
def tw9736267508562548273:=0
def tw3942902138137088831:=0
def tw3665045481753309870:=0
def tw13842967771955929904:=0
def tw2882762894189278633:=0
def tw15770649696736652188:=0
def tw1437663274229334353:=0
def tw15867899588594066490:=0
def tw5209827626852691524:=0
def tw15420284206965646763:=0
def tw7277653781756451688:=0
def tw6247388139943400919:=0
def tw358632276306523162:=0
def tw4342067387546175687:=0
def tw16959440274758125498:=0
def tw11466999955411029874:=0
def tw17231555303353148822:=0
def tw11313121094061029762:=0
def tw18431592003024784863:=0
def tw18085546842856616755:=0
def tw9220340792283082969:=0
def tw6804193373258780804:=0
def tw9707992283899256207:=0
def tw598203095326801484:=0
def tw16725959859664411662:=0
def tw11459175801180234072:=0
def tw16186167383990377848:=0
def tw9232271247327294691:=0
def tw1399032566736280599:=0
def tw5367376808372067392:=0
def tw8493667821731266254:=0
def tw14694642493277804368:=0
def tw2994353324748869882:=0
def tw16041395743269625604:=0
def tw11741718510634488634:=0
def tw9127182550415129270:=0
def tw11119158588837320563:=0
def tw10862895536148146169:=0
def tw12615445534191012031:=0
def tw12142748702795849338:=0
def tw13874963678411758704:=0
def tw7374641481706230586:=0
def tw18037504666097389573:=0
def tw2355841761141432453:=0
def tw5060069107039705027:=0
def tw9562560367808738617:=0
def tw7231018379765741714:=0
def tw4714650256371224069:=0
def tw6318601383479539877:=0
def tw8388450592837967798:=0
def tw3547768843273410316:=0
def tw982470980507580786:=0
def tw3096100058173340102:=0
def tw10364938513954607156:=0
def tw11080249296094423099:=0
def tw15510076206294980774:=0
def tw8625429798689892753:=0
def tw14459391942320495035:=0
def tw18339941098488408914:=0
def tw13804823756497286838:=0
def tw9680486521204656717:=0
def tw10700648551595752205:=0
def tw1586207748857033940:=0
def tw3644604980500873383:=0
def tw1552695586936389436:=0
def tw13487192561823298904:=0
def tw5157285734351458490:=0
def tw17444066706613973289:=0
def tw237276957697360979:=0
def tw6030537660003534258:=0
def tw10904365116346639870:=0
def tw4577636559912014085:=0
def tw4761079387932495431:=0
def tw11924320359582354692:=0
def tw3272912848352276020:=0
def tw7959322954926525063:=0
def tw11367689845802662856:=0
def tw6500174567303978824:=0
def tw14038059545592366814:=0
def tw13892430903517357075:=0
def tw10507261138351131037:=0
def tw981295309721366864:=0
def tw15795938736788389948:=0
def tw10045375534119815931:=0
def tw1901207097384700035:=0
def tw7158041201749317655:=0
def tw376234343220151197:=0
def tw3725613795550082524:=0
def tw14697661997072048579:=0
def tw12774117822105376086:=0
def tw15308903425395382885:=0
def tw4133871764694644324:=0
def tw6680527443841365381:=0
def tw16911331398040500840:=0
def tw8655824438038795867:=0
def tw14373752334356995831:=0
def tw6503812285289028167:=0
def tw7614684487806209749:=0
def tw5380516029465445205:=0
def tw2533664465773773459:=0
def tw204799202831437390:=0
def tw13379198824449163659:=0
def tw15765963776970082766:=0
def tw11598859872647043783:=0
def tw16906853568555854439:=0
def tw10335001959717546637:=0
def tw17204234982062238177:=0
def tw16780027937932109860:=0
def tw17925233246226677225:=0
def tw6571897164563523673:=0
def tw4214896818358094308:=0
def tw1349693880317189561:=0
def tw5244412127248113419:=0
def tw10303598767812008394:=0
def tw4525744761527975370:=0
def tw2528841252615559593:=0
def tw7415341470686183277:=0
def tw2103926669335202708:=0
def tw5566577364409033033:=0
def tw2400967029064445746:=0
def tw8968585698801170207:=0
def tw13147469776999008883:=0
def tw133173232181172176:=0
def tw6387140331541002055:=0
def tw12607824195793514264:=0
def tw4543818737376331446:=0
def tw815987078862446025:=0
def tw5604570592389447194:=0
def tw9801864750344720422:=0
def tw14237885639100362178:=0
def tw3482825265093490618:=0
def tw2682859331747134543:=0
def tw568172818926694170:=0
def tw9362460953885591588:=0
def tw9355082213729079117:=0
def tw16995659055275932616:=0
def tw7723669374421701480:=0
def tw7527766470265688393:=0
def tw3996862894156645530:=0
def tw14520837475367764068:=0
def tw5079056344756388849:=0
def tw17629818062943634622:=0
def tw5983447569440638901:=0
def tw940862254710018474:=0
def tw18311459589478224112:=0
def tw17335815178703444321:=0
def tw17519090536496853057:=0
def tw15000520720304580165:=0
def tw17365867161137315080:=0
def tw10636147739362189297:=0
def tw8872952019076842990:=0
def tw11563815990221983049:=0
def tw8791510787636260379:=0
def tw14979353237380736031:=0
def tw17382617688761863916:=0
def tw16858973137693941904:=0
def tw877013291802924227:=0
def tw8411167700665218896:=0
def tw1343874743246292452:=0
def tw7346003286963753831:=0
def tw6164457261624737190:=0
def tw12911451234185812697:=0
def tw16084633288368745893:=0
def tw9520171571368210026:=0
def tw10639285994956007224:=0
def tw17026064447011168938:=0
def tw10352550795164679110:=0
def tw8016106748542871470:=0
def tw13918748265934336576:=0
def tw17290481446068350933:=0
def tw6341277973128292202:=0
def tw10408216589042606980:=0
def tw5294184141833393188:=0
def tw11751268267921645061:=0
def tw3623259735935916106:=0
def tw2621838645905599685:=0
def tw12870588262034516880:=0
def tw8814892479876795202:=0
def tw17453351014998599611:=0
def tw9999239962609662869:=0
def tw15085544168327833775:=0
def tw17130438524960129962:=0
def tw12831405372007125774:=0
def tw14769959405730309382:=0
def tw18184818092281063236:=0
def tw14175537047567223137:=0
def tw6915341914716209014:=0
def tw10840069953340257265:=0
def tw5430342457541566219:=0
def tw9314172594296886824:=0
def tw138687498605363417:=0
def tw13716732620880396113:=0
def tw8288074973237655317:=0
def tw5621897019726339309:=0
def tw7404016242780441622:=0
def tw15600369128304044251:=0
def tw16726532352021667934:=0
def tw15863564047911495277:=0
def tw7803101374892448048:=0
def tw1739896705513458825:=0
def tw3602112951168671862:=0
def tw2501774348310367430:=0
def tw8506668612244003425:=0
def tw13289240212174131243:=0
def tw3473720093805668231:=0
def tw6003276418171107295:=0
def tw790467630652187147:=0
def tw6632448529718266154:=0
def tw13455064590862700850:=0
def tw14931182528229708360:=0
def tw2756180328528128746:=0
def tw6218327415522125136:=0
def tw6800542352599108009:=0
def tw11407328508597663868:=0
def tw667996626894375677:=0
def tw6592370997854358900:=0
def tw6143079143839481130:=0
def tw11228874547423340145:=0
def tw17106629497039678033:=0
def tw12645503435689685160:=0
def tw17835531715529363525:=0
def tw1701191255948571197:=0
def tw7601556489919685936:=0
def tw4992440135522662460:=0
def tw850029515463225171:=0
def tw5686127626717243028:=0
def tw4514569604486397678:=0
def tw10011321712546535140:=0
def tw2081933617403757911:=0
def tw13030259679228400965:=0
def tw15921983681487486725:=0
def tw1282523597605296577:=0
def tw4757080277685001194:=0
def tw2824041180432511993:=0
def tw5152808412492515401:=0
def tw18315972286173085721:=0
def tw10519064829042597604:=0
def tw3298571533458650816:=0
def tw16123665014327838319:=0
def tw4818762990192747272:=0
def tw17095503096879168181:=0
def tw7487929598836087252:=0
def tw4735402926465280424:=0
def tw16727357150062036009:=0
def tw16784492480840047685:=0
def tw1738316865887820752:=0
def tw5564770319655404107:=0
def tw1013484590343424204:=0
def tw4800255559109582154:=0
def tw4108752421890854137:=0
def tw8193571858363085364:=0
def tw8575925772526984235:=0
def tw8298067812357140911:=0
def tw7788054817861470266:=0
def tw4745505648493546798:=0
def tw14746681339176616542:=0
def tw3353152637512445462:=0
def tw6854170332359234194:=0
def tw7435164607242379228:=0
def tw11163354620066539301:=0
def tw4787906233106262768:=0
def tw14612549394412729814:=0
def tw16340069406952582180:=0
def tw4435768094466939024:=0
def tw6444386414271275691:=0
def tw15862252126920699602:=0
def tw5774775547077217249:=0
def tw10560283243966543647:=0
def tw5741864751562850405:=0
def tw12456624751723134185:=0
def tw2482809406355624120:=0
def tw13213471963225765569:=0
def tw3458361698698020849:=0
def tw1959440369339998874:=0
def tw17902966540656150844:=0
def tw11876944478375902580:=0
def tw4295222922107326306:=0
def tw13601111995263437612:=0
def tw16046935118321633838:=0
def tw9647075156821925549:=0
def tw16111596796811426906:=0
def tw6878850596409382398:=0
def tw8018937911599696774:=0
def tw10497494393915921981:=0
def tw13973582623296396132:=0
def tw9533994370110217575:=0
def tw15494482490437932847:=0
def tw6440595842186571116:=0
def tw17935103700861709496:=0
def tw11223797931232200487:=0
def tw5133276498597419827:=0
def tw2300422759510734958:=0
def tw13304918205969246284:=0
def tw1703868181197011205:=0
def tw17224963833879252510:=0
def tw7118713527489158909:=0
def tw59654790438755458:=0
def tw8836940949131131843:=0
def tw11075452785278274541:=0
def tw3811466610948111482:=0
def tw10170294080541842512:=0
def tw306070485523418993:=0
def tw895839720004805148:=0
def tw4290282150215862287:=0
def tw14977207512891533638:=0
def tw16767320826495969583:=0
def tw7832461952958830215:=0
def tw8940196206804279468:=0
def tw13701092365314478226:=0
def tw10495100986541758647:=0
def tw12812280195866141313:=0
def tw9314449911992634649:=0
def tw9504384652560791704:=0
def tw14991666269627141526:=0
def tw9076647214923165602:=0
def tw4877943558372412450:=0
def tw11928836326805921814:=0
def tw364599507461015975:=0
def tw15257815853753007583:=0
def tw17442639017591081372:=0
def tw18087300177718966768:=0
def tw3458039577086640277:=0
def tw1629903854032405581:=0
def tw15849068742190523399:=0
def tw1269193871905526240:=0
def tw16339230778413802135:=0
def tw16480210395718395436:=0
def tw1993742950097946566:=0
def tw10265355547575636501:=0
def tw8558733271168826002:=0
def tw11156206773488501394:=0
def tw11936397224367105297:=0
def tw15389568226578142440:=0
def tw13504270402057459563:=0
def tw14574478712379579916:=0
def tw1268088681454728046:=0
def tw16440907101886325090:=0
def tw13950421091689071007:=0
def tw6617463985238937274:=0
def tw6777582309447027043:=0
def tw3318660583885299710:=0
def tw16058685541699712785:=0
def tw1648105919264701496:=0
def tw5203462359712948638:=0
def tw4309710389509654797:=0
def tw5794289485173146197:=0
def tw14978439861929560938:=0
def tw7731931559364423598:=0
def tw3953011490893997053:=0
def tw17692414872933714215:=0
def tw9858236149425626618:=0
def tw721128151677921850:=0
def tw14822858056483563995:=0
def tw9939730873215617502:=0
def tw11575625142343773595:=0
def tw3528246269928983031:=0
def tw8662417846959686880:=0
def tw4386965934853997909:=0
def tw11450975251782433657:=0
def tw16465182108051953491:=0
def tw16030273490094602425:=0
def tw5848569981946729581:=0
def tw6636623336854469705:=0
def tw1531851830689243226:=0
def tw1545481487834280639:=0
def tw9458955897708551348:=0
def tw15061568061597073934:=0
def tw1578749992712029918:=0
def tw12671320603642052109:=0
def tw10894730957274523165:=0
def tw3380792297850206930:=0
def tw9304000750769531306:=0
def tw14448719237374939706:=0
def tw6190095858923962300:=0
def tw4433918384865055042:=0
def tw929642209637564721:=0
def tw4930080359396605267:=0
def tw7551654733579465883:=0
def tw14581274446158822053:=0
def tw15140806409333488950:=0
def tw13721182616110745551:=0
def tw5663846852677798071:=0
def tw8234872918004638567:=0
def tw10243567950921106206:=0
def tw15399465872482030308:=0
def tw1804453259436303097:=0
def tw11063383452937628078:=0
def tw5636416892894611340:=0
def tw4381404945733317522:=0
def tw17560095101287823565:=0
def tw11963509662267342700:=0
end PySem.W.Fast
set_option compiler.extract_closed false
set_option Elab.async false
set_option linter.all false
set_option maxRecDepth 100000
namespace L2
open PySem PySem.Spec PyProof.Rows
abbrev Key:=Sum Int Str
def q7J:Key->Value->Bool
 | .inl k,v=>Value.isInt k v
 | .inr x,v=>Value.isStrOf x v
def keyH (w:World):Key->Int
 | .inl k=>hashInt k
 | .inr x=>hashStr w x
theorem q0g:∀{k:Key} {v:Value},q7J k v=true->(∃i t,k=Sum.inl i/\v=Value.int i t)\/(∃x t,k=Sum.inr x/\v=Value.str x t)
 | .inl i,v,h=>by
  obtain⟨t,e⟩:=Value.isInt_shape (k:=i) (v:=v) h
  exact .inl ⟨i,t,rfl,e⟩
 | .inr x,v,h=>by
  obtain⟨t,e⟩:=Value.isStrOf_shape (x:=x) (v:=v) h
  exact .inr ⟨x,t,rfl,e⟩
theorem q8V (i:Int)(t:Tok):q7J (.inl i) (.int i t)=true:=by simp[q7J,Value.isInt]
theorem q8U (x:Str)(t:Tok):q7J (.inr x) (.str x t)=true:=by simp[q7J,Value.isStrOf]
theorem key_ll (a b:Int):decide ((Sum.inl a:Key)=Sum.inl b)=(a==b):=by
 by_cases e:a=b
 ·subst e;simp
 ·have h:¬(Sum.inl a:Key)=Sum.inl b:=fun q=>e (Sum.inl.inj q)
  rw[zq h]
  exact(beq_eq_false_iff_ne.mpr e).symm
theorem key_rr (a b:Str):decide ((Sum.inr a:Key)=Sum.inr b)=decide (a=b):=by
 by_cases e:a=b
 ·subst e;simp
 ·have h:¬(Sum.inr a:Key)=Sum.inr b:=fun q=>e (Sum.inr.inj q)
  rw[zq h,zq e]
theorem key_lr (a:Int)(b:Str):decide ((Sum.inl a:Key)=Sum.inr b)=false:=zq (fun q=>nomatch q)
theorem key_rl (a:Str)(b:Int):decide ((Sum.inr a:Key)=Sum.inl b)=false:=zq (fun q=>nomatch q)
def q0N (prog:Program)(w:World):PySem.KeyKind prog w Key where
 is:=q7J
 hash:=keyH w
 inj:=fun v a b ha hb=>by
  rcases q0g ha with⟨i,t,rfl,rfl⟩|⟨x,t,rfl,rfl⟩
  ·rcases q0g hb with⟨j,u,rfl,e⟩|⟨y,u,rfl,e⟩
   ·injection e with e1 _;rw[e1]
   ·exact nomatch e
  ·rcases q0g hb with⟨j,u,rfl,e⟩|⟨y,u,rfl,e⟩
   ·exact nomatch e
   ·injection e with e1 _;rw[e1]
 byValue:=fun k v h=>by
  rcases q0g h with⟨i,t,rfl,rfl⟩|⟨x,t,rfl,rfl⟩<;>rfl
 pyHash:=fun hv h=>by
  rcases q0g hv with⟨i,t,rfl,rfl⟩|⟨x,t,rfl,rfl⟩
  ·exact wpAny_pyHash_int h
  ·exact wpAny_pyHash_str h
 eqBool:=fun hu hv h=>by
  rcases q0g hu with⟨i,t,rfl,rfl⟩|⟨x,t,rfl,rfl⟩
  ·rcases q0g hv with⟨j,u,rfl,rfl⟩|⟨y,u,rfl,rfl⟩
   ·rw [key_ll] at h;exact wpAny_eqBool_int h
   ·rw [key_lr] at h;exact SeqAt.EqAt.int_str i t y u _ _ _ _ h
  ·rcases q0g hv with⟨j,u,rfl,rfl⟩|⟨y,u,rfl,rfl⟩
   ·rw [key_rl] at h;exact SeqAt.EqAt.str_int x t j u _ _ _ _ h
   ·rw [key_rr] at h;exact wpAny_eqBool_str h
 «strs» :=fun k x t v h=>by
  rcases q0g h with⟨i,u,rfl,e⟩|⟨y,u,rfl,e⟩
  ·exact nomatch e
  ·injection e with e1 _
   subst e1
   cases v<;>rfl
theorem q6u (prog:Program)(w:World)(i:Int)(t:Tok):(q0N prog w).is (.inl i) (.int i t)=true:=q8V i t
theorem q6t (prog:Program)(w:World)(x:Str)(t:Tok):(q0N prog w).is (.inr x) (.str x t)=true:=q8U x t
inductive V where
 |non|bl (b:Bool)|int (i:Int)|str (x:Str)|byt (b:Array UInt8)|flt (b:UInt64)|ref (a:Addr)|ty (n:String)
 deriving DecidableEq
def RelV:V->Value->Prop
 | .non,u=>u=Value.none
 | .bl b,u=>u=Value.bool b
 | .int i,u=>∃t,u=Value.int i t
 | .str x,u=>∃t,u=Value.str x t
 | .byt b,u=>∃t,u=Value.bytes b t
 | .flt b,u=>∃t,u=Value.float b t
 | .ref a,u=>u=Value.ref a
 | .ty n,u=>u=Value.type n
abbrev Vals:List V->List Value->Prop:=Paired RelV
theorem Vals.length {xs:List V}{us:List Value}(r:Vals xs us):xs.length=us.length:=Paired.length r
theorem Vals.get:∀{xs:List V} {us:List Value} {i:Nat} {x:V},Vals xs us->xs[i]? =some x->∃u,us[i]? =some u/\RelV x u
 |_,_,_,_,.nil,e=>by simp at e
 |_,_,0,_,.cons r _,e=>by simp at e;subst e;exact⟨_,rfl,r⟩
 |_,_,i+1,x,.cons _ t,e=>by
  obtain⟨u,h1,h2⟩:=Vals.get (i:=i) (x:=x) t (by simpa using e)
  exact⟨u,by simpa using h1,h2⟩
theorem Vals.set {x:V}{u:Value}(r:RelV x u):∀{xs:List V} {us:List Value} (i:Nat),Vals xs us->Vals (xs.set i x) (us.set i u)
 |_,_,_,.nil=> .nil
 |_,_,0,.cons _ t=> .cons r t
 |_,_,i+1,.cons q t=> .cons q (Vals.set r i t)
theorem Vals.append:∀{xs ys:List V} {us ws:List Value},Vals xs us->Vals ys ws->Vals (xs++ys) (us++ws)
 |_,_,_,_,.nil,s=>s
 |_,_,_,_,.cons r t,s=> .cons r (Vals.append t s)
theorem Vals.take:∀{xs:List V} {us:List Value} (n:Nat),Vals xs us->Vals (xs.take n) (us.take n)
 |_,_,0,_=> .nil
 |_,_,_+1,.nil=> .nil
 |_,_,n+1,.cons r t=> .cons r (Vals.take n t)
theorem Vals.drop:∀{xs:List V} {us:List Value} (n:Nat),Vals xs us->Vals (xs.drop n) (us.drop n)
 |_,_,0,r=>r
 |_,_,_+1,.nil=> .nil
 |_,_,n+1,.cons _ t=>Vals.drop n t
def RelO:Option V->Option Value->Prop
 |some v,some u=>RelV v u
 |none,none=>True
 |_,_=>False
def KV {κ:Type}:List (κ×V)->List (κ×Value)->Prop:=Paired fun(p:κ×V) (q:κ×Value)=>p.1=q.1/\RelV p.2 q.2
def kV:Key->V
 | .inl i=> .int i
 | .inr x=> .str x
inductive HO where
 /-- a list -/
 |lst (xs:List V)
 /-- a tuple (never changes) -/
 |tup (xs:List V)
 /-- a dict whose keys are ints and texts;one whose keys are tuples of ints and texts (the empty one is both) -/
 |dK (kvs:List (Key×V))|dT (kvs:List (List Key×V))
 /-- a set of ints: its members,its size -/
 |set (S:Int->Bool) (n:Nat)
 /-- an instance of the class at C,its dict at dx,its attributes -/
 |ins (C dx:Addr) (fs:List (Str×V))
 /-- the dict of the instance at x -/
 |own (x:Addr)
 /-- the dict of an exception -/
 |xd (fs:List (Str×V))
 /-- a bound method,f of x -/
 |met (f x:Addr)
 /-- a range object lo,lo+1,.. below hi -/
 |rng (lo hi:Int)
 /-- a thing that is known to the object (the script;a dict while a loop walks it):read,never written while it is so -/
 |frz (o:Obj) (u:HO)
 /-- a code object's table -/
 |tbl (ps:Array Value)
 /-- any other thing,by what is true of its one object (a def of one's own: SetO a S n:=HO.ext fun h=> ..) -/
 |ext (φ:Heap->Prop)
abbrev Hp:=Addr->Option HO
def upd (H:Hp)(a:Addr)(o:HO):Hp:=fun b=>if b=a then some o else H b
theorem qe {H:Hp}{a:Addr}{o:HO}:upd H a o a=some o:=by unfold upd;rw[if_pos rfl]
theorem qq {H:Hp}{a b:Addr}{o:HO}(h:b≠a):upd H a o b=H b:=by unfold upd;rw[if_neg h]
theorem q2l {H:Hp}{a:Addr}{o u:HO}:upd (upd H a o) a u=upd H a u:=by
 funext b;unfold upd;split<;>rfl
theorem q6s {H:Hp}{a b:Addr}{o u:HO}(h:H a=some o)(h':H b=some u)(d:o≠u):a≠b:=by
 intro e;subst e;rw[h] at h';exact d (zC h')
theorem qv {H:Hp}{a b:Addr}{o:HO}(h:H a=some o)(h':H b=none):a≠b:=by
 intro e;subst e;rw[h] at h';cases h'
section
variable (P:Program)(w:World)
def q06 (H:Hp)(h:Heap)(a:Addr):HO->Prop
 | .lst xs=>xs.length<=sizeLine/\∃(its:List Value) (n:Nat),Vals xs its/\h.get? a=some {cls:= .type "list",data:= .seq its.toArray n}
 | .tup xs=>xs.length<=sizeLine/\∃its:List Value,Vals xs its/\IsTup h a its.toArray
 | .dK kvs=>kvs.length<=sizeLine/\(a==sysModules)=false/\∃vs,KV kvs vs/\h.DictOf (q0N P w) a vs
 | .dT kvs=>kvs.length<=sizeLine/\(a==sysModules)=false/\∃xs:List (List Key×Addr×Value),
   Paired (fun(p:List Key×V) (q:List Key×Addr×Value)=>p.1=q.1/\H q.2.1=some (.tup (p.1.map kV))/\RelV p.2 q.2.2) kvs xs/\
   ∃o es ep,h.get? a=some o/\o.ExactDict/\o.data= .dict es ep/\es.toList=xs.map (entryOfKey (tupleKind (q0N P w)))/\(xs.map (·.1)).Nodup
 | .set S n=>h.SetOf (intKind P w) a S n
 | .ins C dx fs=>H dx=some (.own a)/\fs.length<=1000/\dx≠a/\h.get? a=some (PySem.W.instObj C dx)/\
   ∃mA,h.Ns1 dx mA/\(∀f,RelO (fs.lookup f) (mA f))/\PySem.Within mA (fs.map (·.1))
 | .own _=>∃o,h.get? a=some o
 | .xd fs=>∃mA,h.Ns1 a mA/\∀f,RelO (fs.lookup f) (mA f)
 | .rng lo hi=>∃t u v,h.get? a=some {cls:= .type "range",data:= .fields #[.int lo t,.int hi u,.int 1 v]}
 | .frz o u=>h.get? a=some o/\q06 H h a u
 | .tbl ps=>h.get? a=some {cls:= .none,data:= .fields ps}
 | .met f x=>h.get? a=some (PySem.W.methodObj (.ref f) (.ref x))
 | .ext φ=>φ h/\(∃o,h.get? a=some o)/\∀h1 h2:Heap,φ h1->(∀o,h1.get? a=some o->h2.get? a=some o)->φ h2
def HOk (H:Hp)(h:Heap):Prop:=∀a o,H a=some o->q06 P w H h a o
end
section
variable {P:Program}{w:World}{H H':Hp}{h h':Heap}{a:Addr}{o:HO}
theorem q06.lt (x:q06 P w H h a o):a<h.objs.size:=by
 cases o with
 |lst xs=>obtain⟨_,_,_,_,e⟩:=x;exact zv e
 |tup xs=>obtain⟨_,_,_,p⟩:=x;exact p.lt
 |dK kvs=>obtain⟨_,_,_,_,o,_,_,e,_⟩:=x;exact zv e
 |dT kvs=>obtain⟨_,_,_,_,o,_,_,e,_⟩:=x;exact zv e
 |set S n=>obtain⟨o,_,_,_,e,_⟩:=x;exact zv e
 |ins C dx fs=>obtain⟨_,_,_,e,_⟩:=x;exact zv e
 |own y=>obtain⟨_,e⟩:=x;exact zv e
 |xd fs=>obtain⟨_,⟨_,_,_,e,_⟩,_⟩:=x;exact zv e
 |rng lo hi=>obtain⟨_,_,_,e⟩:=x;exact zv e
 |frz ob u=>obtain⟨e,_⟩:=x;exact zv e
 |tbl ps=>exact zv (show h.get? a=some _ from x)
 |met f y=>exact zv (show h.get? a=some _ from x)
 |ext φ=>obtain⟨_,⟨_,e⟩,_⟩:=x;exact zv e
theorem Paired.mapP {α β:Type}{F G:α->β->Prop}:∀{l₁:List α} {l₂:List β},Paired F l₁ l₂->(∀a b,F a b->G a b)->Paired G l₁ l₂
 |_,_,.nil,_=> .nil
 |_,_,.cons r t,f=> .cons (f _ _ r) (Paired.mapP t f)
theorem q06.stay (x:q06 P w H h a o)(k:∀b u,(b=a\/H b=some (.own a))->h.get? b=some u->h'.get? b=some u)
  (ho:∀b,H b=some (.own a)->H' b=some (.own a))(ht:∀b xs,H b=some (.tup xs)->H' b=some (.tup xs)):q06 P w H' h' a o:=by
 induction o with
 |lst xs=>obtain⟨z,its,n,r,e⟩:=x;exact⟨z,its,n,r,k _ _ (.inl rfl) e⟩
 |tup xs=>obtain⟨z,its,r,ob,e,c⟩:=x;exact⟨z,its,r,ob,k _ _ (.inl rfl) e,c⟩
 |dK kvs=>obtain⟨z,y,vs,r,ob,es,ep,e,c⟩:=x;exact⟨z,y,vs,r,ob,es,ep,k _ _ (.inl rfl) e,c⟩
 |dT kvs=>
  obtain⟨z,y,xs,r,ob,es,ep,e,c⟩:=x
  exact⟨z,y,xs,Paired.mapP r fun p q z=>⟨z.1,ht _ _ z.2.1,z.2.2⟩,ob,es,ep,k _ _ (.inl rfl) e,c⟩
 |set S n=>obtain⟨ob,es,ep,t,e,c⟩:=x;exact⟨ob,es,ep,t,k _ _ (.inl rfl) e,c⟩
 |ins C dx fs=>
  obtain⟨d,z,ne,e,mA,⟨od,es,ep,e2,c⟩,r⟩:=x
  exact⟨ho _ d,z,ne,k _ _ (.inl rfl) e,mA,⟨od,es,ep,k _ _ (.inr d) e2,c⟩,r⟩
 |own y=>obtain⟨ob,e⟩:=x;exact⟨ob,k _ _ (.inl rfl) e⟩
 |xd fs=>obtain⟨mA,⟨od,es,ep,e,c⟩,r⟩:=x;exact⟨mA,⟨od,es,ep,k _ _ (.inl rfl) e,c⟩,r⟩
 |rng lo hi=>obtain⟨t,u,v,e⟩:=x;exact⟨t,u,v,k _ _ (.inl rfl) e⟩
 |frz ob u ih=>obtain⟨e,q⟩:=x;exact⟨k _ _ (.inl rfl) e,ih q⟩
 |tbl ps=>
  have e:h.get? a=some {cls:= .none,data:= .fields ps}:=x
  show h'.get? a=some {cls:= .none,data:= .fields ps}
  exact k a _ (.inl rfl) e
 |met f y=>
  have e:h.get? a=some (PySem.W.methodObj (.ref f) (.ref y)):=x
  show h'.get? a=some (PySem.W.methodObj (.ref f) (.ref y))
  exact k a _ (.inl rfl) e
 |ext φ=>obtain⟨p,⟨o,e⟩,st⟩:=x;exact⟨st _ _ p fun o q=>k _ _ (.inl rfl) q,⟨o,k _ _ (.inl rfl) e⟩,st⟩
theorem HOk.lt (x:HOk P w H h)(e:H a=some o):a<h.objs.size:=(x a o e).lt
theorem HOk.fresh (x:HOk P w H h)(e:h.objs.size<=a):H a=none:=by
 cases q:H a with
 |none=>rfl
 |some u=>exact absurd (zK (x.lt q) e) (zan _)
theorem HOk.kept (x:HOk P w H h)(k:∀b u,h.get? b=some u->h'.get? b=some u):HOk P w H h':=fun a o e=>
 (x a o e).stay (fun b u _ q=>k b u q) (fun _ q=>q) fun _ _ q=>q
theorem HOk.laid (x:HOk P w H h)(k:∀b u,h.get? b=some u->h'.get? b=some u)(hp:h.objs.size<=a)(new:q06 P w (upd H a o) h' a o):HOk P w (upd H a o) h':=fun b u e=>by
 have hn:=x.fresh hp
 by_cases hb:b=a
 ·subst hb;rw[qe] at e;cases e;exact new
 ·rw [qq hb] at e
  exact(x b u e).stay (fun c v _ q=>k c v q) (fun c q=>by rw[qq (qv q hn)];exact q) fun c xs q=>by rw[qq (qv q hn)];exact q
end
def Rd (H:Hp)(a:Addr)(u:HO):Prop:=H a=some u\/∃o,H a=some (.frz o u)
theorem Rd.ok {P:Program}{w:World}{H:Hp}{h:Heap}{a:Addr}{u:HO}(r:Rd H a u)(x:HOk P w H h):q06 P w H h a u:=by
 rcases r with r|⟨o,r⟩
 ·exact x a u r
 ·obtain ⟨_,q⟩:=x a _ r
  exact q
def Mut:Option HO->Prop
 |some (.lst _)=>True
 |some (.dK _)=>True
 |some (.dT _)=>True
 |some (.set _ _)=>True
 |some (.ins _ _ _)=>True
 |some (.ext _)=>True
 |_=>False
section
variable {P:Program}{w:World}{H:Hp}{h h':Heap}{x e:Addr}{o':HO}
theorem HOk.write (ok:HOk P w H h)(mu:Mut (H x))(he:e=x\/H e=some (.own x))(k:∀b u,b≠e->h.get? b=some u->h'.get? b=some u)(heo:∃u,h'.get? e=some u)
  (new:q06 P w (upd H x o') h' x o'):HOk P w (upd H x o') h':=fun b u q=>by
 have nown:∀c y,H c=some (.own y)->c≠x:=fun c y r z=>by subst z;rw[r] at mu;exact mu
 have ntup:∀c xs,H c=some (.tup xs)->c≠x:=fun c xs r z=>by subst z;rw[r] at mu;exact mu
 by_cases hb:b=x
 ·subst hb;rw[qe] at q;cases q;exact new
 ·rw [qq hb] at q
  by_cases hbe:b=e
  ·have q':H b=some (.own x):=by
    rcases he with z|z
    ·exact absurd (hbe.trans z) hb
    ·rw [hbe];exact z
   rw[q] at q';cases q'
   obtain⟨v,hv⟩:=heo
   exact⟨v,by rw[hbe];exact hv⟩
  ·refine (ok b u q).stay (fun c v hc r=>k c v ?_ r) (fun c r=>by rw[qq (nown c b r)];exact r) fun c xs r=>by rw[qq (ntup c xs r)];exact r
   rcases hc with rfl|hc
   ·exact hbe
   ·rintro rfl
    rcases he with z|z
    ·exact nown c b hc z
    ·rw [hc] at z;cases z;exact hb rfl
end
structure Un (fs ex:List Addr)(H H':Hp)(h h':Heap):Prop where
 keep:∀b o,h.get? b=some o->H b=none->b∉fs->b∉ex->h'.get? b=some o
 slot:∀b o,h.get? b=some o->H b=none->b∈fs->b∉ex->∃sl,h'.get? b=some {o with slots:=sl}
 free:∀b o,h.get? b=some o->H b=none->b∉ex->H' b=none
 there:∀b o,h.get? b=some o->b∉ex->∃o',h'.get? b=some o'
 tups:∀b xs,H b=some (.tup xs)->H' b=some (.tup xs)
 frzs:∀b o u,H b=some (.frz o u)->H' b=some (.frz o u)
 tbls:∀b ps,H b=some (.tbl ps)->∃more,H' b=some (.tbl (ps++more))
section
variable {fs fs' ex ex':List Addr}{H H1 H2:Hp}{h h1 h2 h':Heap}{a x e:Addr}{o:HO}
theorem Un.any (u:Un fs ex H H1 h h1){b:Addr}{ob:Obj}(q:h.get? b=some ob)(n:H b=none)(hx:b∉ex):∃sl,h1.get? b=some {ob with slots:=sl}:=by
 by_cases hb:b∈fs
 ·exact u.slot b ob q n hb hx
 ·exact ⟨ob.slots,u.keep b ob q n hb hx⟩
theorem Un.kept (k:∀b u,h.get? b=some u->h'.get? b=some u):Un fs ex H H h h':=
 ⟨fun b ob q _ _ _=>k b ob q,fun b ob q _ _ _=>⟨ob.slots,k b ob q⟩,fun _ _ _ n _=>n,fun b ob q _=>⟨ob,k b ob q⟩,fun _ _ q=>q,fun _ _ _ q=>q,fun _ ps q=>⟨#[],by rw[q];simp⟩⟩
theorem Un.refl:Un fs ex H H h h:=Un.kept fun _ _ q=>q
theorem Un.laid (k:∀b u,h.get? b=some u->h'.get? b=some u)(hp:h.objs.size<=a)(hn:H a=none):Un fs ex H (upd H a o) h h' where
 keep:=fun b u q _ _ _=>k b u q
 slot:=fun b u q _ _ _=>⟨u.slots,k b u q⟩
 free:=fun b u q n _=>by rw[qq (zF (zK (zv q) hp))];exact n
 there:=fun b u q _=>⟨u,k b u q⟩
 tups:=fun b xs q=>by rw[qq (qv q hn)];exact q
 frzs:=fun b u xs q=>by rw[qq (qv q hn)];exact q
 tbls:=fun b ps q=>⟨#[],by rw[qq (qv q hn),q];simp⟩
theorem Un.write (mu:Mut (H x))(he:e=x\/H e=some (.own x))(k:∀b u,b≠e->h.get? b=some u->h'.get? b=some u)(heo:∃u,h'.get? e=some u):Un fs ex H (upd H x o) h h':=by
 have hx:∀b,H b=none->b≠x:=fun b n z=>by subst z;rw[n] at mu;exact mu
 have hb:∀b,H b=none->b≠e:=fun b n z=>by
  subst z
  rcases he with r|r
  ·exact hx b n r
  ·rw [n] at r;cases r
 have hm:∀b u,H b=some u->¬Mut (some u)->b≠x:=fun b u q nm z=>by subst z;rw[q] at mu;exact nm mu
 refine⟨fun b u q n _ _=>k b u (hb b n) q,fun b u q n _ _=>⟨u.slots,k b u (hb b n) q⟩,fun b u q n _=>by rw[qq (hx b n)];exact n,fun b u q _=>?_,
  fun b xs q=>by rw[qq (hm b _ q fun z=>z)];exact q,fun b u xs q=>by rw[qq (hm b _ q fun z=>z)];exact q,fun b ps q=>⟨#[],by rw[qq (hm b _ q fun z=>z),q];simp⟩⟩
 by_cases hbe:b=e
 ·subst hbe;exact heo
 ·exact ⟨u,k b u hbe q⟩
end
def trk (h:Heap)(H:Hp):List Addr:=(List.range h.objs.size).filter fun a=>(H a).isSome
def hidT (h:Heap)(H:Hp):Heap:=PySem.W.hideAll h (trk h H)
theorem q94 (h:Heap)(H:Hp):(hidT h H).objs.size=h.objs.size:=PySem.W.hideAll_size _ _
theorem qaG {h:Heap}{H:Hp}{b:Addr}{o:Obj}(e:h.get? b=some o)(n:H b=none):(hidT h H).get? b=some o:=
 za7 _ e fun hm=>by
  have q:(H b).isSome=true:=(zbG.mp hm).2
  rw[n] at q;simp at q
theorem qci {h:Heap}{H:Hp}{b:Addr}{o:Obj}(e:(hidT h H).get? b=some o):h.get? b=some o/\H b=none:=by
 have e':h.get? b=some o:=zb0 (trk h H) e
 refine⟨e',?_⟩
 cases q:H b with
 |none=>rfl
 |some x=>
  have hm:b∈trk h H:=zbG.mpr ⟨za2.mpr (zv e'),by simp[q]⟩
  have z:(hidT h H).get? b=none:=zbj (trk h H) hm
  rw[z] at e;cases e
def qcW (g h:Heap)(L:Addr):List (Addr×Obj):=(List.range h.objs.size).filterMap fun a=>if a=L\/(g.get? a).isSome=true then none else(h.get? a).map fun o=>(a,o)
def rest (g h:Heap)(L d:Addr):List (Addr×Obj):=(qcW g h L).filter fun p=>decide (p.1≠d)
structure Mod (K:W.Frag)(mg:Str->Option Value)(base:Heap):Prop where
 kin:K.In base
 glob:base.Ns mainGlobals mg
 blt:∃mb,base.Ns builtinsNs mb/\∀x:Str,x≠"__name__"->mb x=bootBuiltins x
 nolimit:base.NoLimit
structure Cx where
 prog:Program
 w:World
 K:W.Frag
 mg:Str->Option Value
 base:Heap
 A:Around
 N:List Str
 s₀:Shared
 H₀:Hp
 env:Env
 outer:List Env
 stack:List Env
 ex:List Addr
 fn:Str->Bool
 calm:Bool
 pn:List (Addr×Obj)
 xe:Value->Shared->Prop
def frs (l:List Env):List Addr:=l.filterMap (·.frame)
abbrev Cx.fs (X:Cx):List Addr:=frs X.outer
def Vis (sc:Scope)(x:Str):Prop:=sc.names.lookup x=some .local\/sc.names.lookup x=some .cell\/sc.names.lookup x=some .free
def Loc (sc:Scope)(x:Str):Prop:=sc.names.lookup x=some .local\/sc.names.lookup x=some .cell
def Look (env:Env)(h:Heap)(m:Str->Option Value)(x:Str)(u:Value):Prop:=
 (env.kindOf x=some .local/\m x=some u)\/((env.kindOf x=some .cell\/env.kindOf x=some .free)/\∃c,env.cells.lookup x=some c/\h.IsCell c (some u))
structure Cx.Ok (X:Cx):Prop where
 mod:Mod X.K X.mg X.base
 kind:X.env.scope.kind= .function
 glob:X.env.globals=mainGlobals
 blt:X.env.builtins=builtinsNs
 above:X.s₀.heap.objs.size<=X.env.locals
 inj:∀x y c,X.env.cells.lookup x=some c->X.env.cells.lookup y=some c->x=y
 has:∀x,(X.env.kindOf x=some .cell\/X.env.kindOf x=some .free)->∃c,X.env.cells.lookup x=some c
 cab:∀x c,X.fn x=true->X.env.cells.lookup x=some c->X.s₀.heap.objs.size<=c
 hd:X.calm=true->X.A.handled=none
 frames:X.A.frames=some X.stack
 stk:X.stack=X.outer\/(X.stack=X.env::X.outer/\X.env.frame=some X.env.locals)
 exf:∀b∈X.ex,b≠X.env.locals/\∀x c,X.env.cells.lookup x=some c->c≠b
 bs:∀b o,X.base.get? b=some o->X.s₀.heap.get? b=some o/\X.H₀ b=none
 bsz:X.base.objs.size<=X.s₀.heap.objs.size
 noex:∀b o,X.base.get? b=some o->b∉X.ex
 exfs:∀b∈X.ex,b∉X.fs
 funs:X.s₀.heap.FunFrames X.base X.outer
 frf:∀b∈X.fs,X.H₀ b=none
structure Inv (X:Cx)(pins:List (Addr×Obj))(σ:List (Option V))(H:Hp)(s:Shared):Prop where
 ok:X.Ok
 os:s.os=X.s₀.os
 bare:AllBare s.gens
 base:Un X.fs X.ex X.H₀ H X.s₀.heap s.heap
 loc:∃m,s.heap.Ns X.env.locals m/\∀(i:Nat) (x:Str) (v:V),X.N[i]? =some x->σ[i]? =some (some v)->Vis X.env.scope x->∃u,RelV v u/\Look X.env s.heap m x u
 cell:∀x c,X.env.cells.lookup x=some c->∃v,s.heap.IsCell c v
 free:H X.env.locals=none
 freeC:∀x c,X.env.cells.lookup x=some c->H c=none
 pin:∀p∈X.pn++pins,s.heap.get? p.1=some p.2/\H p.1=none/\p.1≠X.env.locals/\p.1∉X.fs/\∀v,p.2.data≠ .cell v
 hok:HOk X.prog X.w H s.heap
 len:σ.length=X.N.length
section
variable {X:Cx}{pins:List (Addr×Obj)}{σ:List (Option V)}{H H':Hp}{s:Shared}{h':Heap}
theorem Cx.Ok.nofr (ok:X.Ok){b:Addr}{o:Obj}(e:X.base.get? b=some o):b∉X.fs:=fun hb=>by
 have:=(ok.funs.mem hb).1
 rw[e] at this;cases this
theorem Inv.bs (I:Inv X pins σ H s):∀b o,X.base.get? b=some o->s.heap.get? b=some o/\H b=none:=fun b o e=>
 ⟨I.base.keep b o (I.ok.bs b o e).1 (I.ok.bs b o e).2 (I.ok.nofr e) (I.ok.noex b o e),I.base.free b o (I.ok.bs b o e).1 (I.ok.bs b o e).2 (I.ok.noex b o e)⟩
theorem Inv.bk (I:Inv X pins σ H s):∀b o,X.base.get? b=some o->s.heap.get? b=some o:=fun b o e=>(I.bs b o e).1
theorem Inv.mod (I:Inv X pins σ H s):Mod X.K X.mg X.base:=I.ok.mod
theorem Inv.kIn (I:Inv X pins σ H s):X.K.In s.heap:=I.ok.mod.kin.keeps I.bk
theorem Inv.lt (I:Inv X pins σ H s):X.env.locals<s.heap.objs.size:=let ⟨_,hn,_⟩:=I.loc;hn.lt
theorem Inv.sz (I:Inv X pins σ H s):X.s₀.heap.objs.size<=s.heap.objs.size:=zab I.ok.above (Nat.le_of_lt I.lt)
theorem Inv.nofs (I:Inv X pins σ H s){a:Addr}(h:s.heap.objs.size<=a):a∉X.fs:=fun hb=>by
 obtain⟨_,o,ho,_⟩:=I.ok.funs.mem hb
 exact absurd (zK (zv ho) (zab I.sz h)) (zan _)
theorem Inv.cne (I:Inv X pins σ H s):∀x c,X.env.cells.lookup x=some c->c≠X.env.locals:=fun x c e z=>by
 obtain⟨v,o,ho,hd⟩:=I.cell x c e
 obtain⟨m,⟨o',es,ep,ho',hd',_⟩,_⟩:=I.loc
 rw[z,ho'] at ho;cases ho;rw[hd'] at hd;cases hd
theorem Inv.funs (I:Inv X pins σ H s):s.heap.FunFrames X.base X.outer:=by
 have all:∀(l:List Env),(∀b∈frs l,b∈X.fs)->X.s₀.heap.FunFrames X.base l->s.heap.FunFrames X.base l:=by
  intro l
  induction l with
  |nil=>intro _ _;trivial
  |cons env r ih=>
   intro hs hl
   obtain⟨hk,⟨L,o,hf,hn,ho,hd⟩,hr⟩:=hl
   have hL:L∈X.fs:=hs L (by unfold frs;rw[List.filterMap_cons,hf];exact zY)
   obtain⟨sl,e⟩:=I.base.slot L o ho (I.ok.frf L hL) hL fun z=>I.ok.exfs L z hL
   exact⟨hk,⟨L,_,hf,hn,e,hd⟩,ih (fun b hb=>hs b (by unfold frs;rw[List.filterMap_cons,hf];exact zE _ hb)) hr⟩
 exact all X.outer (fun _ hb=>hb) I.ok.funs
theorem Inv.stack (I:Inv X pins σ H s):s.heap.FunFrames X.base X.stack:=by
 rcases I.ok.stk with e|⟨e,hf⟩
 ·rw [e];exact I.funs
 ·rw [e]
  obtain⟨m,hn,_⟩:=I.loc
  refine .cons (by rw[I.ok.kind];decide) hf hn ?_ I.funs
  exact zbH (zab I.ok.bsz I.ok.above)
theorem Inv.stkSub (I:Inv X pins σ H s):∀b∈frs X.stack,b∈X.env.locals::X.fs:=fun b hb=>by
 rcases I.ok.stk with e|⟨e,hf⟩
 ·rw [e] at hb;exact zE _ hb
 ·rw [e] at hb
  unfold frs at hb
  rw[List.filterMap_cons,hf] at hb
  exact hb
theorem Inv.stkFree (I:Inv X pins σ H s):∀b∈frs X.stack,H b=none:=fun b hb=>by
 rcases zG.mp (I.stkSub b hb) with e|hb
 ·rw [e];exact I.free
 ·obtain ⟨_,o,ho,_⟩:=I.ok.funs.mem hb
  exact I.base.free b o ho (I.ok.frf b hb) fun z=>I.ok.exfs b z hb
theorem Inv.step {g':Array GenState}{t':Nat}{d':Drawn}{ch:List Addr}(I:Inv X pins σ H s)
  (hch:∀b∈ch,(b∈X.ex\/X.s₀.heap.objs.size<=b)/\b≠X.env.locals/\(∀x c,X.env.cells.lookup x=some c->c≠b)/\∀p∈X.pn++pins,p.1≠b)
  (keep:∀b o,b≠X.env.locals->b∉X.fs->b∉ch->s.heap.get? b=some o->H b=none->h'.get? b=some o)
  (slot:∀b o,b≠X.env.locals->b∈X.fs->b∉ch->s.heap.get? b=some o->H b=none->∃sl,h'.get? b=some {o with slots:=sl})(free:∀b o,b∉ch->s.heap.get? b=some o->H b=none->H' b=none)
  (there:∀b o,b∉ch->s.heap.get? b=some o->∃o',h'.get? b=some o')
  (tups:∀b xs,H b=some (.tup xs)->H' b=some (.tup xs))(frzs:∀b o u,H b=some (.frz o u)->H' b=some (.frz o u))(tbls:∀b ps,H b=some (.tbl ps)->∃more,H' b=some (.tbl (ps++more)))
  (ns:∀m,s.heap.Ns X.env.locals m->h'.Ns X.env.locals m)(hok:HOk X.prog X.w H' h')(hg:AllBare g'):
  Inv X pins σ H' {s with heap:=h',gens:=g',drawn:=d',toks:=t'}:=by
 have neL:∀b o,X.s₀.heap.get? b=some o->b≠X.env.locals:=fun b o e=>zF (zK (zv e) I.ok.above)
 have neC:∀b o,X.s₀.heap.get? b=some o->b∉X.ex->b∉ch:=fun b o e hx hb=>by
  rcases(hch b hb).1 with z|z
  ·exact hx z
  ·exact absurd (zK (zv e) z) (zan _)
 have cellK:∀x c,X.env.cells.lookup x=some c->∀v,s.heap.IsCell c v->h'.IsCell c v:=fun x c e v ⟨o,ho,hd⟩=>by
  have nch:c∉ch:=fun z=>(hch c z).2.2.1 x c e rfl
  by_cases hc:c∈X.fs
  ·obtain ⟨sl,q⟩:=slot c o (I.cne x c e) hc nch ho (I.freeC x c e)
   exact⟨_,q,hd⟩
  ·exact ⟨o,keep c o (I.cne x c e) hc nch ho (I.freeC x c e),hd⟩
 refine⟨I.ok,I.os,hg,⟨fun b o e n hb hx=>?_,fun b o e n hb hx=>?_,fun b o e n hx=>?_,fun b o e hx=>?_,fun b xs e=>tups b xs (I.base.tups b xs e),fun b o xs e=>frzs b o xs (I.base.frzs b o xs e),fun b ps e=>?_⟩,?_,fun x c e=>?_,?_,fun x c e=>?_,fun p hp=>?_,hok,I.len⟩
 ·exact keep b o (neL b o e) hb (neC b o e hx) (I.base.keep b o e n hb hx) (I.base.free b o e n hx)
 ·obtain ⟨sl,e1⟩:=I.base.slot b o e n hb hx
  obtain⟨sl',e2⟩:=slot b _ (neL b o e) hb (neC b o e hx) e1 (I.base.free b o e n hx)
  exact⟨sl',e2⟩
 ·obtain ⟨o',e1⟩:=I.base.there b o e hx
  exact free b o' (neC b o e hx) e1 (I.base.free b o e n hx)
 ·obtain ⟨o',e1⟩:=I.base.there b o e hx
  exact there b o' (neC b o e hx) e1
 ·obtain ⟨m1,e1⟩:=I.base.tbls b ps e
  obtain⟨m2,e2⟩:=tbls b _ e1
  exact⟨m1++m2,by rw[e2,Array.append_assoc]⟩
 ·obtain ⟨m,hn,hl⟩:=I.loc
  refine⟨m,ns m hn,fun i x v e1 e2 e3=>?_⟩
  obtain⟨u,r,l⟩:=hl i x v e1 e2 e3
  refine⟨u,r,?_⟩
  rcases l with l|⟨k,c,e,z⟩
  ·exact .inl l
  ·exact .inr ⟨k,c,e,cellK x c e _ z⟩
 ·obtain ⟨v,z⟩:=I.cell x c e
  exact⟨v,cellK x c e v z⟩
 ·obtain ⟨m,⟨o,_,_,ho,_⟩,_⟩:=I.loc
  exact free _ o (fun z=>(hch _ z).2.1 rfl) ho I.free
 ·obtain ⟨v,o,ho,hd⟩:=I.cell x c e
  exact free c o (fun z=>(hch c z).2.2.1 x c e rfl) ho (I.freeC x c e)
 ·obtain ⟨e,n,ne,nf,d⟩:=I.pin p hp
  have nch:p.1∉ch:=fun z=>(hch p.1 z).2.2.2 p hp rfl
  exact⟨keep p.1 p.2 ne nf nch e n,free p.1 p.2 nch e n,ne,nf,d⟩
theorem Inv.un {t':Nat}(I:Inv X pins σ H s)(u:Un X.fs [] H H' s.heap h')(hok:HOk X.prog X.w H' h'):Inv X pins σ H' {s with heap:=h',toks:=t'}:=by
 obtain⟨m,⟨o,es,ep,ho,r⟩,_⟩:=id I.loc
 obtain⟨sl,hL⟩:=u.any ho I.free (by simp)
 exact I.step (g':=s.gens) (d':=s.drawn) (ch:=[]) (fun _ z=>nomatch z) (fun b o _ hb _ e n=>u.keep b o e n hb (by simp)) (fun b o _ hb _ e n=>u.slot b o e n hb (by simp)) (fun b o _ e n=>u.free b o e n (by simp)) (fun b o _ e=>u.there b o e (by simp)) u.tups u.frzs u.tbls (fun m' hm=>by
  obtain⟨o',es',ep',ho',r'⟩:=hm
  rw[ho] at ho';cases ho'
  exact⟨_,es',ep',hL,r'⟩) hok I.bare
theorem Inv.call {g':Array GenState}{t':Nat}{d':Drawn}{ch:List Addr}(I:Inv X pins σ H s)(u:Un (frs X.stack) ch H H' s.heap h')(hok:HOk X.prog X.w H' h')(hg:AllBare g')
  (hch:∀b∈ch,(b∈X.ex\/X.s₀.heap.objs.size<=b)/\b≠X.env.locals/\(∀x c,X.env.cells.lookup x=some c->c≠b)/\∀p∈X.pn++pins,p.1≠b):
  Inv X pins σ H' {s with heap:=h',gens:=g',drawn:=d',toks:=t'}:=by
 obtain⟨m,⟨o,es,ep,ho,r⟩,_⟩:=id I.loc
 obtain⟨sl,hL⟩:=u.any ho I.free fun z=>(hch _ z).2.1 rfl
 exact I.step (ch:=ch) hch (fun b o hL hb hc e n=>u.keep b o e n (fun z=>(zG.mp (I.stkSub b z)).elim hL hb) hc) (fun b o _ _ hc e n=>u.any e n hc) (fun b o hc e n=>u.free b o e n hc) (fun b o hc e=>u.there b o e hc) u.tups u.frzs u.tbls (fun m' hm=>by
  obtain⟨o',es',ep',ho',r'⟩:=hm
  rw[ho] at ho';cases ho'
  exact⟨_,es',ep',hL,r'⟩) hok hg
theorem Inv.turned {t':Nat}{it:Addr}(I:Inv X pins σ H s)(k:∀b o,b≠it->s.heap.get? b=some o->h'.get? b=some o)(hn:H it=none)(hL:it≠X.env.locals)
  (h1:it∈X.ex\/X.s₀.heap.objs.size<=it)(h2:∀x c,X.env.cells.lookup x=some c->c≠it)(h3:∀p∈X.pn++pins,p.1≠it):Inv X pins σ H {s with heap:=h',toks:=t'}:=by
 have nit:∀b u,H b=some u->b≠it:=fun b u e z=>by rw[z,hn] at e;cases e
 refine I.step (g':=s.gens) (d':=s.drawn) (ch:=[it]) (fun b hb=>?_) (fun b o _ _ hc e _=>k b o (fun z=>hc (by simp[z])) e) (fun b o _ _ hc e _=>⟨o.slots,k b o (fun z=>hc (by simp[z])) e⟩) (fun _ _ _ _ n=>n)
  (fun b o hc e=>⟨o,k b o (fun z=>hc (by simp[z])) e⟩) (fun _ _ e=>e) (fun _ _ _ e=>e) (fun b ps e=>⟨#[],by rw[e];simp⟩) (fun m hm=>?_) (fun b u e=>?_) I.bare
 ·have e:b=it:=by simpa using hb
  subst e
  exact⟨h1,hL,h2,h3⟩
 ·obtain ⟨o,es,ep,ho,r⟩:=hm
  exact⟨o,es,ep,k _ o (Ne.symm hL) ho,r⟩
 ·refine (I.hok b u e).stay (fun c v hc q=>k c v ?_ q) (fun _ q=>q) fun _ _ q=>q
  rcases hc with z|z
  ·rw [z];exact nit b u e
  ·exact nit c _ z
theorem Inv.tok (I:Inv X pins σ H s)(t:Nat):Inv X pins σ H {s with toks:=t}:=I.un (h':=s.heap) (t':=t) Un.refl I.hok
theorem Inv.kept {t':Nat}(I:Inv X pins σ H s)(k:∀b u,s.heap.get? b=some u->h'.get? b=some u):Inv X pins σ H {s with heap:=h',toks:=t'}:=I.un (Un.kept k) (I.hok.kept k)
theorem Inv.laid {a:Addr}{o:HO}{t':Nat}(I:Inv X pins σ H s)(k:∀b u,s.heap.get? b=some u->h'.get? b=some u)(hp:s.heap.objs.size<=a)(new:q06 X.prog X.w (upd H a o) h' a o):
  Inv X pins σ (upd H a o) {s with heap:=h',toks:=t'}:=I.un (Un.laid k hp (I.hok.fresh hp)) (I.hok.laid k hp new)
theorem Inv.write {x e:Addr}{o:HO}{t':Nat}(I:Inv X pins σ H s)(mu:Mut (H x))(he:e=x\/H e=some (.own x))(k:∀b u,b≠e->s.heap.get? b=some u->h'.get? b=some u)(heo:∃u,h'.get? e=some u)
  (new:q06 X.prog X.w (upd H x o) h' x o):Inv X pins σ (upd H x o) {s with heap:=h',toks:=t'}:=I.un (Un.write mu he k heo) (I.hok.write mu he k heo new)
theorem Inv.pins_of {pins':List (Addr×Obj)}(I:Inv X pins σ H s)(h:∀p∈pins',s.heap.get? p.1=some p.2/\H p.1=none/\p.1≠X.env.locals/\p.1∉X.fs/\∀v,p.2.data≠ .cell v):Inv X pins' σ H s:=
 ⟨I.ok,I.os,I.bare,I.base,I.loc,I.cell,I.free,I.freeC,fun p hp=>(zad.mp hp).elim (fun z=>I.pin p (zaL _ z)) (h p),I.hok,I.len⟩
theorem q73 {N:List Str}(hN:N.Nodup){i j:Nat}{x:Str}(a:N[i]? =some x)(b:N[j]? =some x):i=j:=by
 obtain⟨h1,e1⟩:=yA a
 obtain⟨h2,e2⟩:=yA b
 exact(List.getElem_inj hN).mp (e1.trans e2.symm)
theorem q5l {M:Model}{A:Around}{E:Value->Shared->Prop}{i:Nat}{x:Str}{v:V}{u:Value}{Q:Unit->Shared->Prop}(I:Inv X pins σ H s)(hN:X.N.Nodup)(hi:X.N[i]? =some x)(hx:Loc X.env.scope x)(r:RelV v u)
  (h:∀s',Inv X pins (σ.set i (some v)) H s'->(∃a,Heap.SameBut a s.heap s'.heap/\(a=X.env.locals\/X.env.cells.lookup x=some a))->Q () s')(hf:X.fn x=true\/X.env.scope.names.lookup x=some .local:=by first|exact .inl rfl|exact .inr rfl|assumption):wpAny M A (storeName X.env x u) Q E s:=by
 obtain⟨m,hn,hl⟩:=id I.loc
 have hcls:(X.env.scope.kind== .class||(X.env.scope.kind== .module&&X.env.locals != X.env.globals))=false:=by rw[I.ok.kind];rfl
 have hiσ:i<σ.length:=by rw[I.len];exact(yA hi).1
 have cne:=I.cne
 have tracked:∀{a:Addr} {h':Heap},(∃o,s.heap.get? a=some o/\H a=none)->Heap.SameBut a s.heap h'->HOk X.prog X.w H h':=fun {a h'} ha hs b ob e=>by
  obtain⟨_,_,hfree⟩:=ha
  refine(I.hok b ob e).stay (fun c w' hc q=>(hs.2 c ?_).trans q) (fun _ q=>q) fun _ _ q=>q
  rintro rfl
  rcases hc with rfl|hc
  ·rw [hfree] at e;cases e
  ·rw [hfree] at hc;cases hc
 rcases hx with hk|hk
 ·refine wpAny_storeName_local hk hn (fun h' hn' hs=>?_) hcls
  obtain⟨oL,_,_,hoL,_⟩:=id hn
  refine h _ ⟨I.ok,I.os,I.bare,⟨fun b o e n hb hx=>?_,fun b o e n hb hx=>?_,I.base.free,fun b o e hx=>?_,I.base.tups,I.base.frzs,I.base.tbls⟩,⟨_,hn',fun j y v' e1 e2 e3=>?_⟩,fun y c e=>?_,I.free,I.freeC,fun p hp=>?_,tracked ⟨oL,hoL,I.free⟩ hs,by simpa using I.len⟩ ⟨_,hs,.inl rfl⟩
  ·exact (hs.2 b (zF (zK (zv e) I.ok.above))).trans (I.base.keep b o e n hb hx)
  ·obtain ⟨sl,e1⟩:=I.base.slot b o e n hb hx
   exact⟨sl,(hs.2 b (zF (zK (zv e) I.ok.above))).trans e1⟩
  ·obtain ⟨o',e1⟩:=I.base.there b o e hx
   exact⟨o',(hs.2 b (zF (zK (zv e) I.ok.above))).trans e1⟩
  ·by_cases hj:j=i
   ·subst hj
    rw[hi] at e1;cases e1
    rw[List.getElem?_set_self hiσ] at e2
    cases e2
    exact⟨u,r,.inl ⟨hk,by simp⟩⟩
   ·rw [List.getElem?_set_ne (Ne.symm hj)] at e2
    obtain⟨u',r',q⟩:=hl j y v' e1 e2 e3
    refine⟨u',r',?_⟩
    rcases q with⟨k,e⟩|⟨k,c,e,z⟩
    ·refine .inl ⟨k,?_⟩
     have:y≠x:=fun e=>hj (q73 hN e1 (e▸hi))
     simp[this,e]
    ·exact .inr ⟨k,c,e,z.sameBut hs (cne y c e)⟩
  ·obtain ⟨w',z⟩:=I.cell y c e
   exact⟨w',z.sameBut hs (cne y c e)⟩
  ·obtain ⟨e,n,ne,nf,d⟩:=I.pin p hp
   exact⟨(hs.2 p.1 ne).trans e,n,ne,nf,d⟩
 ·have hfn:X.fn x=true:=by
   rcases hf with z|z
   ·exact z
   ·rw [z] at hk;cases hk
  obtain⟨c,hc⟩:=I.ok.has x (.inl hk)
  obtain⟨w',z⟩:=I.cell x c hc
  refine wpAny_storeName_cell I.ok.kind hk hc z (fun h' hc' hs=>?_)
  obtain⟨oc,hoc,hocd⟩:=id z
  refine h {s with heap:=h'} ⟨I.ok,I.os,I.bare,⟨fun b o e n hb hx=>?_,fun b o e n hb hx=>?_,I.base.free,fun b o e hx=>?_,I.base.tups,I.base.frzs,I.base.tbls⟩,⟨m,hn.sameBut hs (Ne.symm (cne x c hc)),fun j y v' e1 e2 e3=>?_⟩,fun y c' e=>?_,I.free,I.freeC,fun p hp=>?_,tracked ⟨oc,hoc,I.freeC x c hc⟩ hs,by simpa using I.len⟩ ⟨c,hs,.inr hc⟩
  ·exact (hs.2 b (zF (zK (zv e) (I.ok.cab x c hfn hc)))).trans (I.base.keep b o e n hb hx)
  ·obtain ⟨sl,e1⟩:=I.base.slot b o e n hb hx
   exact⟨sl,(hs.2 b (zF (zK (zv e) (I.ok.cab x c hfn hc)))).trans e1⟩
  ·obtain ⟨o',e1⟩:=I.base.there b o e hx
   exact⟨o',(hs.2 b (zF (zK (zv e) (I.ok.cab x c hfn hc)))).trans e1⟩
  ·by_cases hj:j=i
   ·subst hj
    rw[hi] at e1;cases e1
    rw[List.getElem?_set_self hiσ] at e2
    cases e2
    exact⟨u,r,.inr ⟨.inl hk,c,hc,hc'⟩⟩
   ·rw [List.getElem?_set_ne (Ne.symm hj)] at e2
    obtain⟨u',r',q⟩:=hl j y v' e1 e2 e3
    refine⟨u',r',?_⟩
    rcases q with q|⟨k,c',e,z'⟩
    ·exact .inl q
    ·refine .inr ⟨k,c',e,z'.sameBut hs ?_⟩
     rintro rfl
     exact hj (q73 hN e1 (I.ok.inj _ _ _ e hc▸hi))
  ·by_cases hcc:c'=c
   ·subst hcc;exact⟨_,hc'⟩
   ·obtain ⟨w2,z2⟩:=I.cell y c' e
    exact⟨w2,z2.sameBut hs hcc⟩
  ·obtain ⟨e,n,ne,nf,d⟩:=I.pin p hp
   refine⟨(hs.2 p.1 ?_).trans e,n,ne,nf,d⟩
   intro q
   rw[q,hoc] at e
   have q':oc=p.2:=zC e
   exact d w' (by rw[<-q'];exact hocd)
theorem q4C {M:Model}{A:Around}{E:Value->Shared->Prop}{i:Nat}{x:Str}{v:V}{u:Value}{Q:Unit->Shared->Prop}(I:Inv X pins σ H s)(hN:X.N.Nodup)(hi:X.N[i]? =some x)(hx:Loc X.env.scope x)(r:RelV v u)
  (h:∀s',Inv X pins (σ.set i (some v)) H s'->Q () s')(hf:X.fn x=true\/X.env.scope.names.lookup x=some .local:=by first|exact .inl rfl|exact .inr rfl|assumption):wpAny M A (storeName X.env x u) Q E s:=
 q5l I hN hi hx r (fun s' I' _=>h s' I') hf
theorem Inv.call' {s':Shared}{ch:List Addr}(I:Inv X pins σ H s)(ho:s'.os=s.os)(u:Un (frs X.stack) ch H H' s.heap s'.heap)(hok:HOk X.prog X.w H' s'.heap)(hg:AllBare s'.gens)
  (hch:∀b∈ch,(b∈X.ex\/X.s₀.heap.objs.size<=b)/\b≠X.env.locals/\(∀x c,X.env.cells.lookup x=some c->c≠b)/\∀p∈X.pn++pins,p.1≠b):Inv X pins σ H' s':=by
 obtain⟨h',g',d',t',o'⟩:=s'
 have e:o'=s.os:=ho
 subst e
 exact I.call (g':=g') (t':=t') (d':=d') u hok hg hch
end
abbrev XK:=Value->Option Addr->Hp->Prop
abbrev St:=List (Option V)
abbrev VK:=V->Hp->Prop
abbrev TE:=St->Hp->VK->Prop
abbrev TT:=St->Hp->(Bool->Hp->Prop)->Prop
abbrev TA:=St->Hp->(List V->Hp->Prop)->Prop
structure Ends where
 nx:St->Hp->Prop
 rt:VK
 bk:St->Hp->Prop:=fun _ _=>False
 ct:St->Hp->Prop:=fun _ _=>False
abbrev TS:=Ends->St->Hp->Prop
def EP (X:Cx)(pins:List (Addr×Obj))(σ:St)(Q:VK)(u:Value)(s':Shared):Prop:=∃v H',Inv X pins σ H' s'/\RelV v u/\Q v H'
def TP (X:Cx)(pins:List (Addr×Obj))(σ:St)(Q:Bool->Hp->Prop)(b:Bool)(s':Shared):Prop:=∃H',Inv X pins σ H' s'/\Q b H'
def AP (X:Cx)(pins:List (Addr×Obj))(σ:St)(Q:List V->Hp->Prop)(us:List Value)(s':Shared):Prop:=∃vs H',Inv X pins σ H' s'/\Vals vs us/\Q vs H'
def SP (X:Cx)(pins:List (Addr×Obj))(D:Ends)(f:Flow)(s':Shared):Prop:=
 match f with
 | .next=>∃σ' H',Inv X pins σ' H' s'/\D.nx σ' H'
 | .brk=>∃σ' H',Inv X pins σ' H' s'/\D.bk σ' H'
 | .cont=>∃σ' H',Inv X pins σ' H' s'/\D.ct σ' H'
 | .ret u=>∃v σ' H',Inv X pins σ' H' s'/\RelV v u/\D.rt v H'
def PE (X:Cx)(e:Expr)(t:TE):Prop:=
 ∀(pins:List (Addr×Obj)) (s:Shared) (σ:St) (H:Hp) (Q:VK),Inv X pins σ H s->t σ H Q->wpAny (model X.prog X.w) X.A (eval e X.env) (EP X pins σ Q) X.xe s
def PT (X:Cx)(e:Expr)(t:TT):Prop:=
 ∀(pins:List (Addr×Obj)) (s:Shared) (σ:St) (H:Hp) (Q:Bool->Hp->Prop),Inv X pins σ H s->t σ H Q->wpAny (model X.prog X.w) X.A (isTrue e X.env (eval e X.env)) (TP X pins σ Q) X.xe s
def PW (X:Cx)(e:Expr)(t:TT):Prop:=
 ∀(whole:Sem Value) (pins:List (Addr×Obj)) (s:Shared) (σ:St) (H:Hp) (Q:Bool->Hp->Prop),Inv X pins σ H s->t σ H Q->wpAny (model X.prog X.w) X.A (isTrue e X.env whole) (TP X pins σ Q) X.xe s
theorem PW.pt {X:Cx}{e:Expr}{t:TT}(h:PW X e t):PT X e t:=h _
def PA (X:Cx)(es:List Expr)(t:TA):Prop:=
 ∀(pos:Pos) (pins:List (Addr×Obj)) (s:Shared) (σ:St) (H:Hp) (Q:List V->Hp->Prop),Inv X pins σ H s->t σ H Q->wpAny (model X.prog X.w) X.A (spliced (backTo pos (starEach es X.env))) (AP X pins σ Q) X.xe s
def PS (X:Cx)(st:Stmt)(t:TS):Prop:=
 ∀(pins:List (Addr×Obj)) (s:Shared) (σ:St) (H:Hp) (D:Ends),Inv X pins σ H s->t D σ H->wpAny (model X.prog X.w) X.A (exec st X.env) (SP X pins D) X.xe s
def PSs (X:Cx)(st:List Stmt)(t:TS):Prop:=
 ∀(pins:List (Addr×Obj)) (s:Shared) (σ:St) (H:Hp) (D:Ends),Inv X pins σ H s->t D σ H->wpAny (model X.prog X.w) X.A (execs st X.env) (SP X pins D) X.xe s
theorem thn {α:Type}{t:Sem α}{Q Q':α->Shared->Prop}{M:Model}{A:Around}{E:Value->Shared->Prop}{s:Shared}(h:wpAny M A t Q E s)(hQ:∀a s,Q a s->Q' a s):wpAny M A t Q' E s:=zO h hQ fun _ _ x=>x
section
variable {X:Cx}
theorem bin {a b:Expr}{ta tb:TE}(ha:PE X a ta)(hb:PE X b tb){pins:List (Addr×Obj)}{s:Shared}{σ:St}{H:Hp}{R:V->V->Hp->Prop}(I:Inv X pins σ H s)(h:ta σ H fun x H1=>tb σ H1 fun y H2=>R x y H2)
  {α:Type}{Q:α->Shared->Prop}{f:Value->Value->Sem α}
  (hf:∀v u s2 x y H2,Inv X pins σ H2 s2->RelV x v->RelV y u->R x y H2->wpAny (model X.prog X.w) X.A (f v u) Q X.xe s2):
  wpAny (model X.prog X.w) X.A (eval a X.env) (fun v s₁=>wpAny (model X.prog X.w) X.A (eval b X.env) (fun u s₂=>wpAny (model X.prog X.w) X.A (f v u) Q X.xe s₂) X.xe s₁) X.xe s:=by
 refine thn (ha pins s σ H _ I h) fun v s1 ⟨x,H1,I1,r1,q1⟩=>?_
 refine thn (hb pins s1 σ H1 _ I1 q1) fun u s2 ⟨y,H2,I2,r2,q2⟩=>?_
 exact hf v u s2 x y H2 I2 r1 r2 q2
def tVar (i:Nat):TE:=fun σ H Q=>∃v,σ[i]? =some (some v)/\Q v H
def tC (v:V):TE:=fun _ H Q=>Q v H
theorem pe_var {i:Nat}{x:Str}{pos:Pos}(hN:X.N[i]? =some x)(hv:Vis X.env.scope x)(hd:(x==("__debug__":Str))=false:=by decide)(hcd:(x==("__classdict__":Str))=false:=by decide):PE X (.Name x pos) (tVar i):=by
 intro pins s σ H Q I h
 obtain⟨v,e,h⟩:=h
 obtain⟨m,hn,hl⟩:=I.loc
 obtain⟨u,r,l⟩:=hl i x v hN e hv
 have fin:EP X pins σ Q u s:=⟨v,H,I,r,h⟩
 rcases l with⟨hk,hm⟩|⟨hk,c,hc,hcell⟩
 ·exact wpAny_Name (wpAny_loadName_local I.ok.kind hk hn hm fin) hd
 ·rcases hk with hk|hk
  ·exact wpAny_Name (wpAny_loadName_cell I.ok.kind hk hc hcell fin) hd
  ·exact wpAny_Name (wpAny_loadName_free I.ok.kind hk hc hcell fin hcd) hd
theorem qc {i j pos}:PE X (.Constant (.int i) j pos) (tC (.int i)):=fun _ _ _ H _ I h=>wpAny_Constant_int ⟨.int i,H,I.tok _,⟨_,rfl⟩,h⟩
theorem q1D {b j pos}:PE X (.Constant (.bool b) j pos) (tC (.bl b)):=fun _ _ _ H _ I h=>Constant_bool ⟨.bl b,H,I,rfl,h⟩
theorem qbb {j pos}:PE X (.Constant .none j pos) (tC .non):=fun _ _ _ H _ I h=>Constant_none ⟨.non,H,I,rfl,h⟩
theorem qM {x j pos}:PE X (.Constant (.str x) j pos) (tC (.str x)):=fun _ _ _ H _ I h=>Calls.Constant_str ⟨.str x,H,I.tok _,⟨_,rfl⟩,h⟩
def Gl (X:Cx)(x:Str):Prop:=X.env.kindOf x=some .globalImplicit
theorem q2d {E:Value->Shared->Prop}{pins:List (Addr×Obj)}{s:Shared}{σ:St}{H:Hp}{x:Str}{u:Value}{pos:Pos}{Q:Value->Shared->Prop}(I:Inv X pins σ H s)(hg:Gl X x)(hm:X.mg x=some u)(h:Q u s)
  (hd:(x==("__debug__":Str))=false:=by decide):wpAny (model X.prog X.w) X.A (eval (.Name x pos) X.env) Q E s:=
 zb5 I.ok.kind hg (Calls.loadGlobal_global (by rw[I.ok.glob];exact I.mod.glob.keeps I.bk) hm h) hd
theorem q38 {E:Value->Shared->Prop}{pins:List (Addr×Obj)}{s:Shared}{σ:St}{H:Hp}{x:Str}{u:Value}{pos:Pos}{Q:Value->Shared->Prop}(I:Inv X pins σ H s)(hg:Gl X x)(hm:X.mg x=none)(hv:bootBuiltins x=some u)(h:Q u s)
  (hn:x≠"__name__":=by decide)(hd:(x==("__debug__":Str))=false:=by decide):wpAny (model X.prog X.w) X.A (eval (.Name x pos) X.env) Q E s:=by
 obtain⟨mb,h1,h2⟩:=I.mod.blt
 exact zb5 I.ok.kind hg (Calls.loadGlobal_builtin (by rw[I.ok.glob];exact I.mod.glob.keeps I.bk) hm (by rw[I.ok.blt];exact h1.keeps I.bk) ((h2 x hn).trans hv) h) hd
theorem qx {x:Str}{v:V}{u:Value}{pos:Pos}(hg:Gl X x)(hm:X.mg x=some u)(r:RelV v u)(hd:(x==("__debug__":Str))=false:=by decide):PE X (.Name x pos) (tC v):=
 fun _ _ _ H _ I h=>q2d I hg hm ⟨v,H,I,r,h⟩ hd
theorem q6q {x:Str}{v:V}{u:Value}{pos:Pos}(hg:Gl X x)(hm:X.mg x=none)(hv:bootBuiltins x=some u)(r:RelV v u)(hn:x≠"__name__":=by decide)(hd:(x==("__debug__":Str))=false:=by decide):PE X (.Name x pos) (tC v):=
 fun _ _ _ H _ I h=>q38 I hg hm hv ⟨v,H,I,r,h⟩ hn hd
variable {a b:Expr}{ta tb:TE}{pos:Pos}
def PC (X:Cx)(op:CmpOp)(a b:Expr)(t:TE):Prop:=
 ∀(pins:List (Addr×Obj)) (s:Shared) (σ:St) (H:Hp) (Q:VK),Inv X pins σ H s->t σ H Q->
  wpAny (model X.prog X.w) X.A (eval a X.env) (fun v s₁=>wpAny (model X.prog X.w) X.A (eval b X.env) (fun u s₂=>wpAny (model X.prog X.w) X.A (compareOp op v u) (EP X pins σ Q) X.xe s₂) X.xe s₁) X.xe s
theorem q74 (b:Expr){op:CmpOp}(h:op≠ .In)(h2:op≠ .NotIn):behindInMarks op b=false:=by
 have e1:(op==CmpOp.In)=false:=by cases op<;>first|rfl|exact absurd rfl h
 have e2:(op==CmpOp.NotIn)=false:=by cases op<;>first|rfl|exact absurd rfl h2
 cases b<;>simp[behindInMarks,e1,e2]
def tNotN (ta:TE):TE:=fun σ H Q=>ta σ H fun x H1=>Q (.bl (!decide (x= .non))) H1
theorem RelV.none_iff {x:V}{v:Value}(r:RelV x v):(v==Value.none)=decide (x= .non):=by
 cases x with
 |non=>cases r;rfl
 |bl _=>cases r;rfl
 |int _=>obtain⟨t,rfl⟩:=r;rfl
 |str _=>obtain⟨t,rfl⟩:=r;rfl
 |byt _=>obtain⟨t,rfl⟩:=r;rfl
 |flt _=>obtain⟨t,rfl⟩:=r;rfl
 |ref _=>cases r;rfl
 |ty _=>cases r;rfl
theorem qc3 {j pos'}(ha:PE X a ta):PC X .IsNot a (.Constant .none j pos') (tNotN ta):=by
 intro pins s σ H Q I h
 refine thn (ha pins s σ H _ I h) fun v s1 ⟨x,H1,I1,r1,q1⟩=>?_
 exact Constant_none (isnot_none_gen ⟨.bl _,H1,I1,by rw[r1.none_iff];rfl,q1⟩)
def tB (t:TE):TT:=fun σ H Q=>t σ H fun x H1=>∃c,x= .bl c/\Q c H1
theorem pe_cmp {op:CmpOp}{t:TE}(h:PC X op a b t)(h1:behindInMarks op b=false:=by first|exact q74 _ (by decide) (by decide)|rfl):PE X (.Compare a [op] [b] pos) t:=fun pins s σ H Q I hw=>wpAny_Compare1 (h pins s σ H Q I hw) h1
theorem q8p {op:CmpOp}{t:TE}(h:PC X op a b t)(h1:behindInMarks op b=false:=by first|exact q74 _ (by decide) (by decide)|rfl):PT X (.Compare a [op] [b] pos) (tB t):=by
 intro pins s σ H Q I hw
 refine wpAny_isTrue_Compare1 (thn (h pins s σ H _ I hw) fun v s1 h1=>thn h1 fun u s2 h2=>thn h2 fun c s3 ⟨x,H1,I1,r1,q1⟩=>?_) h1
 obtain⟨d,rfl,q⟩:=q1
 cases r1
 exact zaF ⟨H1,I1,q⟩
theorem q0J {e:Expr}{t:TE}(h:PE X e t)(he:∀whole,isTrue e X.env whole=(do let v<-whole;standAt e.pos;holding [v] (truthy v)):=by intro _;rfl):PT X e (tB t):=by
 intro pins s σ H Q I hw
 refine isTrue_plain (thn (h pins s σ H _ I hw) fun v s1 ⟨x,H1,I1,r1,q1⟩=>?_) (he _)
 obtain⟨d,rfl,q⟩:=q1
 cases r1
 exact zaF ⟨H1,I1,q⟩
variable {tA tB':TT}{rest:List Expr}
def tAnd (t u:TT):TT:=fun σ H Q=>t σ H fun c H1=>if c=true then u σ H1 Q else Q false H1
def tOr (t u:TT):TT:=fun σ H Q=>t σ H fun c H1=>if c=true then Q true H1 else u σ H1 Q
def tNot (t:TT):TT:=fun σ H Q=>t σ H fun c H1=>Q (!c) H1
theorem q3R (ha:PT X a tA):PW X (.BoolOp .And [a] pos) tA:=by
 intro wh pins s σ H Q I h
 refine isTrue_and (thn (ha pins s σ H Q I h) fun c s1 e=>?_)
 cases c with
 |true=>exact isTrue_and_nil e
 |false=>exact e
theorem q2j (ha:PT X a tA):PW X (.BoolOp .Or [a] pos) tA:=by
 intro wh pins s σ H Q I h
 refine isTrue_or (thn (ha pins s σ H Q I h) fun c s1 e=>?_)
 cases c with
 |false=>exact isTrue_or_nil e
 |true=>exact e
theorem q5O (ha:PT X a tA)(hb:PW X (.BoolOp .And (b::rest) pos) tB'):PW X (.BoolOp .And (a::b::rest) pos) (tAnd tA tB'):=by
 intro wh pins s σ H Q I h
 refine isTrue_and (thn (ha pins s σ H _ I h) fun c s1 ⟨H1,I1,q1⟩=>?_)
 cases c with
 |true=>exact hb wh pins s1 σ H1 Q I1 q1
 |false=>exact⟨H1,I1,q1⟩
theorem q2O (ha:PT X a tA)(hb:PW X (.BoolOp .Or (b::rest) pos) tB'):PW X (.BoolOp .Or (a::b::rest) pos) (tOr tA tB'):=by
 intro wh pins s σ H Q I h
 refine isTrue_or (thn (ha pins s σ H _ I h) fun c s1 ⟨H1,I1,q1⟩=>?_)
 cases c with
 |true=>exact⟨H1,I1,q1⟩
 |false=>exact hb wh pins s1 σ H1 Q I1 q1
theorem q2k (ha:PT X a tA):PT X (.UnaryOp .Not a pos) (tNot tA):=by
 intro pins s σ H Q I h
 exact isTrue_not (ha pins s σ H (fun c H1=>Q (!c) H1) I h)
def tAndV (ta tb:TE):TE:=fun σ H Q=>ta σ H fun x H1=>∃c,x= .bl c/\if c=true then tb σ H1 Q else Q (.bl false) H1
def tOrV (ta tb:TE):TE:=fun σ H Q=>ta σ H fun x H1=>∃c,x= .bl c/\if c=true then Q (.bl true) H1 else tb σ H1 Q
def tNotV (ta:TE):TE:=fun σ H Q=>ta σ H fun x H1=>∃c,x= .bl c/\Q (.bl (!c)) H1
theorem q2F {op}{t:TE}(h:PE X a t):PE X (.BoolOp op [a] pos) t:=fun pins s σ H Q I hw=>BoolOp_one (h pins s σ H Q I hw)
theorem q2G (ha:PE X a ta)(hb:PE X (.BoolOp .And (b::rest) pos) tb):PE X (.BoolOp .And (a::b::rest) pos) (tAndV ta tb):=by
 intro pins s σ H Q I h
 refine BoolOp_and (thn (ha pins s σ H _ I h) fun v s1 ⟨x,H1,I1,r1,q1⟩=>?_)
 obtain⟨c,rfl,q1⟩:=q1
 cases r1
 refine zaF ?_
 cases c with
 |true=>exact hb pins s1 σ H1 Q I1 q1
 |false=>exact⟨.bl false,H1,I1,rfl,q1⟩
theorem qaa (ha:PE X a ta)(hb:PE X (.BoolOp .Or (b::rest) pos) tb):PE X (.BoolOp .Or (a::b::rest) pos) (tOrV ta tb):=by
 intro pins s σ H Q I h
 refine BoolOp_or (thn (ha pins s σ H _ I h) fun v s1 ⟨x,H1,I1,r1,q1⟩=>?_)
 obtain⟨c,rfl,q1⟩:=q1
 cases r1
 refine zaF ?_
 cases c with
 |false=>exact hb pins s1 σ H1 Q I1 q1
 |true=>exact⟨.bl true,H1,I1,rfl,q1⟩
theorem pe_not (ha:PE X a ta):PE X (.UnaryOp .Not a pos) (tNotV ta):=by
 intro pins s σ H Q I h
 refine UnaryOp_ (thn (ha pins s σ H _ I h) fun v s1 ⟨x,H1,I1,r1,q1⟩=>?_)
 obtain⟨c,rfl,q1⟩:=q1
 cases r1
 exact not_of (zaF ⟨.bl (!c),H1,I1,rfl,q1⟩)
def tIf (t:TT)(ta tb:TE):TE:=fun σ H Q=>t σ H fun c H1=>if c=true then ta σ H1 Q else tb σ H1 Q
theorem q70 {c:Expr}(hc:PT X c tA)(ha:PE X a ta)(hb:PE X b tb):PE X (.IfExp c a b pos) (tIf tA ta tb):=by
 intro pins s σ H Q I h
 refine wpAny_IfExp (thn (hc pins s σ H _ I h) fun d s1 ⟨H1,I1,q1⟩=>?_)
 cases d with
 |true=>exact ha pins s1 σ H1 Q I1 q1
 |false=>exact hb pins s1 σ H1 Q I1 q1
end
def SqL (K:W.Frag)(H:Hp)(a:Addr)(xs:List V):Prop:=
 Rd H a (.lst xs)\/
  ∃(o:Obj) (its:Array Value) (n:Nat),K.lookup a=some o/\o.cls= .type "list"/\o.dict=none/\o.data= .seq its n/\its.size<=sizeLine/\Vals xs its.toList
def SqT (K:W.Frag)(H:Hp)(a:Addr)(xs:List V):Prop:=
 Rd H a (.tup xs)\/
  ∃(o:Obj) (its:Array Value) (n:Nat),K.lookup a=some o/\o.cls= .type "tuple"/\o.data= .seq its n/\its.size<=sizeLine/\Vals xs its.toList
def absV:Value->Option V
 | .none=>some .non
 | .bool b=>some (.bl b)
 | .int i _=>some (.int i)
 | .str x _=>some (.str x)
 | .bytes b _=>some (.byt b)
 | .float b _=>some (.flt b)
 | .ref a=>some (.ref a)
 | .type n=>some (.ty n)
 |_=>none
theorem RelV.abs {x:V}{u:Value}(r:RelV x u):absV u=some x:=by
 cases x with
 |non=>cases r;rfl
 |bl _=>cases r;rfl
 |int _=>obtain⟨t,rfl⟩:=r;rfl
 |str _=>obtain⟨t,rfl⟩:=r;rfl
 |byt _=>obtain⟨t,rfl⟩:=r;rfl
 |flt _=>obtain⟨t,rfl⟩:=r;rfl
 |ref _=>cases r;rfl
 |ty _=>cases r;rfl
theorem RelV.inj {x y:V}{u:Value}(r:RelV x u)(q:RelV y u):x=y:=zC (r.abs.symm.trans q.abs)
theorem Vals.inj:∀{xs ys:List V} {us:List Value},Vals xs us->Vals ys us->xs=ys
 |_,_,_,.nil,.nil=>rfl
 |_,_,_,.cons r t,.cons r' t'=>by rw[r.inj r',Vals.inj t t']
section
variable {X:Cx}{pins:List (Addr×Obj)}{σ:St}{H:Hp}{s:Shared}{a:Addr}{xs ys:List V}
theorem SqL.of {K:W.Frag}(h:H a=some (.lst xs)):SqL K H a xs:= .inl (.inl h)
theorem SqT.of {K:W.Frag}(h:H a=some (.tup xs)):SqT K H a xs:= .inl (.inl h)
theorem Inv.list (I:Inv X pins σ H s)(h:SqL X.K H a xs):∃its:List Value,Vals xs its/\PlainL s.heap a its.toArray/\xs.length<=sizeLine:=by
 rcases h with h|⟨o,its,n,hk,hc,hd,hs,hz,r⟩
 ·obtain ⟨z,its,n,r,e⟩:=h.ok I.hok
  exact⟨its,r,⟨_,n,e,rfl,rfl,rfl⟩,z⟩
 ·refine ⟨its.toList,r,⟨o,n,I.kIn a o hk,hc,hd,by simpa using hs⟩,?_⟩
  have e:=r.length
  simp only[Array.length_toList] at e
  omega
theorem Inv.tuple (I:Inv X pins σ H s)(h:SqT X.K H a xs):∃its:List Value,Vals xs its/\IsTup s.heap a its.toArray/\xs.length<=sizeLine:=by
 rcases h with h|⟨o,its,n,hk,hc,hs,hz,r⟩
 ·obtain ⟨z,its,r,p⟩:=h.ok I.hok
  exact⟨its,r,p,z⟩
 ·refine ⟨its.toList,r,⟨o,I.kIn a o hk,hc,n,by simpa using hs⟩,?_⟩
  have e:=r.length
  simp only[Array.length_toList] at e
  omega
theorem Inv.list_inj (I:Inv X pins σ H s)(h:SqL X.K H a xs)(h':SqL X.K H a ys):xs=ys:=by
 obtain⟨its,r,⟨o,n,e,_,_,d⟩,_⟩:=I.list h
 obtain⟨its',r',⟨o',n',e',_,_,d'⟩,_⟩:=I.list h'
 rw[e] at e';cases e'
 rw[d] at d'
 injection d' with d1 _
 have:its=its':=by simpa using zae Array.toList d1
 subst this
 exact r.inj r'
theorem Inv.tuple_inj (I:Inv X pins σ H s)(h:SqT X.K H a xs)(h':SqT X.K H a ys):xs=ys:=by
 obtain⟨its,r,⟨o,e,_,n,d⟩,_⟩:=I.tuple h
 obtain⟨its',r',⟨o',e',_,n',d'⟩,_⟩:=I.tuple h'
 rw[e] at e';cases e'
 rw[d] at d'
 injection d' with d1 _
 have:its=its':=by simpa using zae Array.toList d1
 subst this
 exact r.inj r'
end
abbrev Cx.wish (X:Cx)(E:Value->Shared->Prop):Cx:={X with xe:=E}
abbrev Cx.nox (X:Cx):Cx:=X.wish fun _ _=>False
theorem Cx.Ok.wish {X:Cx}(ok:X.Ok)(E:Value->Shared->Prop):(X.wish E).Ok:=
 ⟨ok.mod,ok.kind,ok.glob,ok.blt,ok.above,ok.inj,ok.has,ok.cab,ok.hd,ok.frames,ok.stk,ok.exf,ok.bs,ok.bsz,ok.noex,ok.exfs,ok.funs,ok.frf⟩
theorem Cx.Ok.unwish {X:Cx}{E:Value->Shared->Prop}(ok:(X.wish E).Ok):X.Ok:=
 ⟨ok.mod,ok.kind,ok.glob,ok.blt,ok.above,ok.inj,ok.has,ok.cab,ok.hd,ok.frames,ok.stk,ok.exf,ok.bs,ok.bsz,ok.noex,ok.exfs,ok.funs,ok.frf⟩
section
variable {X:Cx}{pins:List (Addr×Obj)}{σ:St}{H:Hp}{s:Shared}{E:Value->Shared->Prop}
theorem Inv.wish (I:Inv X pins σ H s)(E:Value->Shared->Prop):Inv (X.wish E) pins σ H s:=⟨I.ok.wish E,I.os,I.bare,I.base,I.loc,I.cell,I.free,I.freeC,I.pin,I.hok,I.len⟩
theorem Inv.unwish (I:Inv (X.wish E) pins σ H s):Inv X pins σ H s:=⟨I.ok.unwish,I.os,I.bare,I.base,I.loc,I.cell,I.free,I.freeC,I.pin,I.hok,I.len⟩
theorem SP.unwish {D:Ends}{f:Flow}{s':Shared}(h:SP (X.wish E) pins D f s'):SP X pins D f s':=by
 cases f with
 |next=>obtain⟨σ',H',I,q⟩:=h;exact⟨σ',H',I.unwish,q⟩
 |brk=>obtain⟨σ',H',I,q⟩:=h;exact⟨σ',H',I.unwish,q⟩
 |cont=>obtain⟨σ',H',I,q⟩:=h;exact⟨σ',H',I.unwish,q⟩
 |ret u=>obtain⟨v,σ',H',I,r,q⟩:=h;exact⟨v,σ',H',I.unwish,r,q⟩
theorem PSs.nox {st:List Stmt}{t:TS}(h:PSs X.nox st t):PSs X st t:=fun pins s σ H D I hw=>
 zO (h pins s σ H D (I.wish _) hw) (fun _ _ q=>q.unwish) fun _ _ z=>False.elim z
end
section
variable {X:Cx}{st:Stmt}{rest:List Stmt}{t u:TS}{e:Expr}{te:TE}{pos:Pos}
def tNext:TS:=fun D σ H=>D.nx σ H
def tSeq (t u:TS):TS:=fun D σ H=>t {D with nx:=u D} σ H
theorem qy:PSs X [] tNext:=fun _ _ σ H _ I h=>zaM ⟨σ,H,I,h⟩
theorem qg (h1:PS X st t)(h2:PSs X rest u):PSs X (st::rest) (tSeq t u):=by
 intro pins s σ H D I h
 refine zbB (thn (h1 pins s σ H {D with nx:=u D} I h) fun f s1 q=>?_)
 cases f with
 |next=>
  obtain⟨σ',H',I',q⟩:=q
  exact h2 pins s1 σ' H' D I' q
 |ret v=>exact q
 |brk=>exact q
 |cont=>exact q
theorem qi (h1:PS X st t):PSs X [st] t:=by
 intro pins s σ H D I h
 refine zbB (thn (h1 pins s σ H D I h) fun f s1 q=>?_)
 cases f with
 |next=>exact zaM q
 |ret v=>exact q
 |brk=>exact q
 |cont=>exact q
def tCont:TS:=fun D σ H=>D.ct σ H
theorem q6p:PS X (.Continue pos) tCont:=fun _ _ σ H _ I h=>wpAny_Continue ⟨σ,H,I,h⟩
theorem Inv.quiet {pins:List (Addr×Obj)}{σ:St}{H:Hp}{s:Shared}(I:Inv X pins σ H s):interactive X.env=false:=by simp[interactive,I.ok.kind]
def tDrop (te:TE):TS:=fun D σ H=>te σ H fun _ H1=>D.nx σ H1
theorem q08 (he:PE X e te)(hs:swapsWith e none pos.line X.env=pure false:=by rfl):PS X (.Expr e pos) (tDrop te):=by
 intro pins s σ H D I h
 exact wpAny_Expr_any (thn (he pins s σ H _ I h) fun v s1 ⟨x,H1,I1,r1,q1⟩=>⟨σ,H1,I1,q1⟩) I.quiet hs
def tRet (te:TE):TS:=fun D σ H=>te σ H D.rt
theorem qp (he:PE X e te):PS X (.Return (some e) pos) (tRet te):=by
 intro pins s σ H D I h
 exact wpAny_Return_some (thn (he pins s σ H _ I h) fun v s1 ⟨x,H1,I1,r1,q1⟩=>⟨x,σ,H1,I1,r1,q1⟩)
def tIfS (c:TT)(t u:TS):TS:=fun D σ H=>c σ H fun b H1=>if b=true then t D σ H1 else u D σ H1
theorem qO {c:Expr}{a b:List Stmt}{tc:TT}(hc:PT X c tc)(ha:PSs X a t)(hb:PSs X b u):PS X (.If c a b pos) (tIfS tc t u):=by
 intro pins s σ H D I h
 refine wpAny_If (thn (hc pins s σ H _ I h) fun d s1 ⟨H1,I1,q1⟩=>?_)
 cases d with
 |true=>exact ha pins s1 σ H1 D I1 q1
 |false=>exact hb pins s1 σ H1 D I1 q1
def tNever:TS:=fun _ _ _=>False
theorem q6Z:PS X st tNever:=fun _ _ _ _ _ _ h=>h.elim
end
abbrev TG:=V->St->Hp->(St->Hp->Prop)->Prop
abbrev TGs:=List V->St->Hp->(St->Hp->Prop)->Prop
def PG (X:Cx)(target:Expr)(t:TG):Prop:=
 ∀(pins:List (Addr×Obj)) (s:Shared) (σ:St) (H:Hp) (v:V) (u:Value) (Q:St->Hp->Prop),Inv X pins σ H s->RelV v u->t v σ H Q->
  wpAny (model X.prog X.w) X.A (assign target X.env u) (fun _ s'=>∃σ' H',Inv X pins σ' H' s'/\Q σ' H') X.xe s
def PGs (X:Cx)(ts:List Expr)(t:TGs):Prop:=
 ∀(pins:List (Addr×Obj)) (s:Shared) (σ:St) (H:Hp) (vs:List V) (us:List Value) (Q:St->Hp->Prop),Inv X pins σ H s->Vals vs us->t vs σ H Q->
  wpAny (model X.prog X.w) X.A (assignInOrder ((assignEach ts X.env).map (·.2)) us) (fun _ s'=>∃σ' H',Inv X pins σ' H' s'/\Q σ' H') X.xe s
abbrev TSet:=V->V->V->Hp->(Hp->Prop)->Prop
def PSet (X:Cx)(t:TSet):Prop:=
 ∀(pins:List (Addr×Obj)) (s:Shared) (σ:St) (H:Hp) (o i v:V) (ov iv u:Value) (Q:Hp->Prop),Inv X pins σ H s->RelV o ov->RelV i iv->RelV v u->t o i v H Q->
  wpAny (model X.prog X.w) X.A (setItem ov iv u) (fun _ s'=>∃H',Inv X pins σ H' s'/\Q H') X.xe s
abbrev TIp:=V->V->Hp->VK->Prop
def PIp (X:Cx)(op:Operator)(t:TIp):Prop:=
 ∀(pins:List (Addr×Obj)) (s:Shared) (σ:St) (H:Hp) (x y:V) (v u:Value) (Q:VK),Inv X pins σ H s->RelV x v->RelV y u->t x y H Q->
  wpAny (model X.prog X.w) X.A (inplaceOp op v u) (EP X pins σ Q) X.xe s
section
variable {X:Cx}{pos:Pos}
def qaK (i:Nat):TG:=fun v σ H Q=>Q (σ.set i (some v)) H
theorem qr {i:Nat}{x:Str}(hN:X.N.Nodup)(hi:X.N[i]? =some x)(hx:Loc X.env.scope x)(hf:X.fn x=true\/X.env.scope.names.lookup x=some .local:=by first|exact .inl rfl|exact .inr rfl|assumption):PG X (.Name x pos) (qaK i):=by
 intro pins s σ H v u Q I r h
 exact wpAny_assign_Name (q4C I hN hi hx r (fun s' I'=>⟨_,H,I',h⟩) hf)
def gNil:TGs:=fun vs σ H Q=>vs=[]/\Q σ H
def gCons (t:TG)(u:TGs):TGs:=fun vs σ H Q=>∃v r,vs=v::r/\t v σ H fun σ' H'=>u r σ' H' Q
theorem q0u:PGs X [] gNil:=by
 intro pins s σ H vs us Q I r h
 obtain⟨e,h⟩:=h
 subst e
 cases r
 exact assignInOrder_nil ⟨σ,H,I,h⟩
theorem qA {e:Expr}{es:List Expr}{t:TG}{u:TGs}(h1:PG X e t)(h2:PGs X es u)
  (hs:(assignEach (e::es) X.env).map (·.2)=assign e X.env::(assignEach es X.env).map (·.2):=by rfl):PGs X (e::es) (gCons t u):=by
 intro pins s σ H vs us Q I r h
 obtain⟨v,vr,e1,h⟩:=h
 subst e1
 cases r with
 |cons r rr=>
  rw[hs]
  refine assignInOrder_cons (thn (h1 pins s σ H _ _ _ I r h) fun _ s1 ⟨σ1,H1,I1,q1⟩=>?_)
  exact h2 pins s1 σ1 H1 _ _ Q I1 rr q1
def gTup (K:W.Frag)(n:Nat)(t:TGs):TG:=fun v σ H Q=>∃a xs,v= .ref a/\SqT K H a xs/\xs.length=n/\t xs σ H Q
theorem pg_tup {es:List Expr}{k:Nat}{t:TGs}{n:Nat}(hc:X.calm=true)(h:PGs X es t)
  (hn:(assignEach es X.env).length=n:=by rfl)(hst:(assignEach es X.env).findIdx? (·.1)=none:=by rfl):PG X (.Tuple es k pos) (gTup X.K n t):=by
 intro pins s σ H v u Q I r hw
 obtain⟨a,xs,e1,hq,hl,hw⟩:=hw
 subst e1
 cases r
 obtain⟨its,rv,ht,hz⟩:=I.tuple hq
 refine assign_Tuple_tuple (I.ok.hd hc) ht (by simp[hn,<-hl,rv.length]) hst fun h' hx=>?_
 have I1:Inv X pins σ H {s with heap:=h'}:=I.kept (t':=s.toks) fun b o e=>hx b o (zF (zv e)) e
 exact h pins _ σ H xs _ Q I1 (by simpa using rv) hw
def tAsg (te:TE)(g:TG):TS:=fun D σ H=>te σ H fun x H1=>g x σ H1 D.nx
theorem q3w {tg e:Expr}{te:TE}{g:TG}(he:PE X e te)(hg:PG X tg g)(hs:swapsWithSole [tg] e pos.line X.env=pure false:=by rfl)(hw:swappedStores [tg] e X.env=pure none:=by rfl)
  (h1:(assignEach [tg] X.env).map (·.2)=[assign tg X.env]:=by rfl):PS X (.Assign [tg] e pos) (tAsg te g):=by
 intro pins s σ H D I h
 refine wpAny_Assign_stores (thn (he pins s σ H _ I h) fun v s1 ⟨x,H1,I1,r1,q1⟩=>?_) hs hw
 rw[h1]
 exact thn (hg pins s1 σ H1 x v _ I1 r1 q1) fun _ s2 q=>q
theorem qC {i:Nat}{x:Str}{e:Expr}{te:TE}{pos':Pos}(hN:X.N.Nodup)(hi:X.N[i]? =some x)(hx:Loc X.env.scope x)(he:PE X e te)(hs:swapsWith e (some (.Name x pos')) pos.line X.env=pure false:=by rfl)(hf:X.fn x=true\/X.env.scope.names.lookup x=some .local:=by first|exact .inl rfl|exact .inr rfl|assumption):
  PS X (.Assign [.Name x pos'] e pos) (tAsg te (qaK i)):=by
 intro pins s σ H D I h
 refine wpAny_Assign_Name (thn (he pins s σ H _ I h) fun v s1 ⟨y,H1,I1,r1,q1⟩=>?_) hs
 exact q4C I1 hN hi hx r1 (fun s2 I2=>⟨_,H1,I2,q1⟩) hf
def tAugS (to ti te:TE)(tget:V->V->Hp->VK->Prop)(tip:TIp)(tset:TSet):TS:=fun D σ H=>to σ H fun o H1=>ti σ H1 fun i H2=>tget o i H2 fun x H3=>te σ H3 fun y H4=>tip x y H4 fun z H5=>tset o i z H5 fun H6=>D.nx σ H6
def PGet (X:Cx)(t:V->V->Hp->VK->Prop):Prop:=
 ∀(pins:List (Addr×Obj)) (s:Shared) (σ:St) (H:Hp) (o i:V) (ov iv:Value) (Q:VK),Inv X pins σ H s->RelV o ov->RelV i iv->t o i H Q->
  wpAny (model X.prog X.w) X.A (getItem ov iv) (EP X pins σ Q) X.xe s
theorem q8v {o i e:Expr}{to ti te:TE}{tget:V->V->Hp->VK->Prop}{tip:TIp}{tset:TSet}{op:Operator}{tpos:Pos}(ho:PE X o to)(hi:PE X i ti)(hg:PGet X tget)(he:PE X e te)(hp:PIp X op tip)(hs:PSet X tset)
  (ha:∀ov iv new,augStore i ov iv new=(do holding [new,ov,iv] (setItem ov iv new);release [new,ov,iv] [];pure .next):=by intros;rfl):PS X (.AugAssign (.Subscript o i tpos) op e pos) (tAugS to ti te tget tip tset):=by
 intro pins s σ H D I h
 refine wpAny_AugAssign_SubscriptAny (thn (ho pins s σ H _ I h) fun ov s1 ⟨x1,H1,I1,r1,q1⟩=>?_) ha
 refine thn (hi pins s1 σ H1 _ I1 q1) fun iv s2 ⟨x2,H2,I2,r2,q2⟩=>?_
 refine thn (hg pins s2 σ H2 x1 x2 ov iv _ I2 r1 r2 q2) fun old s3 ⟨x3,H3,I3,r3,q3⟩=>?_
 refine thn (he pins s3 σ H3 _ I3 q3) fun v s4 ⟨x4,H4,I4,r4,q4⟩=>?_
 refine thn (hp pins s4 σ H4 x3 x4 old v _ I4 r3 r4 q4) fun new s5 ⟨x5,H5,I5,r5,q5⟩=>?_
 exact thn (hs pins s5 σ H5 x1 x2 x5 ov iv new _ I5 r1 r2 r5 q5) fun _ s6 ⟨H6,I6,q6⟩=>⟨σ,H6,I6,q6⟩
def ipI (f:Int->Int->Int):TIp:=fun x y H Q=>∃i j,x= .int i/\y= .int j/\Q (.int (f i j)) H
theorem ip_add:PIp X .Add (ipI fun i j=>i+j):=by
 intro pins s σ H x y v u Q I r1 r2 h
 obtain⟨i,j,e1,e2,q⟩:=h
 subst e1;subst e2
 obtain⟨t,rfl⟩:=r1
 obtain⟨t',rfl⟩:=r2
 exact iadd_int ⟨.int _,H,I.tok _,⟨_,rfl⟩,q⟩
theorem ip_sub:PIp X .Sub (ipI fun i j=>i - j):=by
 intro pins s σ H x y v u Q I r1 r2 h
 obtain⟨i,j,e1,e2,q⟩:=h
 subst e1;subst e2
 obtain⟨t,rfl⟩:=r1
 obtain⟨t',rfl⟩:=r2
 exact isub_int ⟨.int _,H,I.tok _,⟨_,rfl⟩,q⟩
end
section
variable {X:Cx}{pos:Pos}
def qb0 (c:TT)(tb:TS):TS:=fun D σ H=>∃W:Nat->St->Hp->Prop,(∃m,W m σ H)/\∀m σ H,W m σ H->
 c σ H fun b H1=>if b=true then∃N:St->Hp->Prop,(∀σ' H',N σ' H'->∃m',m'<m/\W m' σ' H')/\tb {D with nx:=N,ct:=N,bk:=D.nx} σ H1 else D.nx σ H1
theorem qa2 {c:Expr}{body:List Stmt}{tc:TT}{tb:TS}(hp:PassesOwn (model X.prog X.w) X.A X.env X.xe)(hc:PT X c tc)(hb:PSs X body tb):PS X (.While c body [] pos) (qb0 tc tb):=by
 intro pins s σ H D I h
 obtain⟨W,⟨m0,w0⟩,turn⟩:=h
 refine wpAny_While (codeAny_whileLoop (fun n s'=>∃σ' H',Inv X pins σ' H' s'/\W n σ' H') ?_ m0 ⟨σ,H,I,w0⟩)
 rintro n s1 ⟨σ1,H1,I1,w1⟩
 refine zaX hp (thn (hc pins s1 σ1 H1 _ I1 (turn n σ1 H1 w1)) fun b s2 ⟨H2,I2,q2⟩=>?_)
 cases b with
 |true=>
  obtain⟨N,hN,q2⟩:=q2
  rw[zt rfl]
  refine zaX hp (thn (hb pins s2 σ1 H2 _ I2 q2) fun f s3 q3=>?_)
  cases f with
  |next=>
   obtain⟨σ3,H3,I3,n3⟩:=q3
   obtain⟨m',hm,w3⟩:=hN σ3 H3 n3
   exact⟨m',hm,σ3,H3,I3,w3⟩
  |cont=>
   obtain⟨σ3,H3,I3,n3⟩:=q3
   obtain⟨m',hm,w3⟩:=hN σ3 H3 n3
   exact⟨m',hm,σ3,H3,I3,w3⟩
  |brk=>exact q3
  |ret v=>exact q3
 |false=>
  rw[zo zu]
  exact zaM ⟨σ1,H2,I2,q2⟩
end
structure It where
 go:Nat->Hp->Prop
 yld:Nat->Hp->V->Hp->Prop
 stop:Nat->Hp->Prop
def FpOk (X:Cx)(pins:List (Addr×Obj))(H:Hp)(b:Addr):Prop:=
 H b=none/\b≠X.env.locals/\b∉X.fs/\(b∈X.ex\/X.s₀.heap.objs.size<=b)/\(∀x c,X.env.cells.lookup x=some c->c≠b)/\∀p∈X.pn++pins,p.1≠b
theorem Inv.fpOk {X:Cx}{pins:List (Addr×Obj)}{σ:St}{H H':Hp}{s:Shared}{b:Addr}(I:Inv X pins σ H s)(hb:s.heap.objs.size<=b)(hn:H' b=none):FpOk X pins H' b:=by
 refine⟨hn,zck (zK I.lt hb),I.nofs hb,.inr (zab I.sz hb),fun x c e z=>?_,fun p hp z=>?_⟩
 ·obtain ⟨v,q⟩:=I.cell x c e
  exact absurd (zK q.lt (by rw[z];exact hb)) (zan _)
 ·exact absurd (zK (zv (I.pin p hp).1) (by rw[z];exact hb)) (zan _)
structure Turn (P:Program)(w:World)(K:W.Frag)(tg:Expr)(J:It)(fp:List Addr)(it:Addr)(tn:Nat->Heap->Prop):Prop where
 mem:it∈fp
 obj:∀i h,tn i h->∀b∈fp,∃o,h.get? b=some o/\∀v,o.data≠ .cell v
 keep:∀i h h',tn i h->(∀b∈fp,∀o,h.get? b=some o->h'.get? b=some o)->tn i h'
 item:∀(X:Cx),X.prog=P->X.w=w->X.K=K->X.calm=true->∀(i:Nat) (pins:List (Addr×Obj)) (s:Shared) (σ:St) (H:Hp) (E:Value->Shared->Prop),Inv X pins σ H s->(∀b∈fp,FpOk X pins H b)->tn i s.heap->J.go i H->
  wpAny (model P w) X.A (pyNext (.ref it)) (fun r s1=>∃u,r=some u/\
   wpAny (model P w) X.A (letOwnedTupleGo tg (.ref it) u) (fun _ s2=>∃x H',Inv X pins σ H' s2/\RelV x u/\J.yld i H x H'/\tn (i+1) s2.heap/\∀b∈fp,H' b=none) E s1) E s
 done:∀(X:Cx),X.prog=P->X.w=w->X.K=K->X.calm=true->∀(i:Nat) (pins:List (Addr×Obj)) (s:Shared) (σ:St) (H:Hp) (E:Value->Shared->Prop),Inv X pins σ H s->(∀b∈fp,FpOk X pins H b)->tn i s.heap->J.stop i H->
  wpAny (model P w) X.A (pyNext (.ref it)) (fun r s1=>r=none/\Inv X pins σ H s1) E s
 self:∀(A:Around) (i:Nat) (s:Shared) (Q:Value->Shared->Prop) (E:Value->Shared->Prop),tn i s.heap->Q (.ref it) s->wpAny (model P w) A (pyIter (.ref it)) Q E s
abbrev TI:=St->Hp->(It->Hp->Prop)->Prop
def PIE (X:Cx)(pins:List (Addr×Obj))(σ:St)(tg:Expr)(R:It->Hp->Prop)(itv:Value)(s2:Shared):Prop:=
 ∃(it:Addr) (fp:List Addr) (tn:Nat->Heap->Prop) (J:It) (H':Hp),itv= .ref it/\Inv X pins σ H' s2/\Turn X.prog X.w X.K tg J fp it tn/\tn 0 s2.heap/\(∀b∈fp,FpOk X pins H' b)/\R J H'
def PI (X:Cx)(tg iter:Expr)(wi:TI):Prop:=
 ∀(pins:List (Addr×Obj)) (s:Shared) (σ:St) (H:Hp) (R:It->Hp->Prop),Inv X pins σ H s->wi σ H R->
  wpAny (model X.prog X.w) X.A (eval iter X.env) (fun v s1=>wpAny (model X.prog X.w) X.A (pyIter v) (PIE X pins σ tg R) X.xe s1) X.xe s
theorem go_of {M:Model}{A:Around}{E:Value->Shared->Prop}{s:Shared}{tg:Expr}{it:Addr}{u:Value}{o:Obj}{n:String}{vs:Array Value}{Q:Unit->Shared->Prop}(ho:s.heap.get? it=some o)(hc:o.cls= .type n)(hd:o.data= .fields vs)
  (hn:["enumerate","zip","dict_itemiterator","dict_reverseitemiterator","odict_iterator","itertools.zip_longest","itertools.pairwise"].contains n=false)(hQ:Q () s):wpAny M A (letOwnedTupleGo tg (.ref it) u) Q E s:=by
 unfold letOwnedTupleGo
 cases tg<;>first
  |exact zl hQ
  |(cases u<;>first
    |exact zl hQ
    |(refine yD (wpAny_load ho ?_)
      rw[hc,hd]
      show wpAny M A (if (["enumerate","zip","dict_itemiterator","dict_reverseitemiterator","odict_iterator","itertools.zip_longest","itertools.pairwise"].contains n&&vs[0]? ==some (rawInt _))=true then _ else _) Q E s
      rw[zo (by intro h;rw[hn,za3] at h;cases h)]
      exact zl hQ))
def Itl (K:W.Frag)(a:Addr):It:=
 ⟨fun i H=>∃xs x,SqL K H a xs/\xs[i]? =some x,fun i H x H'=>H'=H/\∀xs,SqL K H a xs->xs[i]? =some x,fun i H=>∃xs,SqL K H a xs/\xs.length<=i⟩
def Itt (K:W.Frag)(a:Addr):It:=
 ⟨fun i H=>∃xs x,SqT K H a xs/\xs[i]? =some x,fun i H x H'=>H'=H/\∀xs,SqT K H a xs->xs[i]? =some x,fun i H=>∃xs,SqT K H a xs/\xs.length<=i⟩
def Itr (lo:Int)(n:Nat):It:=⟨fun i _=>i<n,fun i H x H'=>H'=H/\x= .int (lo+i),fun i _=>n<=i⟩
theorem q7W {P:Program}{w:World}{K:W.Frag}{tg:Expr}(a it:Addr):Turn P w K tg (Itl K a) [it] it (fun i h=>h.IsListIter it a i) where
 mem:=by simp
 obj:=fun i h st b hb=>by
  have e:b=it:=by simpa using hb
  subst e
  obtain⟨o,e,c,d⟩:=st
  exact⟨o,e,fun v z=>by rw[d] at z;cases z⟩
 keep:=fun i h h' st k=>st.at fun o e=>k it (by simp) o e
 item:=by
  intro X hP hw hK hc i pins s σ H E I hf st hg
  subst hP hw hK
  obtain⟨xs,x,hq,hx⟩:=hg
  obtain⟨its,rv,p,hz⟩:=I.list hq
  obtain⟨u,hu,ru⟩:=rv.get hx
  obtain⟨f0,f1,f2,f3,f4,f5⟩:=hf it (by simp)
  refine wpAny_pyNext_list_item st p.isList (x:=u) (by simpa using hu) fun h' st' sb=>?_
  have I1:Inv X pins σ H {s with heap:=h'}:=I.turned (t':=s.toks) (fun b o hb e=>(sb.2 b hb).trans e) f0 f1 f3 f4 f5
  obtain⟨o,e,c,d⟩:=id st'
  exact⟨u,rfl,go_of (s:={s with heap:=h'}) e c d (by decide) ⟨x,H,I1,ru,⟨rfl,fun ys hy=>by rw[I.list_inj hy hq];exact hx⟩,st',fun b hb=>(hf b hb).1⟩⟩
 done:=by
  intro X hP hw hK hc i pins s σ H E I hf st hg
  subst hP hw hK
  obtain⟨xs,hq,hx⟩:=hg
  obtain⟨its,rv,p,hz⟩:=I.list hq
  obtain⟨f0,f1,f2,f3,f4,f5⟩:=hf it (by simp)
  have hl:=rv.length
  exact wpAny_pyNext_list_end (I.ok.hd hc) st p.isList (by simp;omega) fun h' eb=>⟨rfl,I.turned (t':=s.toks) (fun b o hb e=>eb b o hb e) f0 f1 f3 f4 f5⟩
 self:=fun _ _ _ _ _ st h=>wpAny_pyIter_listiter st h
theorem q7j {P:Program}{w:World}{K:W.Frag}{tg:Expr}(a it:Addr):Turn P w K tg (Itt K a) [it] it (fun i h=>h.IsTupleIter it a i) where
 mem:=by simp
 obj:=fun i h st b hb=>by
  have e:b=it:=by simpa using hb
  subst e
  obtain⟨o,e,c,d⟩:=st
  exact⟨o,e,fun v z=>by rw[d] at z;cases z⟩
 keep:=fun i h h' st k=>st.at fun o e=>k it (by simp) o e
 item:=by
  intro X hP hw hK hc i pins s σ H E I hf st hg
  subst hP hw hK
  obtain⟨xs,x,hq,hx⟩:=hg
  obtain⟨its,rv,p,hz⟩:=I.tuple hq
  obtain⟨u,hu,ru⟩:=rv.get hx
  obtain⟨f0,f1,f2,f3,f4,f5⟩:=hf it (by simp)
  refine wpAny_pyNext_tuple_item st (show s.heap.IsTuple a its.toArray from p) (x:=u) (by simpa using hu) fun h' st' sb=>?_
  have I1:Inv X pins σ H {s with heap:=h'}:=I.turned (t':=s.toks) (fun b o hb e=>(sb.2 b hb).trans e) f0 f1 f3 f4 f5
  obtain⟨o,e,c,d⟩:=id st'
  exact⟨u,rfl,go_of (s:={s with heap:=h'}) e c d (by decide) ⟨x,H,I1,ru,⟨rfl,fun ys hy=>by rw[I.tuple_inj hy hq];exact hx⟩,st',fun b hb=>(hf b hb).1⟩⟩
 done:=by
  intro X hP hw hK hc i pins s σ H E I hf st hg
  subst hP hw hK
  obtain⟨xs,hq,hx⟩:=hg
  obtain⟨its,rv,p,hz⟩:=I.tuple hq
  obtain⟨f0,f1,f2,f3,f4,f5⟩:=hf it (by simp)
  have hl:=rv.length
  exact wpAny_pyNext_tuple_end (I.ok.hd hc) st (show s.heap.IsTuple a its.toArray from p) (by simp;omega) fun h' eb=>⟨rfl,I.turned (t':=s.toks) (fun b o hb e=>eb b o hb e) f0 f1 f3 f4 f5⟩
 self:=fun _ _ _ _ _ st h=>wpAny_pyIter_tupleiter st h
theorem q7k {P:Program}{w:World}{K:W.Frag}{tg:Expr}(it:Addr)(lo:Int)(n:Nat):Turn P w K tg (Itr lo n) [it] it (fun i h=>IsRangeIter h it (lo+(i:Nat)*1) ((n:Int) - (i:Nat)) 1) where
 mem:=by simp
 obj:=fun i h st b hb=>by
  have e:b=it:=by simpa using hb
  subst e
  exact⟨_,st,fun v z=>by
   have z':Data.fields _=Data.cell v:=z
   cases z'⟩
 keep:=fun i h h' st k=>k it (by simp) _ st
 item:=by
  intro X hP hw hK hc i pins s σ H E I hf st hg
  subst hP hw hK
  obtain⟨f0,f1,f2,f3,f4,f5⟩:=hf it (by simp)
  have W:=Walks.range (prog:=X.prog) (w:=X.w) (I.ok.hd hc) it lo 1 n
  refine W.item i s _ _ hg st fun v h' tk hv st' kk=>?_
  obtain⟨t,rfl⟩:=hv
  have I1:Inv X pins σ H {s with heap:=h',toks:=tk}:=I.turned (fun b o hb e=>kk b o (by simpa using hb) e) f0 f1 f3 f4 f5
  refine⟨_,rfl,go_of (s:={s with heap:=h',toks:=tk}) (n:="range_iterator") st' rfl rfl (by decide) ⟨.int (lo+i),H,I1,⟨t,?_⟩,⟨rfl,rfl⟩,st',fun b hb=>(hf b hb).1⟩⟩
  rw[Int.mul_one]
 done:=by
  intro X hP hw hK hc i pins s σ H E I hf st hg
  subst hP hw hK
  obtain⟨f0,f1,f2,f3,f4,f5⟩:=hf it (by simp)
  exact wpAny_pyNext_range_end (I.ok.hd hc) st (by have:n<=i:=hg;omega) fun h' eb=>⟨rfl,I.turned (t':=s.toks) (fun b o hb e=>eb b o hb e) f0 f1 f3 f4 f5⟩
 self:=fun _ _ _ _ _ st h=>wpAny_pyIter_rangeiter st h
section
variable {X:Cx}{tg:Expr}
def qcy (K:W.Frag)(tl:TE):TI:=fun σ H R=>tl σ H fun x H1=>∃a,x= .ref a/\(∃xs,SqL K H1 a xs)/\R (Itl K a) H1
def iTup (K:W.Frag)(tl:TE):TI:=fun σ H R=>tl σ H fun x H1=>∃a,x= .ref a/\(∃xs,SqT K H1 a xs)/\R (Itt K a) H1
theorem qbX {l:Expr}{tl:TE}(hl:PE X l tl):PI X tg l (qcy X.K tl):=by
 intro pins s σ H R I h
 refine thn (hl pins s σ H _ I h) fun v s1 ⟨x,H1,I1,r1,q1⟩=>?_
 obtain⟨a,e,⟨xs,hq⟩,q⟩:=q1
 subst e
 cases r1
 obtain⟨its,rv,p,hz⟩:=I1.list hq
 refine wpAny_pyIter_list p.isList ?_
 refine⟨s1.heap.objs.size,[s1.heap.objs.size],_,_,H1,rfl,I1.kept (t':=s1.toks) fun b o e=>zm _ e,q7W a _,⟨_,zB _ rfl,rfl,rfl⟩,fun b hb=>?_,q⟩
 have e:b=s1.heap.objs.size:=by simpa using hb
 subst e
 exact I1.fpOk (zn _) (I1.hok.fresh (zn _))
theorem pi_tup {l:Expr}{tl:TE}(hl:PE X l tl):PI X tg l (iTup X.K tl):=by
 intro pins s σ H R I h
 refine thn (hl pins s σ H _ I h) fun v s1 ⟨x,H1,I1,r1,q1⟩=>?_
 obtain⟨a,e,⟨xs,hq⟩,q⟩:=q1
 subst e
 cases r1
 obtain⟨its,rv,p,hz⟩:=I1.tuple hq
 refine zba (show s1.heap.IsTuple a its.toArray from p) ?_
 refine⟨s1.heap.objs.size,[s1.heap.objs.size],_,_,H1,rfl,I1.kept (t':=s1.toks) fun b o e=>zm _ e,q7j a _,⟨_,zB _ rfl,rfl,rfl⟩,fun b hb=>?_,q⟩
 have e:b=s1.heap.objs.size:=by simpa using hb
 subst e
 exact I1.fpOk (zn _) (I1.hok.fresh (zn _))
theorem q6X {pins:List (Addr×Obj)}{σ:St}{H:Hp}{s:Shared}{R:It->Hp->Prop}{E:Value->Shared->Prop}{lo hi:Int}{t u v:Tok}{tk:Nat}(I:Inv X pins σ H s)(h1: -(2 ^ 62)<=lo)(h2:lo<2 ^ 62)(h3: -(2 ^ 62)<=hi)(h4:hi<2 ^ 62)
  (q:R (Itr lo (hi - lo).toNat) H):wpAny (model X.prog X.w) X.A (pyIter (.ref s.heap.objs.size)) (PIE X pins σ tg R) E {s with heap:=s.heap.push {cls:= .type "range",data:= .fields #[.int lo t,.int hi u,.int 1 v]},toks:=tk}:=by
 refine wpAny_pyIter_range (IsRange.new ..) (small_one h1 h2 h3 h4) ?_
 have I1:Inv X pins σ H {s with heap:=s.heap.push {cls:= .type "range",data:= .fields #[.int lo t,.int hi u,.int 1 v]},toks:=tk}:=I.kept fun b o e=>zm _ e
 refine⟨(s.heap.push {cls:= .type "range",data:= .fields #[.int lo t,.int hi u,.int 1 v]}).objs.size,[(s.heap.push {cls:= .type "range",data:= .fields #[.int lo t,.int hi u,.int 1 v]}).objs.size],_,_,H,rfl,
  I1.kept (t':=tk) fun b o e=>zm _ e,q7k _ lo (hi - lo).toNat,?_,fun b hb=>?_,q⟩
 ·have e1:lo+((0:Nat):Int)*1=lo:=by simp
  have e2:(((hi - lo).toNat:Nat):Int) - ((0:Nat):Int)=Builtin.Range.rangeSize lo hi 1:=by rw[rangeSize_one];split<;>omega
  show IsRangeIter _ _ (lo+((0:Nat):Int)*1) ((((hi - lo).toNat:Nat):Int) - ((0:Nat):Int)) 1
  rw[e1,e2]
  exact zB _ rfl
 ·have e:b=(s.heap.push {cls:= .type "range",data:= .fields #[.int lo t,.int hi u,.int 1 v]}).objs.size:=by simpa using hb
  subst e
  exact I1.fpOk (zn _) (I1.hok.fresh (zn _))
def iRng1 (ta:TA):TI:=fun σ H R=>ta σ H fun vs H1=>∃j:Int,vs=[.int j]/\ -(2 ^ 62)<=j/\j<2 ^ 62/\R (Itr 0 j.toNat) H1
def iRng2 (ta:TA):TI:=fun σ H R=>ta σ H fun vs H1=>∃i j:Int,vs=[.int i,.int j]/\(-(2 ^ 62)<=i/\i<2 ^ 62/\ -(2 ^ 62)<=j/\j<2 ^ 62)/\R (Itr i (j - i).toNat) H1
theorem q0a {a:Expr}{ta:TA}{p pos:Pos}(hg:Gl X "range")(hm:X.mg "range"=none)(ha:PA X [a] ta)(hs:starEach [a] X.env=[(false,eval a X.env)]:=by rfl):PI X tg (.Call (.Name "range" p) [a] [] pos) (iRng1 ta):=by
 intro pins s σ H R I h
 refine Call_ (q38 I hg hm boot_range (zaj (thn (ha pos pins s σ H _ I h) fun us s1 ⟨vs,H1,I1,r1,q1⟩=>?_) hs rfl))
 obtain⟨j,e,q1,q2,q⟩:=q1
 subst e
 cases r1 with
 |cons r rr=>
  cases rr
  obtain⟨t,rfl⟩:=r
  exact call_range_1 (q6X I1 (by omega) (by omega) q1 q2 (by simpa using q))
theorem q8y {a b:Expr}{ta:TA}{p pos:Pos}(hg:Gl X "range")(hm:X.mg "range"=none)(ha:PA X [a,b] ta)(hs:starEach [a,b] X.env=[(false,eval a X.env),(false,eval b X.env)]:=by rfl)(hs2:starEach [b] X.env=[(false,eval b X.env)]:=by rfl):
  PI X tg (.Call (.Name "range" p) [a,b] [] pos) (iRng2 ta):=by
 intro pins s σ H R I h
 refine Call_ (q38 I hg hm boot_range (zaj (thn (ha pos pins s σ H _ I h) fun us s1 ⟨vs,H1,I1,r1,q1⟩=>?_) (by rw[hs,hs2]) (by rw[hs2];rfl)))
 obtain⟨i,j,e,⟨q1,q2,q3,q4⟩,q⟩:=q1
 subst e
 cases r1 with
 |cons r rr=>
  cases rr with
  |cons r' rr=>
   cases rr
   obtain⟨t,rfl⟩:=r
   obtain⟨t',rfl⟩:=r'
   exact call_range_2 (q6X I1 q1 q2 q3 q4 q)
def tFor (wi:TI)(g:TG)(tb:TS):TS:=fun D σ H=>wi σ H fun J H1=>∃W:Nat->Nat->St->Hp->Prop,(∃m,W 0 m σ H1)/\∀i m σ H,W i m σ H->
 (J.stop i H/\D.nx σ H)\/(J.go i H/\∃N:St->Hp->Prop,(∀σ' H',N σ' H'->∃m',m'<m/\W (i+1) m' σ' H')/\∀x H',J.yld i H x H'->g x σ H' fun σ2 H2=>tb {D with nx:=N,ct:=N,bk:=D.nx} σ2 H2)
def q4o (fp:List Addr)(h:Heap):List (Addr×Obj):=fp.filterMap fun b=>(h.get? b).map fun o=>(b,o)
theorem q1i {fp:List Addr}{h:Heap}{b:Addr}{o:Obj}(hb:b∈fp)(e:h.get? b=some o):(b,o)∈q4o fp h:=zaT.mpr ⟨b,hb,by rw[e];rfl⟩
theorem q8L {fp:List Addr}{h:Heap}{p:Addr×Obj}(hp:p∈q4o fp h):p.1∈fp/\h.get? p.1=some p.2:=by
 obtain⟨b,hb,e⟩:=zaT.mp hp
 cases q:h.get? b with
 |none=>rw[q] at e;cases e
 |some o=>
  rw[q] at e
  have e':(b,o)=p:=zC e
  subst e'
  exact⟨hb,q⟩
theorem Inv.pinned {pins:List (Addr×Obj)}{σ:St}{H:Hp}{s:Shared}{fp:List Addr}(I:Inv X pins σ H s)(hf:∀b∈fp,FpOk X pins H b)(ho:∀b∈fp,∃o,s.heap.get? b=some o/\∀v,o.data≠ .cell v):Inv X (pins++q4o fp s.heap) σ H s:=
 I.pins_of fun p hp=>(zad.mp hp).elim (fun z=>I.pin p (zI _ z)) fun z=>by
  obtain⟨hb,e⟩:=q8L z
  obtain⟨f0,f1,f2,_⟩:=hf p.1 hb
  obtain⟨o,e',d⟩:=ho p.1 hb
  rw[e] at e';cases e'
  exact⟨e,f0,f1,f2,d⟩
theorem Inv.unpinned {pins pl:List (Addr×Obj)}{σ:St}{H:Hp}{s:Shared}(I:Inv X (pins++pl) σ H s):Inv X pins σ H s:=I.pins_of fun p hp=>I.pin p (zI _ (zaL _ hp))
theorem q0K {iter:Expr}{body:List Stmt}{wi:TI}{g:TG}{tb:TS}{pos:Pos}(hp:PassesOwn (model X.prog X.w) X.A X.env X.xe)(hc:X.calm=true)(hi:PI X tg iter wi)(hg:PG X tg g)(hb:PSs X body tb)
  (hs:∀x,foldedSetIterable iter X.env x=pure x:=by intro _;rfl):PS X (.For tg iter body [] pos) (tFor wi g tb):=by
 intro pins s σ H D I h
 refine wpAny_For (thn (hi pins s σ H _ I h) fun v s1 h1=>thn h1 fun itv s2 h2=>?_) hs
 obtain⟨it,fp,tn,J,H2,e,I2,T,st2,f2,W,⟨m0,w0⟩,turn⟩:=h2
 subst e
 -- what stays true of the iterator's objects through the loop
 have stat:∀{H':Hp},(∀b∈fp,H' b=none)->∀b∈fp,FpOk X pins H' b:=fun hn b hb=>⟨hn b hb,(f2 b hb).2⟩
 refine codeAny_forLoop_any (fun n s'=>∃i σ' H',Inv X pins σ' H' s'/\tn i s'.heap/\(∀b∈fp,H' b=none)/\W i n σ' H') ?_ m0 ⟨0,σ,H2,I2,st2,fun b hb=>(f2 b hb).1,w0⟩
 rintro n s3 ⟨i,σ3,H3,I3,st3,fr3,w3⟩
 rcases turn i n σ3 H3 w3 with⟨stop,qn⟩|⟨go,N,hN,step⟩
 ·refine zaX hp (thn (T.done X rfl rfl rfl hc i pins s3 σ3 H3 X.xe I3 (stat fr3) st3 stop) fun r s4 ⟨hr,I4⟩=>?_)
  subst hr
  exact zaM ⟨σ3,H3,I4,qn⟩
 ·refine zaX hp (thn (T.item X rfl rfl rfl hc i pins s3 σ3 H3 X.xe I3 (stat fr3) st3 go) fun r s4 ⟨u,hr,h4⟩=>?_)
  subst hr
  refine zaX hp (thn h4 fun _ s5 ⟨x,H5,I5,r5,y5,st5,fr5⟩=>?_)
  have I5':=I5.pinned (stat fr5) (T.obj _ _ st5)
  refine zaX hp (thn (hg _ s5 σ3 H5 x u _ I5' r5 (step x H5 y5)) fun _ s6 ⟨σ6,H6,I6,q6⟩=>?_)
  refine zaX hp (thn (hb _ s6 σ6 H6 _ I6 q6) fun f s7 q7=>?_)
  have again:∀{σ7:St} {H7:Hp},Inv X (pins++q4o fp s5.heap) σ7 H7 s7->N σ7 H7->∃m,m<n/\∃i σ' H',Inv X pins σ' H' s7/\tn i s7.heap/\(∀b∈fp,H' b=none)/\W i m σ' H':=fun {σ7 H7} I7 n7=>by
   obtain⟨m',hm,w7⟩:=hN σ7 H7 n7
   refine⟨m',hm,i+1,σ7,H7,I7.unpinned,T.keep _ _ _ st5 fun b hb o e=>(I7.pin (b,o) (zI _ (zI _ (q1i hb e)))).1,fun b hb=>?_,w7⟩
   obtain⟨o,e,d⟩:=T.obj _ _ st5 b hb
   exact(I7.pin (b,o) (zI _ (zI _ (q1i hb e)))).2.1
  cases f with
  |next=>obtain⟨σ7,H7,I7,n7⟩:=q7;exact again I7 n7
  |cont=>obtain⟨σ7,H7,I7,n7⟩:=q7;exact again I7 n7
  |brk=>obtain⟨σ7,H7,I7,q7⟩:=q7;exact⟨σ7,H7,I7.unpinned,q7⟩
  |ret v=>obtain⟨x7,σ7,H7,I7,r7,q7⟩:=q7;exact⟨x7,σ7,H7,I7.unpinned,r7,q7⟩
end
abbrev R2:=V->V->Hp->VK->Prop
def OpR (X:Cx)(f:Value->Value->Sem Value)(r:R2):Prop:=
 ∀(pins:List (Addr×Obj)) (s:Shared) (σ:St) (H:Hp) (x y:V) (v u:Value) (Q:VK),Inv X pins σ H s->RelV x v->RelV y u->r x y H Q->
  wpAny (model X.prog X.w) X.A (f v u) (EP X pins σ Q) X.xe s
def UnR (X:Cx)(f:Value->Sem Value)(r:V->Hp->VK->Prop):Prop:=
 ∀(pins:List (Addr×Obj)) (s:Shared) (σ:St) (H:Hp) (x:V) (v:Value) (Q:VK),Inv X pins σ H s->RelV x v->r x H Q->
  wpAny (model X.prog X.w) X.A (f v) (EP X pins σ Q) X.xe s
def q1g (X:Cx)(f:Value)(r:List V->Hp->VK->Prop):Prop:=
 ∀(pins:List (Addr×Obj)) (s:Shared) (σ:St) (H:Hp) (xs:List V) (us:List Value) (Q:VK),Inv X pins σ H s->Vals xs us->r xs H Q->
  wpAny (model X.prog X.w) X.A (call f us) (EP X pins σ Q) X.xe s
def tOp (r:R2)(ta tb:TE):TE:=fun σ H Q=>ta σ H fun x H1=>tb σ H1 fun y H2=>r x y H2 Q
def tUn (r:V->Hp->VK->Prop)(ta:TE):TE:=fun σ H Q=>ta σ H fun x H1=>r x H1 Q
def rI (C:Int->Int->Prop)(g:Int->Int->V):R2:=fun x y H Q=>∃i j,x= .int i/\y= .int j/\C i j/\Q (g i j) H
def rI0 (g:Int->Int->V):R2:=fun x y H Q=>∃i j,x= .int i/\y= .int j/\Q (g i j) H
def rU (g:Int->V):V->Hp->VK->Prop:=fun x H Q=>∃i,x= .int i/\Q (g i) H
section
variable {X:Cx}{a b c:Expr}{ta tb tc:TE}{pos:Pos}
theorem binT (ha:PE X a ta)(hb:PE X b tb){pins:List (Addr×Obj)}{s:Shared}{σ:St}{H:Hp}{R:V->V->Hp->Prop}(I:Inv X pins σ H s)
  (h:ta σ H fun x H1=>tb σ H1 fun y H2=>R x y H2){Q:Value->Shared->Prop}{f:Value->Value->Sem Value}
  (hf:∀v u s2 x y H2,Inv X pins σ H2 s2->RelV x v->RelV y u->R x y H2->wpAny (model X.prog X.w) X.A (f v u) Q X.xe s2):
  wpAny (model X.prog X.w) X.A (eval a X.env) (fun v s₁=>wpAny (model X.prog X.w) X.A (eval b X.env) (fun u s₂=>wpAny (model X.prog X.w) X.A (f v u) Q X.xe s₂) X.xe s₁) X.xe s:=by
 refine thn (ha pins s σ H _ I h) fun v s1 ⟨x,H1,I1,r1,q1⟩=>?_
 refine thn (hb pins s1 σ H1 _ I1 q1) fun u s2 ⟨y,H2,I2,r2,q2⟩=>?_
 exact hf v u s2 x y H2 I2 r1 r2 q2
theorem qk {op:Operator}{r:R2}(ho:OpR X (binaryOp op) r)(ha:PE X a ta)(hb:PE X b tb):PE X (.BinOp a op b pos) (tOp r ta tb):=by
 intro pins s σ H Q I h
 exact wpAny_BinOp (binT ha hb I h fun v u s2 x y H2 I2 rx ry q=>ho pins s2 σ H2 x y v u Q I2 rx ry q)
theorem pe_un {op:UnaryOp}{r:V->Hp->VK->Prop}(ho:UnR X (unaryOp op) r)(ha:PE X a ta):PE X (.UnaryOp op a pos) (tUn r ta):=by
 intro pins s σ H Q I h
 exact UnaryOp_ (thn (ha pins s σ H _ I h) fun v s1 ⟨x,H1,I1,r1,q1⟩=>ho pins s1 σ H1 x v Q I1 r1 q1)
theorem opI {f:Value->Value->Sem Value}{C:Int->Int->Prop}{g:Int->Int->Int}
  (rule:∀(i j:Int) (t u:Tok) (s:Shared) (Q:Value->Shared->Prop) (E:Value->Shared->Prop),C i j->Q (.int (g i j) s.toks) {s with toks:=s.toks+1}->wpAny (model X.prog X.w) X.A (f (.int i t) (.int j u)) Q E s):
  OpR X f (rI C fun i j=> .int (g i j)):=by
 intro pins s σ H x y v u Q I rx ry h
 obtain⟨i,j,rfl,rfl,hc,q⟩:=h
 obtain⟨t,rfl⟩:=rx
 obtain⟨t',rfl⟩:=ry
 exact rule i j t t' s _ _ hc ⟨.int (g i j),H,I.tok _,⟨_,rfl⟩,q⟩
theorem opI0 {f:Value->Value->Sem Value}{g:Int->Int->Int}
  (rule:∀(i j:Int) (t u:Tok) (s:Shared) (Q:Value->Shared->Prop) (E:Value->Shared->Prop),Q (.int (g i j) s.toks) {s with toks:=s.toks+1}->wpAny (model X.prog X.w) X.A (f (.int i t) (.int j u)) Q E s):
  OpR X f (rI0 fun i j=> .int (g i j)):=by
 intro pins s σ H x y v u Q I rx ry h
 obtain⟨i,j,rfl,rfl,q⟩:=h
 obtain⟨t,rfl⟩:=rx
 obtain⟨t',rfl⟩:=ry
 exact rule i j t t' s _ _ ⟨.int (g i j),H,I.tok _,⟨_,rfl⟩,q⟩
theorem opB0 {f:Value->Value->Sem Value}{g:Int->Int->Bool}
  (rule:∀(i j:Int) (t u:Tok) (s:Shared) (Q:Value->Shared->Prop) (E:Value->Shared->Prop),Q (.bool (g i j)) s->wpAny (model X.prog X.w) X.A (f (.int i t) (.int j u)) Q E s):
  OpR X f (rI0 fun i j=> .bl (g i j)):=by
 intro pins s σ H x y v u Q I rx ry h
 obtain⟨i,j,rfl,rfl,q⟩:=h
 obtain⟨t,rfl⟩:=rx
 obtain⟨t',rfl⟩:=ry
 exact rule i j t t' s _ _ ⟨.bl (g i j),H,I,rfl,q⟩
def CDiv (i j:Int):Prop:=0<j/\j<1073741824
def CPow (i j:Int):Prop:=0<=j/\j<=1000000/\i.natAbs<2 ^ 64
def CMul (i j:Int):Prop:=(-(2 ^ 64)<i/\i<2 ^ 64)\/(-(2 ^ 64)<j/\j<2 ^ 64)
theorem CMul.ok {i j:Int}(h:CMul i j):IntMulOk i j:=by
 rcases h with⟨h1,h2⟩|⟨h1,h2⟩
 ·exact .of_left (intBits_le_64 h1 h2)
 ·exact .of_right (intBits_le_64 h1 h2)
theorem two_pow_nn (k:Nat):(0:Int)<=2 ^ k:=by
 rw[two_pow_cast]
 exact Int.natCast_nonneg _
theorem q03:OpR X (binaryOp .Add) (rI0 fun i j=> .int (i+j)):=opI0 fun _ _ _ _ _ _ _ q=>add_int q
theorem q3x:OpR X (binaryOp .Sub) (rI0 fun i j=> .int (i - j)):=opI0 fun _ _ _ _ _ _ _ q=>sub_int q
theorem q4q:OpR X (binaryOp .Mult) (rI CMul fun i j=> .int (i*j)):=opI fun _ _ _ _ _ _ _ hc q=>mul_int q hc.ok
theorem qU:OpR X (binaryOp .FloorDiv) (rI CDiv fun i j=> .int (i / j)):=opI fun i j _ _ _ _ _ hc q=>by
 have h1:(0:Int)<j:=hc.1
 have h2:j<1073741824:=hc.2
 exact floordiv_int (by omega) (by rw[zb6 i (by omega)];exact q) (.inl (PyProof.noPylong_small (by omega)))
theorem qI:OpR X (binaryOp .Mod) (rI (fun _ j=>0<j) fun i j=> .int (i % j)):=opI fun i j _ _ _ _ _ hc q=>by
 have h1:(0:Int)<j:=hc
 exact mod_int' (by omega) (by rw[Int.fmod_eq_emod_of_nonneg i (by omega)];exact q)
theorem q2H:OpR X (binaryOp .LShift) (rI CPow fun i j=> .int (i*2 ^ j.toNat)):=opI fun _ _ _ _ _ _ _ hc q=>lshift_int_small hc.1 hc.2.1 hc.2.2 q
theorem q4p:OpR X (binaryOp .RShift) (rI (fun _ j=>0<=j) fun i j=> .int (i / 2 ^ j.toNat)):=opI fun i j _ _ _ _ _ hc q=>
 rshift_int hc (by rw[zb6 i (two_pow_nn _)];exact q)
theorem q3T:OpR X (binaryOp .BitAnd) (rI0 fun i j=> .int (Builtin.bitAnd i j)):=opI0 fun _ _ _ _ _ _ _ q=>and_int q
theorem qc4:OpR X (binaryOp .BitOr) (rI0 fun i j=> .int (Builtin.bitOr i j)):=opI0 fun _ _ _ _ _ _ _ q=>or_int q
theorem q8D:OpR X (binaryOp .BitXor) (rI0 fun i j=> .int (Builtin.bitXor i j)):=opI0 fun _ _ _ _ _ _ _ q=>xor_int q
theorem unI {f:Value->Sem Value}{g:Int->Int}
  (rule:∀(i:Int) (t:Tok) (s:Shared) (Q:Value->Shared->Prop) (E:Value->Shared->Prop),Q (.int (g i) s.toks) {s with toks:=s.toks+1}->wpAny (model X.prog X.w) X.A (f (.int i t)) Q E s):
  UnR X f (rU fun i=> .int (g i)):=by
 intro pins s σ H x v Q I rx h
 obtain⟨i,rfl,q⟩:=h
 obtain⟨t,rfl⟩:=rx
 exact rule i t s _ _ ⟨.int (g i),H,I.tok _,⟨_,rfl⟩,q⟩
theorem qaY:UnR X (unaryOp .USub) (rU fun i=> .int (-i)):=unI fun _ _ _ _ _ q=>neg_int q
end
def scal:V->V->Bool
 | .non,.non=>true| .non,.int _=>true| .int _,.non=>true| .non,.bl _=>true| .bl _,.non=>true| .non,.str _=>true| .str _,.non=>true
 | .int _,.int _=>true| .bl _,.bl _=>true| .str _,.str _=>true| .byt _,.byt _=>true
 | .int _,.str _=>true| .str _,.int _=>true| .bl _,.str _=>true| .str _,.bl _=>true
 |_,_=>false
def rEq:R2:=fun x y H Q=>scal x y=true/\Q (.bl (decide (x=y))) H
def rNe:R2:=fun x y H Q=>scal x y=true/\Q (.bl (!decide (x=y))) H
theorem q9i {i j:Int}:decide (V.int i=V.int j)=(i==j):=by
 rw[zP]
 simp
theorem qbl {i j:Bool}:decide (V.bl i=V.bl j)=(i==j):=by
 rw[zP]
 simp
theorem q9h {i j:Str}:decide (V.str i=V.str j)=(i==j):=by
 rw[zP]
 simp
theorem q9j {i j:Array UInt8}:decide (V.byt i=V.byt j)=(i.toList==j.toList):=by
 rw[zP]
 cases i
 cases j
 simp
section
variable {X:Cx}{a b c:Expr}{ta tb tc:TE}{pos:Pos}
theorem q07 {pins:List (Addr×Obj)}{σ:St}{H:Hp}{s:Shared}{Q:VK}{k k':Bool}(I:Inv X pins σ H s)(q:Q (.bl k) H)(e:k=k'):EP X pins σ Q (.bool k') s:=by
 subst e
 exact⟨.bl k,H,I,rfl,q⟩
theorem qS:OpR X (compareOp .Eq) rEq:=by
 intro pins s σ H x y v u Q I rx ry h
 obtain⟨hs,q⟩:=h
 cases x with
 |non=>
  cases rx
  cases y with
  |non=>cases ry;exact PySem.EqNone.eq_none_none (q07 I q (by simp))
  |bl j=>cases ry;exact PySem.EqNone.eq_none_bool (q07 I q (by simp))
  |int j=>obtain⟨t',rfl⟩:=ry;exact PySem.EqNone.eq_none_int (q07 I q (by simp))
  |str j=>obtain⟨t',rfl⟩:=ry;exact PySem.EqNone.eq_none_str (q07 I q (by simp))
  |_=>exact absurd (show false=true from hs) zu
 |bl i=>
  cases rx
  cases y with
  |non=>cases ry;exact PySem.EqNone.eq_bool_none (q07 I q (by simp))
  |bl j=>cases ry;exact eq_bool (q07 I q qbl)
  |str j=>obtain⟨t',rfl⟩:=ry;exact PySem.EqMixed.eq_bool_str (q07 I q (by simp))
  |_=>exact absurd (show false=true from hs) zu
 |int i=>
  obtain⟨t,rfl⟩:=rx
  cases y with
  |non=>cases ry;exact PySem.EqNone.eq_int_none (q07 I q (by simp))
  |int j=>obtain⟨t',rfl⟩:=ry;exact eq_int (q07 I q q9i)
  |str j=>obtain⟨t',rfl⟩:=ry;exact PySem.EqMixed.eq_int_str (q07 I q (by simp))
  |_=>exact absurd (show false=true from hs) zu
 |str i=>
  obtain⟨t,rfl⟩:=rx
  cases y with
  |non=>cases ry;exact PySem.EqNone.eq_str_none (q07 I q (by simp))
  |bl j=>cases ry;exact PySem.EqMixed.eq_str_bool (q07 I q (by simp))
  |int j=>obtain⟨t',rfl⟩:=ry;exact PySem.EqMixed.eq_str_int (q07 I q (by simp))
  |str j=>obtain⟨t',rfl⟩:=ry;exact eq_str (q07 I q q9h)
  |_=>exact absurd (show false=true from hs) zu
 |byt i=>
  obtain⟨t,rfl⟩:=rx
  cases y with
  |byt j=>obtain⟨t',rfl⟩:=ry;exact PySem.W.eq_bytes (q07 I q q9j)
  |_=>exact absurd (show false=true from hs) zu
 |_=>cases y<;>exact absurd (show false=true from hs) zu
theorem q5R:OpR X (compareOp .NotEq) rNe:=by
 intro pins s σ H x y v u Q I rx ry h
 obtain⟨hs,q⟩:=h
 cases x with
 |non=>
  cases rx
  cases y with
  |non=>cases ry;exact PySem.EqNone.ne_none_none (q07 I q (by simp))
  |bl j=>cases ry;exact PySem.EqNone.ne_none_bool (q07 I q (by simp))
  |int j=>obtain⟨t',rfl⟩:=ry;exact PySem.EqNone.ne_none_int (q07 I q (by simp))
  |str j=>obtain⟨t',rfl⟩:=ry;exact PySem.EqNone.ne_none_str (q07 I q (by simp))
  |_=>exact absurd (show false=true from hs) zu
 |bl i=>
  cases rx
  cases y with
  |non=>cases ry;exact PySem.EqNone.ne_bool_none (q07 I q (by simp))
  |bl j=>cases ry;exact ne_bool (q07 I q (zae not qbl))
  |str j=>obtain⟨t',rfl⟩:=ry;exact PySem.EqMixed.ne_bool_str (q07 I q (by simp))
  |_=>exact absurd (show false=true from hs) zu
 |int i=>
  obtain⟨t,rfl⟩:=rx
  cases y with
  |non=>cases ry;exact PySem.EqNone.ne_int_none (q07 I q (by simp))
  |int j=>obtain⟨t',rfl⟩:=ry;exact ne_int (q07 I q (zae not q9i))
  |str j=>obtain⟨t',rfl⟩:=ry;exact PySem.EqMixed.ne_int_str (q07 I q (by simp))
  |_=>exact absurd (show false=true from hs) zu
 |str i=>
  obtain⟨t,rfl⟩:=rx
  cases y with
  |non=>cases ry;exact PySem.EqNone.ne_str_none (q07 I q (by simp))
  |bl j=>cases ry;exact PySem.EqMixed.ne_str_bool (q07 I q (by simp))
  |int j=>obtain⟨t',rfl⟩:=ry;exact PySem.EqMixed.ne_str_int (q07 I q (by simp))
  |str j=>obtain⟨t',rfl⟩:=ry;exact ne_str (q07 I q (zae not q9h))
  |_=>exact absurd (show false=true from hs) zu
 |byt i=>
  obtain⟨t,rfl⟩:=rx
  cases y with
  |byt j=>obtain⟨t',rfl⟩:=ry;exact PySem.W.ne_bytes (q07 I q (zae not q9j))
  |_=>exact absurd (show false=true from hs) zu
 |_=>cases y<;>exact absurd (show false=true from hs) zu
theorem q8F:OpR X (compareOp .Lt) (rI0 fun i j=> .bl (decide (i<j))):=opB0 fun _ _ _ _ _ _ _ q=>lt_int q
theorem qag:OpR X (compareOp .LtE) (rI0 fun i j=> .bl (decide (i<=j))):=opB0 fun _ _ _ _ _ _ _ q=>le_int q
theorem q4j:OpR X (compareOp .Gt) (rI0 fun i j=> .bl (decide (j<i))):=opB0 fun _ _ _ _ _ _ _ q=>gt_int q
theorem q7w:OpR X (compareOp .GtE) (rI0 fun i j=> .bl (decide (j<=i))):=opB0 fun _ _ _ _ _ _ _ q=>ge_int q
theorem qu (b:Expr){op:CmpOp}(h:op≠ .In:=by decide)(h2:op≠ .NotIn:=by decide):behindInMarks op b=false:=by
 have e1:(op==CmpOp.In)=false:=by cases op<;>first|rfl|exact absurd rfl h
 have e2:(op==CmpOp.NotIn)=false:=by cases op<;>first|rfl|exact absurd rfl h2
 cases b<;>simp[behindInMarks,e1,e2]
theorem qR {op:CmpOp}{r:R2}(ho:OpR X (compareOp op) r)(ha:PE X a ta)(hb:PE X b tb)(hm:behindInMarks op b=false):PE X (.Compare a [op] [b] pos) (tOp r ta tb):=by
 intro pins s σ H Q I h
 exact wpAny_Compare1 (binT ha hb I h fun v u s2 x y H2 I2 rx ry q=>ho pins s2 σ H2 x y v u Q I2 rx ry q) hm
def tTest (t:TE):TT:=fun σ H Q=>t σ H fun x H'=>∃k,x= .bl k/\Q k H'
theorem qw {op:CmpOp}{r:R2}(ho:OpR X (compareOp op) r)(ha:PE X a ta)(hb:PE X b tb)(hm:behindInMarks op b=false):PT X (.Compare a [op] [b] pos) (tTest (tOp r ta tb)):=by
 intro pins s σ H Q I h
 refine wpAny_isTrue_Compare1 (thn (ha pins s σ H _ I h) fun v s1 ⟨x,H1,I1,r1,q1⟩=>thn (hb pins s1 σ H1 _ I1 q1) fun u s2 ⟨y,H2,I2,r2,q2⟩=>
  thn (ho pins s2 σ H2 x y v u _ I2 r1 r2 q2) fun c s3 ⟨z,H3,I3,r3,k,e,q3⟩=>?_) hm
 subst e
 cases r3
 exact zaF ⟨H3,I3,q3⟩
def qb3 (r r':R2)(ta tb tc:TE):TE:=fun σ H Q=>ta σ H fun x H1=>tb σ H1 fun y H2=>r x y H2 fun z H3=>∃k,z= .bl k/\
 (if k=true then tc σ H3 fun w' H4=>r' y w' H4 Q else Q (.bl false) H3)
theorem qae {op op':CmpOp}{r r':R2}(ho:OpR X (compareOp op) r)(ho':OpR X (compareOp op') r')(ha:PE X a ta)(hb:PE X b tb)(hc:PE X c tc)
  (hm:lastMarks [op,op'] [b,c]=false:=by with_unfolding_all rfl):PE X (.Compare a [op,op'] [b,c] pos) (qb3 r r' ta tb tc):=by
 intro pins s σ H Q I h
 refine Compare_chain (thn (ha pins s σ H _ I h) fun v s1 ⟨x,H1,I1,r1,q1⟩=>chain_link (thn (hb pins s1 σ H1 _ I1 q1) fun u s2 ⟨y,H2,I2,r2,q2⟩=>
  thn (ho pins s2 σ H2 x y v u _ I2 r1 r2 q2) fun d s3 ⟨z,H3,I3,r3,k,e,q3⟩=>?_)) hm
 subst e
 cases r3
 refine zaF ?_
 cases k with
 |false=>exact ite_ff ⟨.bl false,H3,I3,rfl,q3⟩
 |true=>exact ite_tt (chain_last (thn (hc pins s3 σ H3 _ I3 q3) fun w' s4 ⟨z',H4,I4,r4,q4⟩=>ho' pins s4 σ H4 y z' u w' Q I4 r2 r4 q4))
theorem q5U:(sizeLine:Nat)<2 ^ 63:=by rw[sizeLine_eq];decide
theorem q2U {x:V}{us:List Value}(r:Vals [x] us):∃u,us=[u]/\RelV x u:=by
 cases r with
 |cons r1 r2=>cases r2;exact⟨_,rfl,r1⟩
theorem qbu {x y:V}{us:List Value}(r:Vals [x,y] us):∃u w',us=[u,w']/\RelV x u/\RelV y w':=by
 cases r with
 |cons r1 r2=>
  cases r2 with
  |cons r3 r4=>cases r4;exact⟨_,_,rfl,r1,r3⟩
theorem q9x (hc:X.calm=true):q1g X (.builtin "max") (fun xs H Q=>∃i j,xs=[.int i,.int j]/\Q (.int (if j>i then j else i)) H):=by
 intro pins s σ H xs us Q I r h
 obtain⟨i,j,rfl,q⟩:=h
 obtain⟨u,w',rfl,⟨t,rfl⟩,⟨t',rfl⟩⟩:=qbu r
 refine max_two_ints (I.ok.hd hc) fun h' tk k=>⟨_,H,I.kept k,?_,q⟩
 by_cases hj:j>i
 ·rw [zt hj,zt hj];exact⟨_,rfl⟩
 ·rw [zo hj,zo hj];exact⟨_,rfl⟩
theorem q9w (hc:X.calm=true):q1g X (.builtin "min") (fun xs H Q=>∃i j,xs=[.int i,.int j]/\Q (.int (if j<i then j else i)) H):=by
 intro pins s σ H xs us Q I r h
 obtain⟨i,j,rfl,q⟩:=h
 obtain⟨u,w',rfl,⟨t,rfl⟩,⟨t',rfl⟩⟩:=qbu r
 refine min_two_ints (I.ok.hd hc) fun h' tk k=>⟨_,H,I.kept k,?_,q⟩
 by_cases hj:j<i
 ·rw [zt hj,zt hj];exact⟨_,rfl⟩
 ·rw [zo hj,zo hj];exact⟨_,rfl⟩
theorem q9z:q1g X (.type "int") (fun xs H Q=>(∃i,xs=[.int i]/\Q (.int i) H)\/∃k,xs=[.bl k]/\Q (.int (if k then 1 else 0)) H):=by
 intro pins s σ H xs us Q I r h
 rcases h with⟨i,rfl,q⟩|⟨k,rfl,q⟩
 ·obtain ⟨u,rfl,t,rfl⟩:=q2U r
  exact call_int_int ⟨.int i,H,I,⟨_,rfl⟩,q⟩
 ·obtain ⟨u,rfl,r1⟩:=q2U r
  cases r1
  exact call_int_bool ⟨.int (if k then 1 else 0),H,I.tok _,⟨_,rfl⟩,q⟩
end
structure ObjM (h:Heap)(x dx C:Addr)(mA:Str->Option Value):Prop where
 obj:h.get? x=some (PySem.W.instObj C dx)
 ns:h.Ns1 dx mA
 ne:dx≠x
theorem q8O {h:Heap}{dx:Addr}{mA:Str->Option Value}(n:h.Ns1 dx mA):∃od,h.get? dx=some od/\∀name,PySem.W.lookIn name od=some (mA name):=by
 obtain⟨o,es,ep,ho,hd,hk,_,hm⟩:=n
 refine⟨o,ho,fun name=>?_⟩
 have e:=hm name
 unfold nsFind findBy at e
 rw[<-Array.find?_toList] at e
 unfold PySem.W.lookIn
 rw[hd]
 dsimp only
 split
 ·rename_i y q
  rw[q] at e
  exact zae some e
 ·rename_i q
  rw[q] at e
  have a:es.toList.any (·.refKey)=false:=by
   rw[List.any_eq_false]
   intro y hy
   obtain⟨z,t,hkey⟩:=hk y (Array.mem_toList_iff.mp hy)
   simp[DictEntry.refKey,hkey]
  have a':¬es.toList.any (·.refKey)=true:=by rw[a];exact zu
  rw[zo a']
  exact zae some e
theorem ObjM.look {h:Heap}{x dx C:Addr}{mA:Str->Option Value}(I:ObjM h x dx C mA):∃od,PySem.W.InstAt h x (PySem.W.instObj C dx) C (some od)/\∀name,PySem.W.lookIn name od=some (mA name):=
 let ⟨od,ho,hl⟩:=q8O I.ns
 ⟨od,⟨I.obj,rfl,rfl,ho⟩,hl⟩
section
variable {prog:Program}{w:World}{A:Around}{E:Value->Shared->Prop}{s:Shared}{K:W.Frag}{x dx C f:Addr}{mA:Str->Option Value}{name:Str}{v:Value}
theorem qcA {expr:Bool}{Q:Value->Shared->Prop}(X:K.In s.heap)(I:ObjM s.heap x dx C mA)(hg:PySem.W.plainGet K C name=true)(hh:PySem.W.hasDictIn K C=true)
  (ha:PySem.W.findIn K (.ref C) name=some none)(hv:mA name=some v)(hv':PySem.W.handedIn v=true)(h:Q v {s with toks:=s.toks+1}):
  wpAny (model prog w) A (getAttr (.ref x) name expr) Q E s:=by
 obtain⟨od,J,hl⟩:=I.look
 exact PySem.W.get_value X J (zbT hg).1 (PySem.W.findObj_own hh ha rfl (by rw[hl,hv])) hv' h
theorem qaI {pl:Sem Bool}{Q:Value×List Value->Shared->Prop}(X:K.In s.heap)(I:ObjM s.heap x dx C mA)(hg:PySem.W.plainGet K C name=true)
  (hf:PySem.W.findIn K (.ref C) name=some (some (.ref f)))(ht:PySem.W.isFn K (.ref f)=true)(hv:mA name=none)(h:Q (.ref f,[.ref x]) s):
  wpAny (model prog w) A (getMethod (.ref x) name pl) Q E s:=by
 obtain⟨od,J,hl⟩:=I.look
 exact PySem.W.method_fn X J (zbT hg).1 (zbT hg).2 hf (beq_iff_eq.mp ht) (by show(PySem.W.lookIn name od).map (·.isSome)=some false;rw[hl,hv];rfl) h
theorem set_map {ns:List Str}{Q:Unit->Shared->Prop}(X:K.In s.heap)(I:ObjM s.heap x dx C mA)
  (hs:PySem.W.findIn K (.ref C) "__setattr__"=some (some (.builtin "object.__setattr__")))(hp:PySem.W.plainOver K C=true)(ht:PySem.W.takerIn K C name=some none)(hh:PySem.W.hasDictIn K C=true)
  (hw:PySem.Within mA ns)(hsz:ns.length<=sizeLine)
  (h:∀h',ObjM h' x dx C (fun y=>if y=name then some v else mA y)->Heap.SameBut dx s.heap h'->Q () {s with heap:=h',toks:=s.toks+2}):
  wpAny (model prog w) A (setAttr (.ref x) name v) Q E s:=by
 obtain⟨od,J,hl⟩:=I.look
 refine PySem.W.set_plain X J hs (PySem.W.osa_open (s:={s with toks:=s.toks+1}) (r:=none) X J hp ht fun b=>?_)
 obtain⟨cd,hc,hd'⟩:=PySem.W.any_some hh
 have hx:s.heap.get? x=some ⟨.ref C,some dx,.plain,#[]⟩:=I.obj
 refine yD (zl (yD (yD (zct hx (yD (PySem.W.Looks.here (s:={s with toks:=s.toks+1}) (PySem.W.looks_clsIn X hc) ?_))))))
 rw[hd']
 refine zl (a:=some dx) (yD (zl (yD ?_)))
 refine wpAny_nsSet1 (s:={s with toks:=s.toks+1}) I.ns fun h' hn2 hs2=>?_
 obtain⟨oD,esD,epD,hoD,hdD,hcD⟩:=hn2.count (PySem.Within.cons name v hw)
 refine yD (wpAny_lookBehind hoD (by rw[hdD];exact pastItsLine_dict (zab hcD (by rw[zaf];omega))) ?_)
 exact zl (h _ ⟨(hs2.2 _ (Ne.symm I.ne)).trans I.obj,hn2,I.ne⟩ hs2)
theorem qaz {R:Result->Shared->Prop}{vs:List Value}{kw:List (Str×Value)}(X:K.In s.heap)(hm:PySem.W.makesIn K C=true)
  (hi:PySem.W.findIn K (.ref C) "__init__"=some (some (.ref f)))(hf:PySem.W.typeIn K (.ref f)=some (.type "function"))
  (h:codeAny (model prog w) (A.under (.builtin "type.__call__" ⟨.ref C::vs,kw⟩)) (.call (.ref f) ⟨.ref (s.heap.objs.size+1)::vs,kw⟩) (PySem.W.InitBack (s.heap.objs.size+1) R)
   {s with heap:=(s.heap.push PySem.W.emptyDict).push (PySem.W.instObj C s.heap.objs.size)}):
  codeAny (model prog w) A (.call (.ref C) ⟨vs,kw⟩) R s:=by
 obtain⟨hh,g,d,t,os⟩:=s
 exact PySem.W.make_core (PySem.W.makes_of X hm) (PySem.W.looks_findIn X hi) (fun self=>PySem.W.bind_fn X self hf) (.inl rfl) h
end
def putF (f:Str)(v:V):List (Str×V)->List (Str×V)
 |[]=>[(f,v)]
 |(g,x)::r=>if g=f then(g,v)::r else(g,x)::putF f v r
theorem qQ (f g:Str)(v:V):∀fs:List (Str×V),(putF f v fs).lookup g=if g=f then some v else fs.lookup g
 |[]=>by
  show List.lookup g [(f,v)]=_
  by_cases h:g=f
  ·have hb:(g==f)=true:=beq_iff_eq.mpr h
   simp only[List.lookup,hb,if_pos h]
  ·have hb:(g==f)=false:=beq_eq_false_iff_ne.mpr h
   simp only[List.lookup,hb,if_neg h]
 |(k,x)::r=>by
  have ih:=qQ f g v r
  rw[show putF f v ((k,x)::r)=(if k=f then(k,v)::r else(k,x)::putF f v r) from rfl]
  by_cases hk:k=f
  ·rw [zt hk]
   by_cases h:g=k
   ·have hb:(g==k)=true:=beq_iff_eq.mpr h
    simp only[List.lookup,hb,if_pos (h.trans hk)]
   ·have hb:(g==k)=false:=beq_eq_false_iff_ne.mpr h
    simp only[List.lookup,hb,if_neg (fun e:g=f=>h (e.trans hk.symm))]
  ·rw [zo hk]
   by_cases h:g=k
   ·have hb:(g==k)=true:=beq_iff_eq.mpr h
    simp only[List.lookup,hb,if_neg (fun e:g=f=>hk (h.symm.trans e))]
   ·have hb:(g==k)=false:=beq_eq_false_iff_ne.mpr h
    simp only[List.lookup,hb]
    exact ih
theorem q2p (f:Str)(v:V):∀fs:List (Str×V),f∈(putF f v fs).map (·.1)/\∀g,g∈fs.map (·.1)->g∈(putF f v fs).map (·.1)
 |[]=>⟨by simp[putF],fun g h=>by simp at h⟩
 |(k,x)::r=>by
  obtain⟨i1,i2⟩:=q2p f v r
  rw[show putF f v ((k,x)::r)=(if k=f then(k,v)::r else(k,x)::putF f v r) from rfl]
  by_cases hk:k=f
  ·rw [zt hk]
   subst hk
   exact⟨by simp,fun g h=>by simpa using h⟩
  ·rw [zo hk]
   refine⟨?_,fun g h=>?_⟩
   ·rw [zZ]
    exact zE _ i1
   ·rw [zZ] at h ⊢
    rcases zG.mp h with e|e
    ·exact zG.mpr (.inl e)
    ·exact zE _ (i2 g e)
theorem q2R (f:Str)(v:V):∀fs:List (Str×V),(putF f v fs).length<=fs.length+1
 |[]=>by simp[putF]
 |(k,x)::r=>by
  have ih:=q2R f v r
  rw[show putF f v ((k,x)::r)=(if k=f then(k,v)::r else(k,x)::putF f v r) from rfl]
  by_cases hk:k=f
  ·rw [zt hk,zaf,zaf];omega
  ·rw [zo hk,zaf,zaf];omega
theorem RelO.some_of {v:V}{o:Option Value}(r:RelO (some v) o):∃u,o=some u/\RelV v u:=by
 cases o with
 |none=>exact(show False from r).elim
 |some u=>exact⟨u,rfl,r⟩
theorem RelO.none_of {o:Option Value}(r:RelO none o):o=none:=by
 cases o with
 |none=>rfl
 |some u=>exact(show False from r).elim
theorem q95 {v:V}{u:Value}(r:RelV v u):PySem.W.handedIn u=true:=by
 cases v with
 |non=>cases(show u=Value.none from r);rfl
 |bl b=>cases(show u=Value.bool b from r);rfl
 |int i=>obtain⟨t,e⟩:=(show∃t,u=Value.int i t from r);cases e;rfl
 |str x=>obtain⟨t,e⟩:=(show∃t,u=Value.str x t from r);cases e;rfl
 |byt b=>obtain⟨t,e⟩:=(show∃t,u=Value.bytes b t from r);cases e;rfl
 |flt b=>obtain⟨t,e⟩:=(show∃t,u=Value.float b t from r);cases e;rfl
 |ref a=>cases(show u=Value.ref a from r);rfl
 |ty n=>cases(show u=Value.type n from r);rfl
section
variable {P:Program}{w:World}{H H':Hp}{h h':Heap}{a C dx:Addr}{fs fs':List (Str×V)}
theorem q4R (hok:HOk P w H h)(e:H a=some (.ins C dx fs)):∃mA,ObjM h a dx C mA/\(∀f,RelO (fs.lookup f) (mA f))/\PySem.Within mA (fs.map (·.1))/\fs.length<=1000/\H dx=some (.own a):=by
 obtain⟨d,z,ne,ob,mA,n,r,q⟩:=(show q06 P w H h a (.ins C dx fs) from hok a _ e)
 exact⟨mA,⟨ob,n,ne⟩,r,q,z,d⟩
end
structure Cls (K:W.Frag)(C:Addr):Prop where
 pg:PySem.W.plainGet K C Str.empty=true
 hd:PySem.W.hasDictIn K C=true
 po:PySem.W.plainOver K C=true
 sa:PySem.W.findIn K (.ref C) "__setattr__"=some (some (.builtin "object.__setattr__"))
theorem Cls.get {K:W.Frag}{C:Addr}(c:Cls K C)(f:Str):PySem.W.plainGet K C f=true:=c.pg
def qK (K:W.Frag)(C:Addr)(f:Str):Prop:=PySem.W.findIn K (.ref C) f=some none
theorem qK.taker {K:W.Frag}{C:Addr}{f:Str}(n:qK K C f):PySem.W.takerIn K C f=some none:=by
 unfold PySem.W.takerIn
 rw[show PySem.W.findIn K (.ref C) f=some none from n]
 rfl
structure Meth (K:W.Frag)(C:Addr)(m:Str)(f:Addr):Prop where
 at_:PySem.W.findIn K (.ref C) m=some (some (.ref f))
 fn:PySem.W.isFn K (.ref f)=true
 kp:PySem.W.keepIn K (.ref f)=true
section
variable {X:Cx}{pins:List (Addr×Obj)}{σ:St}{H:Hp}{s:Shared}{a C dx:Addr}{fs:List (Str×V)}{f:Str}{v:V}{A:Around}{E:Value->Shared->Prop}
theorem q7K {b:Bool}{Q:Value->Shared->Prop}(I:Inv X pins σ H s)(e:H a=some (.ins C dx fs))(c:Cls X.K C)(n:qK X.K C f)(l:fs.lookup f=some v)
  (h:∀u s',Inv X pins σ H s'->RelV v u->Q u s'):wpAny (model X.prog X.w) A (getAttr (.ref a) f b) Q E s:=by
 obtain⟨mA,O,r,_,_,_⟩:=q4R I.hok e
 obtain⟨u,hu,ru⟩:=RelO.some_of (v:=v) (o:=mA f) (by rw[<-l];exact r f)
 exact qcA I.kIn O (c.get f) c.hd n hu (q95 ru) (h u _ (I.tok _) ru)
theorem q4u {m:Str}{g:Addr}{pl:Sem Bool}{Q:Value×List Value->Shared->Prop}(I:Inv X pins σ H s)(e:H a=some (.ins C dx fs))(c:Cls X.K C)(k:Meth X.K C m g)(l:fs.lookup m=none)
  (h:Q (.ref g,[.ref a]) s):wpAny (model X.prog X.w) A (getMethod (.ref a) m pl) Q E s:=by
 obtain⟨mA,O,r,_,_,_⟩:=q4R I.hok e
 have hn:mA m=none:=RelO.none_of (by rw[<-l];exact r m)
 exact qaI I.kIn O (c.get m) k.at_ k.fn hn h
theorem q7p {y:V}{u:Value}{Q:Unit->Shared->Prop}(I:Inv X pins σ H s)(e:H a=some (.ins C dx fs))(c:Cls X.K C)(n:qK X.K C f)(hl:fs.length<1000)(ry:RelV y u)
  (h:∀s',Inv X pins σ (upd H a (.ins C dx (putF f y fs))) s'->Q () s'):wpAny (model X.prog X.w) A (setAttr (.ref a) f u) Q E s:=by
 obtain⟨mA,O,r,wi,_,ho⟩:=q4R I.hok e
 have hz:(fs.map (·.1)).length<=sizeLine:=by rw[yC,sizeLine_eq];omega
 refine set_map I.kIn O c.sa c.po n.taker c.hd wi hz fun h' O' sb=>h _ ?_
 have hd:∃o,h'.get? dx=some o:=let ⟨o,_,_,e',_⟩:=O'.ns;⟨o,e'⟩
 refine I.write (x:=a) (e:=dx) (by rw[e];exact True.intro) (.inr ho) (fun b q hb z=>(sb.2 b hb).trans z) hd ?_
 refine⟨by rw[qq O.ne];exact ho,?_,O.ne,O'.obj,_,O'.ns,fun g=>?_,fun g hg=>?_⟩
 ·have:=q2R f y fs;omega
 ·show RelO ((putF f y fs).lookup g) (if g=f then some u else mA g)
  rw[qQ]
  by_cases q:g=f
  ·rw [zt q,zt q];exact ry
  ·rw [zo q,zo q];exact r g
 ·by_cases q:g=f
  ·rw [q];exact(q2p f y fs).1
  ·refine (q2p f y fs).2 g (wi g fun z=>hg ?_)
   show(if g=f then some u else mA g)=none
   rw[zo q];exact z
theorem Inv.made (I:Inv X pins σ H s):Inv X pins σ (upd (upd H s.heap.objs.size (.own (s.heap.objs.size+1))) (s.heap.objs.size+1) (.ins C s.heap.objs.size []))
  {s with heap:=(s.heap.push PySem.W.emptyDict).push (PySem.W.instObj C s.heap.objs.size)}:=by
 have e1:(s.heap.push PySem.W.emptyDict).get? s.heap.objs.size=some PySem.W.emptyDict:=zB s.heap rfl
 have e2:((s.heap.push PySem.W.emptyDict).push (PySem.W.instObj C s.heap.objs.size)).get? (s.heap.objs.size+1)=some (PySem.W.instObj C s.heap.objs.size):=by
  have:=zB (s.heap.push PySem.W.emptyDict) (o:=PySem.W.instObj C s.heap.objs.size) rfl
  rwa [za4] at this
 have e3:(s.heap.push PySem.W.emptyDict).Ns s.heap.objs.size (fun _=>none):=⟨PySem.W.emptyDict,#[],_,e1,rfl,(fun e he=>absurd he (by simp)),fun _=>rfl⟩
 have I1:=I.laid (a:=s.heap.objs.size) (o:= .own (s.heap.objs.size+1)) (h':=s.heap.push PySem.W.emptyDict) (t':=s.toks) (fun b u q=>zm _ q) (zn _) ⟨_,e1⟩
 refine I1.laid (a:=s.heap.objs.size+1) (o:= .ins C s.heap.objs.size []) (t':=s.toks) (fun b u q=>zm _ q) (zcl (za4 _ _)) ?_
 have ne:s.heap.objs.size≠s.heap.objs.size+1:=zF (zbk _)
 refine⟨by rw[qq ne,qe],zaC _,ne,e2,fun _=>none,(Heap.Ns1.of_empty e3).at fun o q=>zm _ q,fun _=>True.intro,fun y hy=>absurd rfl hy⟩
theorem qcU {prog:Program}{w:World}{env:Env}{e:Expr}{f:Str}{pos:Pos}{s:Shared}{Q:Value->Shared->Prop}(hb:attributeBase e f env (eval e env)=eval e env)
  (h:wpAny (model prog w) A (eval e env) (fun o s₁=>wpAny (model prog w) A (getAttr o f true) Q E s₁) E s):wpAny (model prog w) A (eval (.Attribute e f pos) env) Q E s:=
 Attribute_any_ h (by rw[arm_eval_Attribute,hb])
end
def tFld (K:W.Frag)(ta:TE)(f:Str):TE:=fun σ H Q=>ta σ H fun x H1=>∃a C dx fs v,x= .ref a/\H1 a=some (.ins C dx fs)/\Cls K C/\qK K C f/\fs.lookup f=some v/\Q v H1
def sFld (K:W.Frag)(ta tv:TE)(f:Str):TS:=fun D σ H=>tv σ H fun y H1=>ta σ H1 fun x H2=>∃a C dx fs,x= .ref a/\H2 a=some (.ins C dx fs)/\Cls K C/\qK K C f/\fs.length<1000/\
 D.nx σ (upd H2 a (.ins C dx (putF f y fs)))
section
variable {X:Cx}{o e value:Expr}{f:Str}{pos pos' tpos:Pos}{ta tv:TE}
theorem pe_fld (he:PE X e ta)(hb:attributeBase e f X.env (eval e X.env)=eval e X.env):PE X (.Attribute e f pos) (tFld X.K ta f):=by
 intro pins s σ H Q I h
 refine qcU hb (thn (he pins s σ H _ I h) fun u s1 ⟨x,H1,I1,rx,a,C,dx,fs,v,ex,ea,c,n,l,q⟩=>?_)
 subst ex
 obtain rfl:u=Value.ref a:=rx
 exact q7K I1 ea c n l fun u' s2 I2 ru=>⟨v,H1,I2,ru,q⟩
theorem ps_fld (ha:PE X o ta)(hv:PE X value tv)(hs:swapsWith value (some (.Attribute o f pos')) pos.line X.env=pure false):PS X (.Assign [.Attribute o f pos'] value pos) (sFld X.K ta tv f):=by
 intro pins s σ H D I h
 refine plainObj_wpAny_Assign_Attribute (thn (hv pins s σ H _ I h) fun u s1 ⟨y,H1,I1,ry,q⟩=>thn (ha pins s1 σ H1 _ I1 q) fun ov s2 ⟨x,H2,I2,rx,a,C,dx,fs,ex,ea,c,n,l,q2⟩=>?_) hs
 subst ex
 obtain rfl:ov=Value.ref a:=rx
 exact q7p I2 ea c n l ry fun s3 I3=>⟨σ,_,I3,q2⟩
end
section
variable {X:Cx}{pins:List (Addr×Obj)}{σ:St}{H:Hp}{s:Shared}{A:Around}{E:Value->Shared->Prop}{Q:Value->Shared->Prop}{c:Value}{b:Bool}
inductive TyOf (K:W.Frag)(H:Hp):V->Value->Prop where
 |non:TyOf K H .non (.type "NoneType")
 |bl (x:Bool):TyOf K H (.bl x) (.type "bool")
 |int (i:Int):TyOf K H (.int i) (.type "int")
 |str (x:Str):TyOf K H (.str x) (.type "str")
 |flt (x:UInt64):TyOf K H (.flt x) (.type "float")
 |lst {a:Addr} {xs:List V} (e:H a=some (.lst xs)):TyOf K H (.ref a) (.type "list")
 |frz {a:Addr} {o:Obj} {xs:List V} (e:H a=some (.frz o (.lst xs))):TyOf K H (.ref a) (.type "list")
 |tup {a:Addr} {xs:List V} (e:H a=some (.tup xs)):TyOf K H (.ref a) (.type "tuple")
 |dK {a:Addr} {kvs:List (Key×V)} (e:H a=some (.dK kvs)):TyOf K H (.ref a) (.type "dict")
 |dT {a:Addr} {kvs:List (List Key×V)} (e:H a=some (.dT kvs)):TyOf K H (.ref a) (.type "dict")
 | ins {a C dx:Addr} {fs:List (Str×V)} (e:H a=some (.ins C dx fs)) (cl:Cls K C) (ha:PySem.W.findIn K (.ref C) "__class__"=some (some (.builtin "object.__class__")))
   (hn:PySem.W.specialIn K (.builtin "object.__class__") "__get__"=some (some (.builtin "getset_descriptor.__get__"))) (htk:PySem.W.takesIn K (.builtin "object.__class__")=some true)
   (hm:PySem.W.mroIn K C (.type "object")=some true):TyOf K H (.ref a) (.ref C)
theorem q8Y {x:V}{u t:Value}(I:Inv X pins σ H s)(rx:RelV x u)(ty:TyOf X.K H x t)(e:PySem.W.kitOne X.K t c=some b)(h:∀tk,Q (.bool b) {s with toks:=tk}):
  wpAny (model X.prog X.w) A (call (.builtin "isinstance") [u,c]) Q E s:=by
 cases ty with
 |non=>cases(show u=Value.none from rx);exact zao PySem.W.kitx_none I.kIn True.intro e (fun z=>nomatch z) h
 |bl y=>cases(show u=Value.bool y from rx);exact zao PySem.W.kitx_bool I.kIn True.intro e (fun z=>nomatch z) h
 |int i=>obtain⟨t,q⟩:=(show∃t,u=Value.int i t from rx);cases q;exact zao PySem.W.kitx_int I.kIn True.intro e (fun z=>nomatch z) h
 |str y=>obtain⟨t,q⟩:=(show∃t,u=Value.str y t from rx);cases q;exact zao PySem.W.kitx_str I.kIn True.intro e (fun z=>nomatch z) h
 |flt y=>obtain⟨t,q⟩:=(show∃t,u=Value.float y t from rx);cases q;exact zao PySem.W.kitx_float I.kIn True.intro e (fun z=>nomatch z) h
 | @lst a xs ea=>
  cases(show u=Value.ref a from rx)
  obtain⟨_,_,n,_,h1⟩:=(show q06 X.prog X.w H s.heap a (.lst xs) from I.hok a _ ea)
  exact zao PySem.W.kitx_list I.kIn ⟨_,h1,rfl⟩ e (fun z=>nomatch z) h
 | @frz a ob xs ea=>
  cases(show u=Value.ref a from rx)
  obtain⟨_,_,_,n,_,h1⟩:=(show q06 X.prog X.w H s.heap a (.frz ob (.lst xs)) from I.hok a _ ea)
  exact zao PySem.W.kitx_list I.kIn ⟨_,h1,rfl⟩ e (fun z=>nomatch z) h
 | @tup a xs ea=>
  cases(show u=Value.ref a from rx)
  obtain⟨_,_,_,p⟩:=(show q06 X.prog X.w H s.heap a (.tup xs) from I.hok a _ ea)
  obtain⟨o,h1,h2,_⟩:=p
  exact zao PySem.W.kitx_tuple I.kIn ⟨o,h1,h2⟩ e (fun z=>nomatch z) h
 | @dK a kvs ea=>
  cases(show u=Value.ref a from rx)
  obtain⟨_,_,vs,_,p⟩:=(show q06 X.prog X.w H s.heap a (.dK kvs) from I.hok a _ ea)
  obtain⟨o,es,ep,h1,h2,_⟩:=p
  exact zao PySem.W.kitx_dict I.kIn ⟨o,h1,h2.1⟩ e (fun z=>nomatch z) h
 | @dT a kvs ea=>
  cases(show u=Value.ref a from rx)
  obtain⟨_,_,xs,_,o,es,ep,h1,h2,_⟩:=(show q06 X.prog X.w H s.heap a (.dT kvs) from I.hok a _ ea)
  exact zao PySem.W.kitx_dict I.kIn ⟨o,h1,h2.1⟩ e (fun z=>nomatch z) h
 | @ins a C dx fs ea cl ha hn htk hm=>
  cases(show u=Value.ref a from rx)
  obtain⟨mA,O,_⟩:=q4R I.hok ea
  obtain⟨od,J,_⟩:=O.look
  exact zao (PySem.W.kitx_own (cl.get _) cl.hd ha hn htk hm) I.kIn J e (fun z=>nomatch z) h
end
structure Room (k:Nat)(A:Around):Prop where
 hd:A.handled=none
 dp:A.depth+3*k+5<recursionLimit
 un:A.units+16*k+200<cLine
 gd:A.guards=some []
theorem Room.mono {j k:Nat}{A:Around}(r:Room k A)(h:j<=k):Room j A:=⟨r.hd,by have:=r.dp;omega,by have:=r.un;omega,r.gd⟩
theorem Room.deeper {k:Nat}{A:Around}(r:Room (k+1) A)(env:Env):Room k (A.deeper env):=
 ⟨r.hd,by have:=r.dp;show A.depth+1+3*k+5<_;omega,by have:=r.un;show A.units+3+16*k+200<_;omega,r.gd⟩
theorem q7I {A:Around}{C:Addr}{us:List Value}{kw:List (Str×Value)}:(A.under (.builtin "type.__call__" ⟨.ref C::us,kw⟩)).depth=A.depth+1:=by
 first|rfl|simp[Around.under,Code.weight,Code.isCreation,Code.isGuard,Code.isCaller,Code.frames,Code.isFrame,guardIds]
theorem q7H {A:Around}{C:Addr}{us:List Value}{kw:List (Str×Value)}:(A.under (.builtin "type.__call__" ⟨.ref C::us,kw⟩)).units=A.units+1:=by
 first|rfl|simp[Around.under,Code.cUnits,Code.frames,Code.isFrame]
theorem Room.make {k:Nat}{A:Around}(r:Room (k+1) A)(C:Addr)(us:List Value)(kw:List (Str×Value)):Room k (A.under (.builtin "type.__call__" ⟨.ref C::us,kw⟩)):=
 ⟨r.hd,by have:=r.dp;rw[q7I];omega,by have:=r.un;rw[q7H];omega,by simp[Around.under,Code.guards,Code.isGuard,guardIds,pushGuards,r.gd]⟩
theorem Room.depth {k:Nat}{A:Around}(r:Room k A):A.depth<recursionLimit:=by have:=r.dp;omega
theorem Room.units {k:Nat}{A:Around}(r:Room k A):A.units+64<cLine:=by have:=r.un;omega
def tNil:TA:=fun _ H Q=>Q [] H
def qbx (ta:TE)(tr:TA):TA:=fun σ H Q=>ta σ H fun x H1=>tr σ H1 fun xs H2=>Q (x::xs) H2
section
variable {X:Cx}{e:Expr}{es:List Expr}{te:TE}{t:TA}{pos:Pos}
theorem qd:PA X [] tNil:=fun _ _ _ _ H Q I h=>zca ⟨[],H,I,.nil,h⟩
theorem qa (ha:PE X e te)(hr:PA X es t)(hs:starEach (e::es) X.env=(false,eval e X.env)::starEach es X.env:=by rfl):PA X (e::es) (qbx te t):=by
 intro pos pins s σ H Q I h
 rw[hs]
 show wpAny _ _ (spliced ((false,eval e X.env)::backTo pos (starEach es X.env))) _ _ s
 refine zb1 (thn (ha pins s σ H _ I h) fun u s1 ⟨x,H1,I1,r1,q1⟩=>?_)
 exact thn (hr pos pins s1 σ H1 _ I1 q1) fun us s2 ⟨xs,H2,I2,r2,q2⟩=>⟨x::xs,H2,I2,.cons r1 r2,q2⟩
def tTup (t:TA):TE:=fun σ H Q=>t σ H fun xs H1=>xs.length<=sizeLine/\∀p,H1 p=none->Q (.ref p) (upd H1 p (.tup xs))
def tLst (t:TA):TE:=fun σ H Q=>t σ H fun xs H1=>xs.length<=sizeLine/\∀p,H1 p=none->Q (.ref p) (upd H1 p (.lst xs))
theorem qz {x1}(h:PA X es t):PE X (.Tuple es x1 pos) (tTup t):=by
 intro pins s σ H Q I hq
 refine wpAny_Tuple_spliced (thn (h pos pins s σ H _ I hq) fun us s1 ⟨xs,H1,I1,r,z,q⟩=>⟨by rw[<-r.length];exact z,?_⟩)
 have hf:H1 s1.heap.objs.size=none:=I1.hok.fresh (zn _)
 refine⟨.ref s1.heap.objs.size,upd H1 s1.heap.objs.size (.tup xs),I1.laid (t':=s1.toks) (fun b u e=>zm _ e) (zn _) ?_,rfl,q _ hf⟩
 exact⟨z,us,r,⟨_,zB _ rfl,rfl,_,rfl⟩⟩
theorem q0p (h:PA X es t):PE X (.List es pos) (tLst t):=by
 intro pins s σ H Q I hq
 refine wpAny_List_spliced (thn (h pos pins s σ H _ I hq) fun us s1 ⟨xs,H1,I1,r,z,q⟩=>⟨by rw[<-r.length];exact z,?_⟩)
 have hf:H1 s1.heap.objs.size=none:=I1.hok.fresh (zn _)
 refine⟨.ref s1.heap.objs.size,upd H1 s1.heap.objs.size (.lst xs),I1.laid (t':=s1.toks) (fun b u e=>zm _ e) (zn _) ?_,rfl,q _ hf⟩
 exact⟨z,us,0,r,zB _ rfl⟩
end
abbrev Sp:=List V->Hp->VK->XK->Prop
abbrev CXT:=List Env->Hp->Shared->XK->Value->Shared->Prop
structure Env0 (P:Program)(w:World)(K:W.Frag)(mg:Str->Option Value)(base:Heap)(A:Around)(outer:List Env)(s:Shared)(H:Hp):Prop where
 frames:A.frames=some outer
 mod:Mod K mg base
 bs:∀b o,base.get? b=some o->s.heap.get? b=some o/\H b=none
 bsz:base.objs.size<=s.heap.objs.size
 funs:s.heap.FunFrames base outer
 frf:∀b∈frs outer,H b=none
 hok:HOk P w H s.heap
 bare:AllBare s.gens
def CE (outer:List Env)(P:Program)(w:World)(H:Hp)(s:Shared)(Q:VK)(u:Value)(s':Shared):Prop:=
 ∃v H',s'.os=s.os/\AllBare s'.gens/\Un (frs outer) [] H H' s.heap s'.heap/\HOk P w H' s'.heap/\RelV v u/\Q v H'
def CR (CX:CXT)(outer:List Env)(P:Program)(w:World)(H:Hp)(s:Shared)(Q:VK)(E:XK)(r:Result)(s':Shared):Prop:=
 match r with
 | .ok (.ret u)=>CE outer P w H s Q u s'
 | .ok _=>False
 | .error e=>CX outer H s E e s'
structure FnOk (P:Program)(w:World)(K:W.Frag)(mg:Str->Option Value)(base:Heap)(CX:CXT)(k:Nat)(f:Addr)(fd:FuncData)(ps:List Str)(sp:Sp):Prop where
 len:∀vs H Q E,sp vs H Q E->vs.length=ps.length
 run:∀(A:Around) (outer:List Env) (s:Shared) (H:Hp) (args:Args) (us:List Value) (vs:List V) (Q:VK) (E:XK),Room k A->Env0 P w K mg base A outer s H->BindsTo s fd args (ps.zip us)->Vals vs us->sp vs H Q E->
  codeAny (model P w) A (.call (.ref f) args) (CR CX outer P w H s Q E) s
theorem Env0.make {P:Program}{w:World}{K:W.Frag}{mg:Str->Option Value}{base:Heap}{A:Around}{outer:List Env}{s:Shared}{H:Hp}(e:Env0 P w K mg base A outer s H)(C:Addr)(us:List Value)(kw:List (Str×Value)):
  Env0 P w K mg base (A.under (.builtin "type.__call__" ⟨.ref C::us,kw⟩)) outer s H:=⟨by first|exact e.frames|(simpa[Around.under,Code.envs,Code.isFrame,pushEnvs] using e.frames),e.mod,e.bs,e.bsz,e.funs,e.frf,e.hok,e.bare⟩
section
variable {X:Cx}{pins:List (Addr×Obj)}{σ:St}{H:Hp}{s s':Shared}
theorem Inv.env0 (I:Inv X pins σ H s):Env0 X.prog X.w X.K X.mg X.base X.A X.stack s H:=
 ⟨I.ok.frames,I.ok.mod,I.bs,zab I.ok.bsz I.sz,I.stack,I.stkFree,I.hok,I.bare⟩
theorem Inv.after {Q:VK}{u:Value}(I:Inv X pins σ H s)(h:CE X.stack X.prog X.w H s Q u s'):EP X pins σ Q u s':=by
 obtain⟨v,H',os,bare,un,hok,r,q⟩:=h
 obtain⟨hh,g,d,t,os'⟩:=s'
 obtain rfl:os'=s.os:=os
 exact⟨v,H',I.call (h':=hh) (g':=g) (d':=d) (t':=t) (ch:=[]) un hok bare (fun b z=>absurd z (by simp)),r,q⟩
end
def q9N (sp:Sp)(dvs:List V)(E:XK)(t:TA):TE:=fun σ H Q=>t σ H fun vs H1=>sp (vs++dvs) H1 Q E
def q81 (C:Addr)(sp:Sp)(dvs:List V)(E:XK)(t:TA):TE:=fun σ H Q=>t σ H fun vs H1=>∀x dx,H1 x=none->H1 dx=none->dx≠x->
 sp (.ref x::(vs++dvs)) (upd (upd H1 dx (.own x)) x (.ins C dx [])) (fun v H2=>v= .non/\Q (.ref x) H2) E
def q1q (K:W.Frag)(fd:FuncData)(ps:List Str)(ds:List Value):Prop:=
 ∀(s:Shared) (us:List Value),K.In s.heap->(us++ds).length=ps.length->BindsTo s fd ⟨us,[]⟩ (ps.zip (us++ds))
theorem q1q.all {K:W.Frag}{fd:FuncData}{ps:List Str}(h:∀us:List Value,us.length=ps.length->bindArgs fd ⟨us,[]⟩=pure (ps.zip us)):q1q K fd ps []:=fun s us _ hl=>by
 rw[zJ] at hl ⊢
 exact .of_eq (h us hl)
def q4x (CX:CXT)(X:Cx)(E:XK):Prop:=∀(pins:List (Addr×Obj)) (σ:St) (H:Hp) (s:Shared) (e:Value) (s':Shared),Inv X pins σ H s->CX X.stack H s E e s'->X.xe e s'
section
variable {X:Cx}{CX:CXT}{k:Nat}{f C:Addr}{fd:FuncData}{ps:List Str}{sp:Sp}{dvs:List V}{ds:List Value}{E:XK}{x m:Str}{p pos apos:Pos}{e o:Expr}{es:List Expr}{ta:TE}{t:TA}
theorem q6V {pins:List (Addr×Obj)}{σ:St}{H:Hp}{s:Shared}{Q:VK}{us:List Value}{vs:List V}(F:FnOk X.prog X.w X.K X.mg X.base CX k f fd ps sp)(hr:Room k X.A)(hb:q1q X.K fd ps ds)(hd:Vals dvs ds)(hx:q4x CX X E)
  (I:Inv X pins σ H s)(r:Vals vs us)(h:sp (vs++dvs) H Q E):wpAny (model X.prog X.w) X.A (call (.ref f) us) (EP X pins σ Q) X.xe s:=by
 have r2:Vals (vs++dvs) (us++ds):=r.append hd
 have hl:(us++ds).length=ps.length:=by rw[<-r2.length];exact F.len _ _ _ _ h
 refine zbr (zbn (F.run X.A X.stack s H ⟨us,[]⟩ (us++ds) (vs++dvs) Q E hr I.env0 (hb s us I.kIn hl) r2 h) fun r s' hq=>?_)
 cases r with
 |error e=>exact hx pins σ H s e s' I hq
 |ok fl=>
  cases fl with
  |ret u=>exact I.after hq
  |next=>exact False.elim hq
  |brk=>exact False.elim hq
  |cont=>exact False.elim hq
theorem qc2 (F:FnOk X.prog X.w X.K X.mg X.base CX k f fd ps sp)(hr:Room k X.A)(hg:Gl X x)(hm:X.mg x=some (.ref f))(hk:PySem.W.keepIn X.K (.ref f)=true)(hb:q1q X.K fd ps ds)(hd:Vals dvs ds)(hx:q4x CX X E)
  (ha:PA X (e::es) t)(hdb:(x==("__debug__":Str))=false:=by decide)(he:starEach (e::es) X.env=(false,eval e X.env)::starEach es X.env:=by rfl)(hpl:(backTo pos (starEach es X.env)).any (·.1)=false:=by rfl):
  PE X (.Call (.Name x p) (e::es) [] pos) (q9N sp dvs E t):=by
 intro pins s σ H Q I h
 refine zap (q2d I hg hm ?_ hdb)
 refine zaU (h₀:=X.base) I.ok.mod.kin hk (thn (ha pos pins s σ H _ I h) fun us s1 ⟨vs,H1,I1,r,q⟩=>⟨I1.kIn,?_⟩) he hpl
 exact q6V F hr hb hd hx I1 r q
structure Mk (K:W.Frag)(C f:Addr):Prop where
 makes:PySem.W.makesIn K C=true
 init:PySem.W.findIn K (.ref C) "__init__"=some (some (.ref f))
 fn:PySem.W.isFn K (.ref f)=true
 kp:PySem.W.keepIn K (.ref C)=true
theorem q6U {pins:List (Addr×Obj)}{σ:St}{H:Hp}{s:Shared}{Q:VK}{us:List Value}{vs:List V}(M:Mk X.K C f)(F:FnOk X.prog X.w X.K X.mg X.base CX k f fd ps sp)(hr:Room (k+1) X.A)(hb:q1q X.K fd ps ds)(hd:Vals dvs ds)
  (hx:q4x CX X E)(I:Inv X pins σ H s)(r:Vals vs us)
  (h:∀x dx,H x=none->H dx=none->dx≠x->sp (.ref x::(vs++dvs)) (upd (upd H dx (.own x)) x (.ins C dx [])) (fun v H2=>v= .non/\Q (.ref x) H2) E):
  wpAny (model X.prog X.w) X.A (call (.ref C) us) (EP X pins σ Q) X.xe s:=by
 have hq:=h (s.heap.objs.size+1) s.heap.objs.size (I.hok.fresh (zaS _)) (I.hok.fresh (zn _)) (zF (zbk _))
 have I2:=Inv.made (C:=C) I
 have r2:Vals (V.ref (s.heap.objs.size+1)::(vs++dvs)) (Value.ref (s.heap.objs.size+1)::(us++ds)):= .cons rfl (r.append hd)
 have hl:(Value.ref (s.heap.objs.size+1)::us++ds).length=ps.length:=by
  have e:=r2.length
  rw[F.len _ _ _ _ hq] at e
  exact e.symm
 refine zbr (qaz (f:=f) I.kIn M.makes M.init (beq_iff_eq.mp M.fn) (zbn (F.run _ X.stack _ _ ⟨Value.ref (s.heap.objs.size+1)::us,[]⟩ (Value.ref (s.heap.objs.size+1)::(us++ds)) _ _ E (hr.make C us [])
  (I2.env0.make C us []) (hb _ (Value.ref (s.heap.objs.size+1)::us) I2.kIn hl) r2 hq) fun r s' hq'=>?_))
 cases r with
 |error e=>exact hx pins σ _ _ e s' I2 hq'
 |ok fl=>
  cases fl with
  |ret u=>
   obtain⟨v,H',I3,rv,ev,q3⟩:=I2.after hq'
   subst ev
   exact⟨rv,⟨V.ref (s.heap.objs.size+1),H',I3,rfl,q3⟩⟩
  |next=>exact False.elim hq'
  |brk=>exact False.elim hq'
  |cont=>exact False.elim hq'
theorem qbZ (M:Mk X.K C f)(F:FnOk X.prog X.w X.K X.mg X.base CX k f fd ps sp)(hr:Room (k+1) X.A)(hg:Gl X x)(hm:X.mg x=some (.ref C))(hb:q1q X.K fd ps ds)(hd:Vals dvs ds)(hx:q4x CX X E)
  (ha:PA X (e::es) t)(hdb:(x==("__debug__":Str))=false:=by decide)(he:starEach (e::es) X.env=(false,eval e X.env)::starEach es X.env:=by rfl)(hpl:(backTo pos (starEach es X.env)).any (·.1)=false:=by rfl):
  PE X (.Call (.Name x p) (e::es) [] pos) (q81 C sp dvs E t):=by
 intro pins s σ H Q I h
 refine zap (q2d I hg hm ?_ hdb)
 refine zaU (h₀:=X.base) I.ok.mod.kin M.kp (thn (ha pos pins s σ H _ I h) fun us s1 ⟨vs,H1,I1,r,q⟩=>⟨I1.kIn,?_⟩) he hpl
 exact q6U M F hr hb hd hx I1 r q
theorem qab (M:Mk X.K C f)(F:FnOk X.prog X.w X.K X.mg X.base CX k f fd ps sp)(hr:Room (k+1) X.A)(hg:Gl X x)(hm:X.mg x=some (.ref C))(hb:q1q X.K fd ps ds)(hd:Vals dvs ds)(hx:q4x CX X E)
  (hdb:(x==("__debug__":Str))=false:=by decide):PE X (.Call (.Name x p) [] [] pos) (q81 C sp dvs E tNil):=by
 intro pins s σ H Q I h
 refine zap (q2d I hg hm ?_ hdb)
 exact PySem.W.callWith_K0 I.kIn M.kp (q6U (us:=[]) M F hr hb hd hx I .nil h)
end
structure FnScope (N P:List Str)(sc:Scope):Prop where
 kind:sc.kind= .function
 co:sc.isCoroutine=false
 gen:sc.isGenerator=false
 nd:N.Nodup
 pre:N.take P.length=P
 par:∀x∈P,sc.names.lookup x=some .local\/sc.names.lookup x=some .cell
 nofree:∀y∈sc.names,y.2≠ .free
theorem q65 {kindOf:Str->Option NameKind}{x:Str}:∀{binds:List (Str×Value)} {m:Str->Option Value},(∀v,(x,v)∉binds)->bindL kindOf binds m x=m x
 |[],_,_=>rfl
 |(n,v)::r,m,h=>by
  unfold bindL
  rw[q65 fun w hw=>h w (zE _ hw)]
  split
  ·have:x≠n:=by rintro rfl;exact h v zY
   simp[this]
  ·rfl
theorem q67 {kindOf:Str->Option NameKind}{x:Str}:∀{binds:List (Str×Value)} {m:Str->Option Value},(∀v,(x,v)∉binds)->bindC kindOf binds m x=m x
 |[],_,_=>rfl
 |(n,v)::r,m,h=>by
  unfold bindC
  rw[q67 fun w hw=>h w (zE _ hw)]
  split
  ·rfl
  ·have:x≠n:=by rintro rfl;exact h v zY
   simp[this]
theorem q66 {kindOf:Str->Option NameKind}{x:Str}{v:Value}:∀{P:List Str} {vs:List Value} {i:Nat} {m:Str->Option Value},P.Nodup->P[i]? =some x->vs[i]? =some v->kindOf x=some .local->
  bindL kindOf (P.zip vs) m x=some v
 |[],_,_,_,_,h,_,_=>by simp at h
 |_::_,[],_,_,_,_,h,_=>by simp at h
 |p::P,w::vs,0,m,nd,h1,h2,hk=>by
  simp at h1 h2;subst h1;subst h2
  show bindL kindOf ((p,w)::P.zip vs) m p=_
  unfold bindL
  rw[q65 fun v hv=>(zbl.mp nd).1 (zco hv).1,zt hk]
  simp
 |p::P,w::vs,i+1,m,nd,h1,h2,hk=>by
  show bindL kindOf ((p,w)::P.zip vs) m x=_
  unfold bindL
  exact q66 (i:=i) (zbl.mp nd).2 (by simpa using h1) (by simpa using h2) hk
theorem q68 {kindOf:Str->Option NameKind}{x:Str}{v:Value}:∀{P:List Str} {vs:List Value} {i:Nat} {m:Str->Option Value},P.Nodup->P[i]? =some x->vs[i]? =some v->kindOf x≠some .local->
  bindC kindOf (P.zip vs) m x=some v
 |[],_,_,_,_,h,_,_=>by simp at h
 |_::_,[],_,_,_,_,h,_=>by simp at h
 |p::P,w::vs,0,m,nd,h1,h2,hk=>by
  simp at h1 h2;subst h1;subst h2
  show bindC kindOf ((p,w)::P.zip vs) m p=_
  unfold bindC
  rw[q67 fun v hv=>(zbl.mp nd).1 (zco hv).1,zo hk]
  simp
 |p::P,w::vs,i+1,m,nd,h1,h2,hk=>by
  show bindC kindOf ((p,w)::P.zip vs) m x=_
  unfold bindC
  exact q68 (i:=i) (zbl.mp nd).2 (by simpa using h1) (by simpa using h2) hk
def start (N:List Str)(vs:List V):St:=vs.map some++List.replicate (N.length - vs.length) none
def cxOf (CX:CXT)(P:Program)(w:World)(K:W.Frag)(mg:Str->Option Value)(base:Heap)(N:List Str)(qual:Str)(scope:Scope)(f:Addr)(cd:Value)(A:Around)(outer:List Env)(s:Shared)(H:Hp)(E:XK):Cx where
 prog:=P
 w:=w
 K:=K
 mg:=mg
 base:=base
 A:=A.deeper (envOfC qual scope s.heap.objs.size f cd)
 N:=N
 s₀:=s
 H₀:=H
 env:=envOfC qual scope s.heap.objs.size f cd
 outer:=outer
 stack:=envOfC qual scope s.heap.objs.size f cd::outer
 ex:=[]
 calm:=true
 fn:=fun _=>true
 pn:=[]
 xe:=fun e s'=>wpAny (model P w) (A.deeper (envOfC qual scope s.heap.objs.size f cd)) (leaving (envOfC qual scope s.heap.objs.size f cd) e) (fun _ s''=>CX outer H s E e s'') (fun e' s''=>CX outer H s E e' s'') s'
theorem q7c {sc:Scope}{n:Nat}{x:Str}(h:sc.names.lookup x=some .cell):∃c,(cellsFrom n sc.names []).lookup x=some c:=by
 have q:=PySem.W.cellsFrom_some sc.names n [] (.inl h)
 exact Option.isSome_iff_exists.mp q
theorem q8Z {CX:CXT}{P:Program}{w:World}{K:W.Frag}{mg:Str->Option Value}{base:Heap}{N ps:List Str}{qual:Str}{scope:Scope}{f:Addr}{cd:Value}{A:Around}{outer:List Env}{s s1:Shared}{H:Hp}{E:XK}{us:List Value}{vs:List V}
  (S:FnScope N ps scope)(hd:A.handled=none)(e0:Env0 P w K mg base A outer s H)(hl:vs.length=ps.length)(r:Vals vs us)
  (x:InCallC s s.heap.objs.size (bindL (envOfC qual scope s.heap.objs.size f cd).kindOf (ps.zip us) fun _=>none) (cellsFrom (s.heap.objs.size+1) scope.names []) (bindC (envOfC qual scope s.heap.objs.size f cd).kindOf (ps.zip us) fun _=>none) s1):
  Inv (cxOf CX P w K mg base N qual scope f cd A outer s H E) [] (start N vs) H s1:=by
 have hpl:ps.length<=N.length:=by have:=zae List.length S.pre;rw[zD] at this;omega
 obtain⟨h1,tk,rfl,hk⟩:=x.done
 have noA:∀b:Addr,b∉(cxOf CX P w K mg base N qual scope f cd A outer s H E).ex:=fun b z=>absurd (show b∈([]:List Addr) from z) (by simp)
 refine⟨⟨e0.mod,S.kind,rfl,rfl,zn _,fun y z c h1 h2=>?_,fun y hy=>?_,fun y c _ h=>?_,fun _=>hd,Around.frames_deeper e0.frames,.inr ⟨rfl,rfl⟩,fun b z=>absurd z (noA b),e0.bs,e0.bsz,fun b _ _=>noA b,fun b z=>absurd z (noA b),e0.funs,e0.frf⟩,
  rfl,e0.bare,Un.kept hk,⟨_,x.toInCall.ns,fun i y v h1 h2 h3=>?_⟩,fun y c h=>⟨_,x.cell y c h⟩,e0.hok.fresh (zn _),fun y c h=>?_,fun p hp=>absurd (show p∈([]:List (Addr×Obj)) from hp) (by simp),e0.hok.kept hk,?_⟩
 ·exact name_of_addr x.apart (zaH h1) (zaH h2)
 ·have hy:scope.names.lookup y=some .cell\/scope.names.lookup y=some .free:=hy
  rcases hy with hy|hy
  ·exact q7c hy
  ·exact absurd rfl (S.nofree _ (zaH hy))
 ·exact Nat.le_of_lt (x.above y c (zaH h))
 ·have hi:i<vs.length:=by
   unfold start at h2
   by_cases hi:i<vs.length
   ·exact hi
   ·rw [zag (by simpa using hi)] at h2
    rw[List.getElem?_replicate] at h2
    split at h2<;>cases h2
  have ha:vs[i]? =some v:=by
   unfold start at h2
   rw[zS (by simpa using hi),zN] at h2
   cases e:vs[i]? with
   |none=>rw[e] at h2;cases h2
   |some a=>rw[e] at h2;cases h2;rfl
  obtain⟨u,hu,rv⟩:=r.get ha
  have hp:ps[i]? =some y:=by
   rw[<-S.pre,List.getElem?_take_of_lt (by omega)];exact h1
  have ndP:ps.Nodup:=by rw[<-S.pre];exact S.nd.sublist (List.take_sublist _ _)
  refine⟨u,rv,?_⟩
  rcases S.par y (za1 hp) with k|k
  ·exact .inl ⟨k,q66 ndP hp hu k⟩
  ·obtain ⟨c,e⟩:=q7c (n:=s.heap.objs.size+1) k
   refine .inr ⟨.inl k,c,e,?_⟩
   have q:=x.cell y c e
   rw[q68 ndP hp hu (by show scope.names.lookup y≠_;rw[k];decide)] at q
   exact q
 ·exact e0.hok.fresh (Nat.le_of_lt (x.above y c (zaH h)))
 ·unfold start
  show _=N.length
  rw[zx,yC,zbE]
  omega
theorem fn_of {CX:CXT}{P:Program}{w:World}{K:W.Frag}{mg:Str->Option Value}{base:Heap}{k:Nat}{f:Addr}{name qual:Str}{params:Arguments}{body:List Stmt}{scope:Scope}{dV kV doc pm cdv ct oc:Value}{an od:Option Addr}
  {osl:Array (Option Value)}{N ps:List Str}{sp:Sp}(lk:K.lookup f=some ⟨oc,od,.func (PySem.W.fnOf name qual params body scope dV kV doc pm an cdv ct),osl⟩)(hcd:PySem.W.codeIn K cdv qual=true)(S:FnScope N ps scope)
  (len:∀vs H Q E,sp vs H Q E->vs.length=ps.length)
  (hbody:∀(A:Around) (outer:List Env) (s:Shared) (H:Hp) (vs:List V) (Q:VK) (E:XK),Room k (A.deeper (envOfC qual scope s.heap.objs.size f cdv))->sp vs H Q E->
   ∃t,PSs (cxOf CX P w K mg base N qual scope f cdv A outer s H E) body t/\t {nx:=fun _ H'=>Q .non H',rt:=Q} (start N vs) H):
  FnOk P w K mg base CX (k+1) f (PySem.W.fnOf name qual params body scope dV kV doc pm an cdv ct) ps sp:=by
 refine⟨len,fun A outer s H args us vs Q E hr e0 hb r hsp=>?_⟩
 have hl:=len _ _ _ _ hsp
 have KX:K.In s.heap:=e0.mod.kin.keeps fun b o e=>(e0.bs b o e).1
 have lim:s.heap.NoLimit:=e0.mod.nolimit.keeps fun b o e=>(e0.bs b o e).1
 have hkind:∀y∈ps.zip us,scope.names.lookup y.1=some .local\/(scope.names.lookup y.1=some .cell/\((cellsFrom (s.heap.objs.size+1) scope.names []).lookup y.1).isSome=true):=fun⟨n,v⟩ hy=>by
  rcases S.par n (zco hy).1 with q|q
  ·exact .inl q
  ·exact .inr ⟨q,PySem.W.cellsFrom_some _ _ _ (.inl q)⟩
 refine codeAny_call_function hr.depth (KX _ _ lk) rfl S.co S.gen rfl (PySem.W.codeRec_of KX hcd) (hb _ _ _ _ ?_)
 refine wpAny_newFunctionEnv_cells S.kind hkind fun env he s1 x=>?_
 subst he
 refine⟨lim.keeps x.toInCall.keep,codeAny_func ?_⟩
 obtain⟨t,ht,hq⟩:=hbody A outer s H vs Q E (hr.deeper _) hsp
 have I:Inv (cxOf CX P w K mg base N qual scope f cdv A outer s H E) [] (start N vs) H s1:=q8Z S hr.hd e0 hl r x
 refine zO (ht [] s1 (start N vs) H _ I hq) (fun fl s' hs=>?_) fun e s' hs=>hs
 have fin:∀{σ':St} {H':Hp} {v:V} {u:Value},Inv (cxOf CX P w K mg base N qual scope f cdv A outer s H E) [] σ' H' s'->RelV v u->Q v H'->CE outer P w H s Q u s':=
  fun {σ' H' v u} J rv q=>⟨v,H',J.os,J.bare,J.base,J.hok,rv,q⟩
 cases fl with
 |ret u=>
  obtain⟨v,σ',H',J,rv,q⟩:=hs
  exact fin J rv q
 |next=>
  obtain⟨σ',H',J,q⟩:=hs
  exact fin (v:=V.non) (u:=Value.none) J rfl q
 |brk=>
  obtain⟨_,_,_,q⟩:=hs
  exact False.elim q
 |cont=>
  obtain⟨_,_,_,q⟩:=hs
  exact False.elim q
section
variable {X:Cx}{x:Str}{p pos:Pos}{e:Expr}{es:List Expr}{t:TA}{id T:String}{r:List V->Hp->VK->Prop}
def tCB (r:List V->Hp->VK->Prop)(t:TA):TE:=fun σ H Q=>t σ H fun vs H1=>r vs H1 Q
theorem qD (hc:q1g X (.builtin id) r)(hg:Gl X x)(hm:X.mg x=none)(hv:bootBuiltins x=some (.builtin id))(ha:PA X (e::es) t)(hn:x≠"__name__":=by decide)(hdb:(x==("__debug__":Str))=false:=by decide)
  (he:starEach (e::es) X.env=(false,eval e X.env)::starEach es X.env:=by rfl)(hpl:(backTo pos (starEach es X.env)).any (·.1)=false:=by rfl):PE X (.Call (.Name x p) (e::es) [] pos) (tCB r t):=by
 intro pins s σ H Q I h
 refine zap (q38 I hg hm hv ?_ hn hdb)
 exact PyProof.Rows.callWith_builtin1 (thn (ha pos pins s σ H _ I h) fun us s1 ⟨vs,H1,I1,r1,q1⟩=>hc pins s1 σ H1 vs us Q I1 r1 q1) he hpl
theorem q0y (hc:q1g X (.type T) r)(hg:Gl X x)(hm:X.mg x=none)(hv:bootBuiltins x=some (.type T))(ha:PA X (e::es) t)(hn:x≠"__name__":=by decide)(hdb:(x==("__debug__":Str))=false:=by decide)
  (he:starEach (e::es) X.env=(false,eval e X.env)::starEach es X.env:=by rfl)(hpl:(backTo pos (starEach es X.env)).any (·.1)=false:=by rfl):PE X (.Call (.Name x p) (e::es) [] pos) (tCB r t):=by
 intro pins s σ H Q I h
 refine zap (q38 I hg hm hv ?_ hn hdb)
 exact zaj (thn (ha pos pins s σ H _ I h) fun us s1 ⟨vs,H1,I1,r1,q1⟩=>hc pins s1 σ H1 vs us Q I1 r1 q1) he hpl
end
end L2
namespace HT
open PySem PyProof.Rows
section
variable {prog:Program}{w:World}{A:Around}{E:Value->Shared->Prop}{s:Shared}
theorem qcR {t b:Addr}{vs ws:List Value}{Q:Value->Shared->Prop}(ht:IsTup s.heap t vs.toArray)(hb:IsTup s.heap b ws.toArray)(hv:vs≠[])
  (h1:ws=[]->Q (.ref t) s)(h2:ws≠[]->Q (.ref s.heap.objs.size) {s with heap:=s.heap.push {cls:= .type "tuple",data:= .seq (vs++ws).toArray}})
  (hsz:vs.length+ws.length<=sizeLine):wpAny (model prog w) A (binaryOp .Add (.ref t) (.ref b)) Q E s:=by
 obtain⟨⟨cls,dd,data,sl⟩,ho,hc,n,hd⟩:=id ht
 obtain⟨⟨cls2,dd2,data2,sl2⟩,ho2,hc2,n2,hd2⟩:=id hb
 simp only at hc hd hc2 hd2
 subst hc hd hc2 hd2
 have e:vs.toArray++ws.toArray=(vs++ws).toArray:=by simp
 by_cases hw:ws=[]
 ·exact concat_meets ⟨_,ho,rfl⟩ ⟨_,ho2,rfl⟩ noFill_tuple_add seq_tuple_add zbx zbs (zbo _ _)
   (tuple_addW1 t b vs.toArray ws.toArray n n2 dd dd2 sl sl2 (by simpa using hv) (by simp[hw])) ⟨ho,ho2,h1 hw⟩
 ·refine concat_meets ⟨_,ho,rfl⟩ ⟨_,ho2,rfl⟩ noFill_tuple_add seq_tuple_add zbx zbs (zbo _ _)
   (tuple_addW2 t b vs.toArray ws.toArray n n2 dd dd2 sl sl2 (by simpa using hv) (by simpa using hw) (by rw[List.size_toArray,List.size_toArray];exact hsz)) ⟨ho,ho2,?_⟩
  rw[e]
  exact h2 hw
def sIx (n d:Nat):Option Int->Nat
 |none=>d
 |some v=>if v<0 then(v+(n:Int)).toNat else min v.toNat n
theorem q6T (n d:Nat):sIx n d none=d:=rfl
theorem q3m (n d k:Nat):sIx n d (some (k:Int))=min k n:=by
 show(if (k:Int)<0 then((k:Int)+(n:Int)).toNat else min (k:Int).toNat n)=min k n
 rw[zo (by omega),zp]
theorem sIx_le (n d:Nat)(hd:d<=n)(o:Option Int):sIx n d o<=n:=by
 cases o with
 |none=>exact hd
 |some v=>
  show(if v<0 then(v+(n:Int)).toNat else min v.toNat n)<=n
  by_cases hv:v<0
  ·rw [zt hv];omega
  ·rw [zo hv];exact Nat.min_le_right _ _
theorem q9r (v:Int)(n d:Nat):(if v<0 then max (v+(n:Int)) 0 else min v (n:Int))=((sIx n d (some v):Nat):Int):=by
 show(if v<0 then max (v+(n:Int)) 0 else min v (n:Int))=(((if v<0 then(v+(n:Int)).toNat else min v.toNat n):Nat):Int)
 by_cases hv:v<0
 ·simp only[if_pos hv];omega
 ·simp only[if_neg hv];omega
theorem q7R (lo hi:Option Int)(n:Nat):Builtin.Slice.sliceAdjust lo hi 1 (n:Int)=(((sIx n 0 lo:Nat):Int),((sIx n n hi:Nat):Int)):=by
 have h1:¬((1:Int)<0):=by omega
 unfold Builtin.Slice.sliceAdjust
 simp only[h1,if_false]
 refine Prod.ext ?_ ?_
 ·cases lo with
  |none=>rfl
  |some v=>exact q9r v n 0
 ·cases hi with
  |none=>rfl
  |some v=>exact q9r v n n
theorem q7u (i j:Nat):Builtin.Slice.slicePlaces (i:Int) (j:Int) 1=j - i:=by
 unfold Builtin.Slice.slicePlaces
 have h1:(1:Int)>0:=by omega
 simp only[h1,if_true,Int.ediv_one]
 split<;>omega
theorem q4l {v:Value}{o:Option Int}{Q:Option Int->Shared->Prop}(p:IsPart v o)(h:Q o s):wpAny (model prog w) A (Builtin.Slice.slicePartIndex v) Q E s:=by
 cases p with
 |none=>exact slicePart_none h
 |int i t=>exact slicePart_int h
theorem q2g {sl:Addr}{vl vu:Value}{lo hi:Option Int}{n:Nat}{Q:Int×Int×Nat->Shared->Prop}(hs:s.heap.IsSliceOf sl vl vu .none)(pl:IsPart vl lo)(pu:IsPart vu hi)
  (h:Q (((sIx n 0 lo:Nat):Int),1,sIx n n hi - sIx n 0 lo) s):wpAny (model prog w) A (Builtin.Slice.sliceApplied (.ref sl) (pure (n:Int))) Q E s:=by
 obtain⟨os,hos,hcs,hds⟩:=id hs
 unfold Builtin.Slice.sliceApplied Builtin.Slice.sliceFields
 refine yD (yD (zam hos hds (x:=vl) rfl (yD (zam hos hds (x:=vu) rfl (yD (zam hos hds (x:= .none) rfl (zl ?_)))))))
 refine yD (slicePart_none ?_)
 show wpAny _ _ (if ((1:Int)==0)=true then _ else _) _ _ s
 rw[zo (by decide)]
 refine yD (q4l pl (yD (q4l pu (yD (zl ?_)))))
 show wpAny _ _ (match Builtin.Slice.sliceAdjust lo hi 1 (n:Int) with|(lo,hi)=>pure (lo,(1:Int),Builtin.Slice.slicePlaces lo hi 1)) _ _ s
 rw[q7R lo hi n]
 show wpAny _ _ (pure (((sIx n 0 lo:Nat):Int),(1:Int),Builtin.Slice.slicePlaces ((sIx n 0 lo:Nat):Int) ((sIx n n hi:Nat):Int) 1)) _ _ s
 rw[q7u]
 exact zl h
theorem qa5 (xs:Array Value)(i k:Nat):((List.range k).filterMap fun(m:Nat)=>xs[((i:Int)+(m:Int)*1).toNat]?).toArray=((xs.toList.drop i).take k).toArray:=by
 have e:(fun(m:Nat)=>xs[((i:Int)+(m:Int)*1).toNat]?)=fun m=>xs[i+m]? :=by
  funext m
  have:((i:Int)+(m:Int)*1).toNat=i+m:=by omega
  rw[this]
 rw[e]
 have:=pick_run xs i k
 rw[List.filterMap_map] at this
 have e2:((fun x=>xs[x]?) ∘ fun x=>i+x)=fun m=>xs[i+m]? :=rfl
 rw[e2] at this
 rw[this]
theorem q3o {t sl:Addr}{items:Array Value}{vl vu:Value}{lo hi:Option Int}{Q:Value->Shared->Prop}(ht:IsTup s.heap t items)(hs:s.heap.IsSliceOf sl vl vu .none)(pl:IsPart vl lo)(pu:IsPart vu hi)
  (hw:¬(sIx items.size 0 lo=0/\sIx items.size items.size hi=items.size))
  (h:Q (.ref s.heap.objs.size) {s with heap:=s.heap.push {cls:= .type "tuple",data:= .seq ((items.toList.drop (sIx items.size 0 lo)).take (sIx items.size items.size hi - sIx items.size 0 lo)).toArray}})
  (hsz:items.size<=sizeLine):wpAny (model prog w) A (getItem (.ref t) (.ref sl)) Q E s:=by
 have htake:sizeOk (.seq ((items.toList.drop (sIx items.size 0 lo)).take (sIx items.size items.size hi - sIx items.size 0 lo)).toArray):=by
  show((items.toList.drop (sIx items.size 0 lo)).take (sIx items.size items.size hi - sIx items.size 0 lo)).toArray.size<=sizeLine
  rw[zy,zD,zaz,zai]
  omega
 have hj:sIx items.size items.size hi<=items.size:=sIx_le _ _ (zn _) hi
 obtain⟨os,hos,hcs,hds⟩:=id hs
 have hTs:s.TypeIs (.ref sl) "slice":=⟨os,hos,hcs⟩
 unfold getItem
 try with_reducible refine zah ?_
 first|refine yD (zl ?_)|skip
 refine yD (wpAny_sequenceKey ht.typeIs (by decide) ?_)
 refine yD (zar (name:=Str.ofString "__getitem__") ht.typeIs zal
  (zaA zal ht.typeIs entry_tuple_getitem ?_ (args_tuple_getitem _ _)))
 show wpAny _ _ (Builtin.Tuple.tupleItemsOf (.ref t) >>= _) _ _ s
 refine yD (tupleItemsOf_ ht ?_)
 refine yD (zbI hTs ?_)
 rw[zt (by decide)]
 refine yD (q2g hs pl pu ?_)
 have hno:¬((((sIx items.size 0 lo:Nat):Int)==0&&(1:Int)==1&&(sIx items.size items.size hi - sIx items.size 0 lo)==items.size)=true):=by
  intro q
  rw[zac,zac] at q
  have q1:((sIx items.size 0 lo:Nat):Int)=0:=eq_of_beq q.1.1
  have q2:sIx items.size items.size hi - sIx items.size 0 lo=items.size:=eq_of_beq q.2
  exact hw ⟨by omega,by omega⟩
 show wpAny _ _ (if (((sIx items.size 0 lo:Nat):Int)==0&&(1:Int)==1&&(sIx items.size items.size hi - sIx items.size 0 lo)==items.size)=true then _ else _) _ _ s
 rw[zo hno,qa5]
 first
  |exact yD (m:=Builtin.Tuple.tupleExact _) (zak (zl ⟨_,rfl,zl h⟩) htake)
  |exact yD (m:=Builtin.Tuple.tupleExact _) (zak (yD (zl (zl ⟨_,rfl,zl h⟩))) htake)
  |exact yD (yD (m:=Builtin.Tuple.tupleExact _) (zak (zl (zl ⟨_,rfl,zl h⟩)) htake))
  |exact yD (yD (m:=Builtin.Tuple.tupleExact _) (zak (zl ⟨_,rfl,zl h⟩) htake))
end
end HT
namespace L2
open PySem PySem.Spec PyProof.Rows
abbrev TO:=St->Hp->(Option Int->Hp->Prop)->Prop
def PO (X:Cx)(e:Option Expr)(t:TO):Prop:=
 ∀(pins:List (Addr×Obj)) (s:Shared) (σ:St) (H:Hp) (Q:Option Int->Hp->Prop),Inv X pins σ H s->t σ H Q->
  wpAny (model X.prog X.w) X.A (evalPart e X.env) (fun u s'=>∃o H',Inv X pins σ H' s'/\IsPart u o/\Q o H') X.xe s
def q80:TO:=fun _ H Q=>Q none H
def tPart (t:TE):TO:=fun σ H Q=>t σ H fun x H1=>∃i,x= .int i/\Q (some i) H1
theorem q2z {ns:List Int}:∀{us:List Value},Vals (ns.map V.int) us->IntsAre us ns:=by
 induction ns with
 |nil=>intro us r;rw[List.map_nil] at r;cases r;exact .nil
 |cons n ns ih=>
  intro us r
  rw[zZ] at r
  cases r with
  |cons r1 r2=>
   obtain⟨t,e⟩:=r1
   subst e
   exact .cons n t (ih r2)
section
variable {X:Cx}{e:Expr}{te:TE}{lo hi:Option Expr}{tl th:TO}{pos p2:Pos}
theorem qP:PO X none q80:=by
 intro pins s σ H Q I h
 rw[evalPart_none]
 exact zl ⟨none,H,I,.none,h⟩
theorem qH (h:PE X e te):PO X (some e) (tPart te):=by
 intro pins s σ H Q I hw
 rw[evalPart_some]
 refine thn (h pins s σ H _ I hw) fun u s1 ⟨x,H1,I1,r1,q1⟩=>?_
 obtain⟨i,rfl,q⟩:=q1
 obtain⟨t,rfl⟩:=r1
 exact⟨some i,H1,I1,.int i t,q⟩
def SlR (X:Cx)(r:V->Option Int->Option Int->Hp->VK->Prop):Prop:=
 ∀(pins:List (Addr×Obj)) (s:Shared) (σ:St) (H:Hp) (x:V) (v vl vu:Value) (lo hi:Option Int) (sl:Addr) (Q:VK),Inv X pins σ H s->RelV x v->s.heap.IsSliceOf sl vl vu .none->IsPart vl lo->IsPart vu hi->r x lo hi H Q->
  ∃T id,typeLookup (.type T) "__getitem__"=pure (some (.builtin id))/\s.TypeIs v T/\wpAny (model X.prog X.w) X.A (getItem v (.ref sl)) (EP X pins σ Q) X.xe s
def tSl (r:V->Option Int->Option Int->Hp->VK->Prop)(te:TE)(tl th:TO):TE:=fun σ H Q=>te σ H fun x H1=>tl σ H1 fun l H2=>th σ H2 fun u H3=>r x l u H3 Q
theorem qE {r:V->Option Int->Option Int->Hp->VK->Prop}(hr:SlR X r)(he:PE X e te)(hl:PO X lo tl)(hu:PO X hi th):PE X (.Subscript e (.Slice lo hi none p2) pos) (tSl r te tl th):=by
 intro pins s σ H Q I h
 refine Subscript_ (thn (he pins s σ H _ I h) fun v s1 ⟨x,H1,I1,r1,q1⟩=>?_)
 refine wpAny_Slice (thn (hl pins s1 σ H1 _ I1 q1) fun vl s2 ⟨l,H2,I2,pl,q2⟩=>thn (hu pins s2 σ H2 _ I2 q2) fun vu s3 ⟨u,H3,I3,pu,q3⟩=>?_)
 rw[evalPart_none]
 refine zl ?_
 have I4:Inv X pins σ H3 {s3 with heap:=s3.heap.push {cls:= .type "slice",data:= .fields #[vl,vu,.none]}}:=I3.kept (t':=s3.toks) fun b ob q=>zm _ q
 obtain⟨T,id,hT,ht,hg⟩:=hr pins {s3 with heap:=s3.heap.push {cls:= .type "slice",data:= .fields #[vl,vu,.none]}} σ H3 x v vl vu l u s3.heap.objs.size Q I4 r1 (Heap.IsSliceOf.new ..) pl pu q3
 show wpAny (model X.prog X.w) X.A (subscriptTail e (.Slice lo hi none p2) v (.ref s3.heap.objs.size)) (EP X pins σ Q) X.xe {s3 with heap:=s3.heap.push {cls:= .type "slice",data:= .fields #[vl,vu,.none]}}
 exact tail_any (ops:=[.ref s3.heap.objs.size,v]) ht hT hg (by with_unfolding_all rfl)
def cutV (xs:List V)(lo hi:Option Int):List V:=(xs.drop (HT.sIx xs.length 0 lo)).take (HT.sIx xs.length xs.length hi - HT.sIx xs.length 0 lo)
theorem q41 (xs:List V)(lo hi:Option Int):(cutV xs lo hi).length<=xs.length:=by
 unfold cutV
 rw[zD,zaz]
 omega
def rSlT (K:W.Frag):V->Option Int->Option Int->Hp->VK->Prop:=fun x lo hi H Q=>∃a xs,x= .ref a/\SqT K H a xs/\
 ¬(HT.sIx xs.length 0 lo=0/\HT.sIx xs.length xs.length hi=xs.length)/\∀p,H p=none->Q (.ref p) (upd H p (.tup (cutV xs lo hi)))
theorem sl_tup:SlR X (rSlT X.K):=by
 intro pins s σ H x v vl vu lo hi sl Q I rx hs pl pu h
 obtain⟨a,xs,rfl,hx,hw,q⟩:=h
 cases rx
 obtain⟨its,r,ht,hz⟩:=I.tuple hx
 have hlen:its.toArray.size=xs.length:=by rw[zy];exact r.length.symm
 refine⟨"tuple",_,zal.lookup,ht.typeIs,?_⟩
 refine HT.q3o ht hs pl pu (by rw[hlen];exact hw) ?_ (by rw[hlen];exact hz)
 rw[hlen]
 refine⟨.ref s.heap.objs.size,_,I.laid (t':=s.toks) (o:= .tup (cutV xs lo hi)) (fun b ob q=>zm _ q) (zn _) ?_,rfl,q _ (I.hok.fresh (zn _))⟩
 exact⟨zab (q41 xs lo hi) hz,_,(r.drop (HT.sIx xs.length 0 lo)).take (HT.sIx xs.length xs.length hi - HT.sIx xs.length 0 lo),IsTup.new _ _⟩
def rCatT (K:W.Frag):R2:=fun x y H Q=>∃a b xs ys,x= .ref a/\y= .ref b/\SqT K H a xs/\SqT K H b ys/\xs≠[]/\xs.length+ys.length<=sizeLine/\
 (ys=[]->Q (.ref a) H)/\(ys≠[]->∀p,H p=none->Q (.ref p) (upd H p (.tup (xs++ys))))
theorem Vals.nil_iff {xs:List V}{us:List Value}(r:Vals xs us):us=[]↔xs=[]:=by
 cases r with
 |nil=>simp
 |cons _ _=>simp
theorem q8H:OpR X (binaryOp .Add) (rCatT X.K):=by
 intro pins s σ H x y v u Q I rx ry h
 obtain⟨a,b,xs,ys,rfl,rfl,ha,hb,hx,hz,q1,q2⟩:=h
 cases rx
 cases ry
 obtain⟨its,r1,p1,_⟩:=I.tuple ha
 obtain⟨its2,r2,p2,_⟩:=I.tuple hb
 refine HT.qcR p1 p2 (fun z=>hx (r1.nil_iff.mp z)) (fun z=>⟨.ref a,H,I,rfl,q1 (r2.nil_iff.mp z)⟩) (fun z=>?_) (by rw[<-r1.length,<-r2.length];exact hz)
 refine⟨.ref s.heap.objs.size,_,I.laid (t':=s.toks) (o:= .tup (xs++ys)) (fun b ob q=>zm _ q) (zn _) ?_,rfl,q2 (fun w=>z (r2.nil_iff.mpr w)) _ (I.hok.fresh (zn _))⟩
 exact⟨by rw[zx];exact hz,_,r1.append r2,IsTup.new _ _⟩
end
def ixN (n:Nat)(i:Int):Option Nat:=if 0<=i then(if i<n then some i.toNat else none) else if -(n:Int)<=i then some (i+n).toNat else none
def atI {α:Type}(xs:List α)(i:Int):Option α:=(ixN xs.length i).bind fun j=>xs[j]?
theorem q8X {n:Nat}{i:Int}{j:Nat}(h:ixN n i=some j):seqIndex? i n=some j/\j<n/\ -(n:Int)<=i/\i<n:=by
 unfold ixN at h
 by_cases h0:0<=i
 ·rw [zt h0] at h
  by_cases h1:i<n
  ·rw [zt h1] at h
   have e:i.toNat=j:=zC h
   exact⟨by rw[seqIndex_of h0 h1,e],by omega,by omega,h1⟩
  ·rw [zo h1] at h;cases h
 ·rw [zo h0] at h
  by_cases h1: -(n:Int)<=i
  ·rw [zt h1] at h
   have e:(i+n).toNat=j:=zC h
   exact⟨by rw[seqIndex_neg (by omega) h1,e],by omega,h1,by omega⟩
  ·rw [zo h1] at h;cases h
theorem q6I {α:Type}{xs:List α}{i:Int}{v:α}(h:atI xs i=some v):∃j,seqIndex? i xs.length=some j/\xs[j]? =some v/\j<xs.length/\ -(xs.length:Int)<=i/\i<xs.length:=by
 unfold atI at h
 cases e:ixN xs.length i with
 |none=>rw[e] at h;cases h
 |some j=>
  rw[e] at h
  obtain⟨h1,h2,h3,h4⟩:=q8X e
  exact⟨j,h1,h,h2,h3,h4⟩
theorem q0r {α:Type}{xs:List α}{j:Nat}{v:α}(h:xs[j]? =some v):atI xs (j:Int)=some v:=by
 have hj:j<xs.length:=(yA h).1
 have e:ixN xs.length (j:Int)=some j:=by
  unfold ixN
  rw[zt (by omega),zt (by omega)];simp
 unfold atI;rw[e];exact h
def qcX (b:Expr):Prop:=∀o i,subscripted b false o i=operate [o,i] (getItem o i)
def IxR (X:Cx)(r:R2):Prop:=
 ∀(value slice:Expr) (pins:List (Addr×Obj)) (s:Shared) (σ:St) (H:Hp) (x y:V) (v u:Value) (Q:VK),Inv X pins σ H s->RelV x v->RelV y u->r x y H Q->
  subscripted slice false v u=operate [v,u] (getItem v u)->wpAny (model X.prog X.w) X.A (subscriptTail value slice v u) (EP X pins σ Q) X.xe s
def MtR (X:Cx)(id:String)(r:V->List V->Hp->VK->Prop):Prop:=
 ∀(pins:List (Addr×Obj)) (s:Shared) (σ:St) (H:Hp) (x:V) (xs:List V) (v:Value) (us:List Value) (Q:VK),Inv X pins σ H s->RelV x v->Vals xs us->r x xs H Q->
  wpAny (model X.prog X.w) X.A (call (.builtin id) (v::us)) (EP X pins σ Q) X.xe s
section
variable {X:Cx}{a b:Expr}{ta tb:TE}{pos:Pos}
theorem qm {r:R2}(hr:IxR X r)(ha:PE X a ta)(hb:PE X b tb)(hs:qcX b):PE X (.Subscript a b pos) (tOp r ta tb):=by
 intro pins s σ H Q I h
 exact Subscript_ (binT ha hb I h fun v u s2 x y H2 I2 rx ry q=>hr a b pins s2 σ H2 x y v u Q I2 rx ry q (hs _ _))
def rIxL (K:W.Frag):R2:=fun x y H Q=>∃p xs i v,x= .ref p/\y= .int i/\SqL K H p xs/\atI xs i=some v/\Q v H
def rIxT (K:W.Frag):R2:=fun x y H Q=>∃p xs i v,x= .ref p/\y= .int i/\SqT K H p xs/\atI xs i=some v/\Q v H
theorem qcu:IxR X (rIxL X.K):=by
 intro value slice pins s σ H x y v u Q I rx ry h hs
 obtain⟨p,xs,i,z,rfl,rfl,hq,he,q⟩:=h
 cases rx
 obtain⟨t,rfl⟩:=ry
 obtain⟨its,r,pl,hz⟩:=I.list hq
 obtain⟨j,h1,h2,h3,h4,h5⟩:=q6I he
 obtain⟨w,ew,rw'⟩:=r.get h2
 have hl:=r.length
 have hn:=q5U
 have fin:EP X pins σ Q w s:=⟨z,H,I,rw',q⟩
 by_cases h0:0<=i
 ·have hj:i.toNat=j:=by
   rw[seqIndex_of h0 h5] at h1
   exact zC h1
  exact item_listR pl.isList h0 (by omega) (by rw[hj];simpa using ew) fin hs
 ·have hj:(i+(its.toArray.size:Int)).toNat=j:=by
   rw[seqIndex_neg (by omega) h4] at h1
   rw[zy,<-hl]
   exact zC h1
  exact subscriptTail_builtinR (x:=w) pl.isList.typeIs slot_list_getitem.lookup
   (wpAny_getItem_list_neg (Q:=fun r s'=>r=w/\EP X pins σ Q r s') pl.isList (by omega) (by rw[zy]<;>omega) (by omega) (by rw[hj];simpa using ew) ⟨rfl,fin⟩) hs
theorem ix_tup:IxR X (rIxT X.K):=by
 intro value slice pins s σ H x y v u Q I rx ry h hs
 obtain⟨p,xs,i,z,rfl,rfl,hq,he,q⟩:=h
 cases rx
 obtain⟨t,rfl⟩:=ry
 obtain⟨its,r,pl,hz⟩:=I.tuple hq
 obtain⟨j,h1,h2,h3,h4,h5⟩:=q6I he
 obtain⟨w,ew,rw'⟩:=r.get h2
 have hl:=r.length
 have hn:=q5U
 have fin:EP X pins σ Q w s:=⟨z,H,I,rw',q⟩
 exact subscriptTail_builtinR (x:=w) pl.typeIs slot_tuple_getitem.lookup
  (getItem_tuple (j:=j) (Q:=fun r s'=>r=w/\EP X pins σ Q r s') pl (by omega) (by omega) (by rw[zy,<-hl];exact h1) (by simpa using ew) ⟨rfl,fin⟩) hs
theorem q7G (its:List Value)(n j:Nat)(u:Value):Obj.mapSeq (·.setIfInBounds j u) {cls:= .type "list",data:= .seq its.toArray n}={cls:= .type "list",data:= .seq (its.set j u).toArray n}:=by
 simp[Obj.mapSeq]
theorem Inv.lst {pins:List (Addr×Obj)}{σ:St}{H:Hp}{s:Shared}{p:Addr}{xs:List V}(I:Inv X pins σ H s)(h:H p=some (.lst xs)):
  ∃(its:List Value) (n:Nat),Vals xs its/\s.heap.get? p=some {cls:= .type "list",data:= .seq its.toArray n}/\xs.length<=sizeLine:=by
 obtain⟨z,its,n,r,e⟩:=I.hok p _ h
 exact⟨its,n,r,e,z⟩
theorem Inv.lstUpd {pins:List (Addr×Obj)}{σ:St}{H:Hp}{s:Shared}{p:Addr}{xs ys:List V}{its its':List Value}{n n':Nat}{f:Obj->Obj}(I:Inv X pins σ H s)(h:H p=some (.lst xs))
  (ho:s.heap.get? p=some {cls:= .type "list",data:= .seq its.toArray n})(hf:f {cls:= .type "list",data:= .seq its.toArray n}={cls:= .type "list",data:= .seq its'.toArray n'})(r:Vals ys its')(hz:ys.length<=sizeLine)(t:Nat):
  Inv X pins σ (upd H p (.lst ys)) {s with heap:=s.heap.update p f,toks:=t}:=by
 have e:(s.heap.update p f).get? p=some {cls:= .type "list",data:= .seq its'.toArray n'}:=by
  rw[zaa f ho (by rw[hf]<;>rfl),hf]
 refine I.write (x:=p) (e:=p) (by rw[h];trivial) (.inl rfl) (fun b u hb q=>(zT _ _ (Ne.symm hb)).trans q) ⟨_,e⟩ ?_
 exact⟨hz,its',n',r,e⟩
def rSetL:V->V->V->Hp->(Hp->Prop)->Prop:=fun o i v H Q=>∃p xs k j,o= .ref p/\i= .int k/\H p=some (.lst xs)/\ixN xs.length k=some j/\Q (upd H p (.lst (xs.set j v)))
theorem q6R:PSet X rSetL:=by
 intro pins s σ H o i v ov iv u Q I ro ri rv h
 obtain⟨p,xs,k,j,rfl,rfl,hp,hj,q⟩:=h
 cases ro
 obtain⟨t,rfl⟩:=ri
 obtain⟨its,n,r,ho,hz⟩:=I.lst hp
 obtain⟨h1,h2,h3,h4⟩:=q8X hj
 have hl:=r.length
 have hn:=q5U
 have I':Inv X pins σ (upd H p (.lst (xs.set j v))) {s with heap:=s.heap.update p (Obj.mapSeq (·.setIfInBounds j u))}:=
  I.lstUpd hp ho (q7G its n j u) (r.set rv j) (by rw[List.length_set];exact hz) s.toks
 by_cases h0:0<=k
 ·have hk:k.toNat=j:=by
   rw[seqIndex_of h0 h4] at h1
   exact zC h1
  exact PySem.W.ki_setAt ho h0 (by omega) (by rw[zy,<-hl];exact h4) (by rw[hk];exact⟨_,I',q⟩)
 ·have hk:(k+(its.toArray.size:Int)).toNat=j:=by
   rw[seqIndex_neg (by omega) h3] at h1
   rw[zy,<-hl]
   exact zC h1
  exact PySem.W.ki_setBack ho (by omega) (by rw[zy,<-hl];exact h3) (by omega) (by rw[hk];exact⟨_,I',q⟩)
theorem q5o (lo hi:Option Int)(n:Nat):(sliceBounds lo hi none n).1=((HT.sIx n 0 lo:Nat):Int)/\(sliceBounds lo hi none n).2.1=((HT.sIx n n hi:Nat):Int)/\(sliceBounds lo hi none n).2.2=1:=by
 refine⟨?_,?_,rfl⟩
 ·cases lo with
  |none=>simp[sliceBounds,HT.sIx]
  |some i=>
   simp only[sliceBounds,HT.sIx,Option.getD_none,show(1:Int)>0 by decide,if_true]
   by_cases h:i<0
   ·simp only[h,if_true]<;>omega
   ·simp only[h,if_false]<;>omega
 ·cases hi with
  |none=>simp[sliceBounds,HT.sIx]
  |some i=>
   simp only[sliceBounds,HT.sIx,Option.getD_none,show(1:Int)>0 by decide,if_true]
   by_cases h:i<0
   ·simp only[h,if_true]<;>omega
   ·simp only[h,if_false]<;>omega
theorem q4G (its:List Value)(lo hi:Option Int):slicePick its.toArray lo hi none=((its.drop (HT.sIx its.length 0 lo)).take (HT.sIx its.length its.length hi - HT.sIx its.length 0 lo)).toArray:=by
 obtain⟨h1,h2,h3⟩:=q5o lo hi its.toArray.size
 unfold slicePick
 rw[h1,h2,h3]
 simp only[sliceRange_one,pick_run,List.size_toArray]<;>rfl
def rSlL (K:W.Frag):V->Option Int->Option Int->Hp->VK->Prop:=fun x lo hi H Q=>∃a xs,x= .ref a/\SqL K H a xs/\∀p,H p=none->Q (.ref p) (upd H p (.lst (cutV xs lo hi)))
theorem qbD:SlR X (rSlL X.K):=by
 intro pins s σ H x v vl vu lo hi sl Q I rx hs pl pu h
 obtain⟨a,xs,rfl,hx,q⟩:=h
 cases rx
 obtain⟨its,r,ht,hz⟩:=I.list hx
 have hlen:=r.length
 refine⟨"list",_,slot_list_getitem.lookup,ht.isList.typeIs,?_⟩
 refine wpAny_getItem_list_slice ht.isList hs pl pu .none (by simp) ?_ (by rw[List.size_toArray]<;>omega)
 rw[q4G,<-hlen]
 refine⟨.ref s.heap.objs.size,_,I.laid (t':=s.toks) (o:= .lst (cutV xs lo hi)) (fun b ob q=>zm _ q) (zn _) ?_,rfl,q _ (I.hok.fresh (zn _))⟩
 exact⟨zab (q41 xs lo hi) hz,_,0,(r.drop (HT.sIx xs.length 0 lo)).take (HT.sIx xs.length xs.length hi - HT.sIx xs.length 0 lo),zB _ rfl⟩
def q3q:V->Bool
 | .non=>true
 | .bl _=>true
 | .int _=>true
 | .str _=>true
 |_=>false
def eqV:V->V->Bool
 | .non,.non=>true
 | .bl a,.bl b=>a==b
 | .bl a,.int b=>(if a then 1 else 0)==b
 | .int a,.bl b=>a==(if b then 1 else 0)
 | .int a,.int b=>a==b
 | .str a,.str b=>a==b
 |_,_=>false
theorem q9c {A:Around}{s:Shared}{y x:V}{u v:Value}(ry:RelV y u)(rx:RelV x v)(fy:q3q y=true)(fx:q3q x=true):SeqAt.EqAt A s u v (eqV y x):=by
 cases y with
 |non=>
  cases ry
  cases x with
  |non=>cases rx;exact SeqAt.EqAt.same _
  |bl b=>cases rx;exact SeqAt.EqAt.none_bool b
  |int b=>obtain⟨t,rfl⟩:=rx;exact SeqAt.EqAt.none_int b t
  |str b=>obtain⟨t,rfl⟩:=rx;exact SeqAt.EqAt.none_str b t
  |_=>exact absurd (show false=true from fx) zu
 |bl a=>
  cases ry
  cases x with
  |non=>cases rx;exact SeqAt.EqAt.bool_none a
  |bl b=>cases rx;exact SeqAt.EqAt.bool_bool a b
  |int b=>obtain⟨t,rfl⟩:=rx;exact SeqAt.EqAt.bool_int a b t
  |str b=>obtain⟨t,rfl⟩:=rx;exact SeqAt.EqAt.bool_str a b t
  |_=>exact absurd (show false=true from fx) zu
 |int a=>
  obtain⟨t',rfl⟩:=ry
  cases x with
  |non=>cases rx;exact SeqAt.EqAt.int_none a t'
  |bl b=>cases rx;exact SeqAt.EqAt.int_bool a t' b
  |int b=>obtain⟨t,rfl⟩:=rx;exact SeqAt.EqAt.int_int a t' b t
  |str b=>obtain⟨t,rfl⟩:=rx;exact SeqAt.EqAt.int_str a t' b t
  |_=>exact absurd (show false=true from fx) zu
 |str a=>
  obtain⟨t',rfl⟩:=ry
  cases x with
  |non=>cases rx;exact SeqAt.EqAt.str_none a t'
  |bl b=>cases rx;exact SeqAt.EqAt.str_bool a t' b
  |int b=>obtain⟨t,rfl⟩:=rx;exact SeqAt.EqAt.str_int a t' b t
  |str b=>obtain⟨t,rfl⟩:=rx;exact SeqAt.EqAt.str_str a t' b t
  |_=>exact absurd (show false=true from fx) zu
 |_=>exact absurd (show false=true from fy) zu
theorem q63:q1g X (.builtin "len") (fun xs H Q=>∃p ys,xs=[.ref p]/\(SqL X.K H p ys\/SqT X.K H p ys)/\Q (.int ys.length) H):=by
 intro pins s σ H xs us Q I r h
 obtain⟨p,ys,rfl,hq,q⟩:=h
 obtain⟨u,rfl,rx⟩:=q2U r
 cases rx
 have hn:=q5U
 rcases hq with hq|hq
 ·obtain ⟨its,r',pl,hz⟩:=I.list hq
  have hlen:=r'.length
  exact Calls.call_len_list pl.isList (by simp only[List.size_toArray]<;>omega) ⟨.int ys.length,H,I.tok _,⟨s.toks+1,by rw[zy,hlen]⟩,q⟩
 ·obtain ⟨its,r',pl,hz⟩:=I.tuple hq
  have hlen:=r'.length
  exact len_tuple pl (by simp only[List.size_toArray]<;>omega) ⟨.int ys.length,H,I.tok _,⟨s.toks+1,by rw[zy,hlen]⟩,q⟩
theorem q62:q1g X (.type "list") (fun xs H Q=>∃p ys,xs=[.ref p]/\(SqL X.K H p ys\/SqT X.K H p ys)/\∀l,H l=none->Q (.ref l) (upd H l (.lst ys))):=by
 intro pins s σ H xs us Q I r h
 obtain⟨p,ys,rfl,hq,q⟩:=h
 obtain⟨u,rfl,rx⟩:=q2U r
 cases rx
 have fin:∀(its:List Value),Vals ys its->ys.length<=sizeLine->∀(h':Heap) (c':Nat),(∀b o',s.heap.get? b=some o'->h'.get? b=some o')->
   h'.get? s.heap.objs.size=some {cls:= .type "list",dict:=none,data:= .seq its.toArray c',slots:= #[]}->EP X pins σ Q (.ref s.heap.objs.size) {s with heap:=h'}:=fun its r' hz h' c' kp e=>
  ⟨.ref s.heap.objs.size,_,I.laid (t':=s.toks) kp (zn _) (show q06 X.prog X.w _ h' _ (.lst ys) from⟨hz,its,c',r',e⟩),rfl,q _ (I.hok.fresh (zn _))⟩
 rcases hq with hq|hq
 ·obtain ⟨its,r',pl,hz⟩:=I.list hq
  have hlen:=r'.length
  obtain⟨o,ho,hc,n,hd⟩:=pl.isList
  exact call_list_seq p (.inl rfl) ho hc hd (fun h' c' kp e=>fin its r' hz h' c' kp e) (by simp only[List.size_toArray]<;>omega)
 ·obtain ⟨its,r',pl,hz⟩:=I.tuple hq
  have hlen:=r'.length
  obtain⟨o,ho,hc,n,hd⟩:=pl
  exact call_list_seq p (.inr rfl) ho hc hd (fun h' c' kp e=>fin its r' hz h' c' kp e) (by simp only[List.size_toArray]<;>omega)
theorem q4X:q1g X (.type "tuple") (fun xs H Q=>∃p ys,xs=[.ref p]/\((SqL X.K H p ys/\∀l,H l=none->Q (.ref l) (upd H l (.tup ys)))\/(SqT X.K H p ys/\Q (.ref p) H))):=by
 intro pins s σ H xs us Q I r h
 obtain⟨p,ys,rfl,h⟩:=h
 obtain⟨u,rfl,rx⟩:=q2U r
 cases rx
 rcases h with⟨hq,q⟩|⟨hq,q⟩
 ·obtain ⟨its,r',pl,hz⟩:=I.list hq
  have hlen:=r'.length
  refine call_tuple_list pl.isList (fun h' kp=>?_) (by simp only[List.size_toArray]<;>omega)
  have I1:Inv X pins σ H {s with heap:=h'}:=I.kept (t':=s.toks) kp
  have I2:Inv X pins σ (upd H h'.objs.size (.tup ys)) {s with heap:=h'.push {cls:= .type "tuple",data:= .seq its.toArray}}:=
   I1.laid (t':=s.toks) (fun b o e=>zm _ e) (zn _) (show q06 X.prog X.w _ _ _ (.tup ys) from⟨hz,its,r',IsTup.new _ _⟩)
  exact⟨.ref h'.objs.size,_,I2,rfl,q _ (I1.hok.fresh (zn _))⟩
 ·obtain ⟨its,r',pl,hz⟩:=I.tuple hq
  exact call_tuple_same pl ⟨.ref p,H,I,rfl,q⟩
def tyV (K:W.Frag)(T:String)(x:V)(H:Hp):Prop:=match x with
 | .str _=>T="str"
 | .int _=>T="int"
 | .ref p=>(T="list"/\∃xs,SqL K H p xs)\/(T="tuple"/\∃o,K.lookup p=some o/\o.cls= .type "tuple"/\o.dict=none)\/
   (T="dict"/\((∃kvs,H p=some (.dK kvs))\/∃kvs,H p=some (.dT kvs)))\/(T="set"/\∃S n,H p=some (.set S n))
 |_=>False
theorem qaZ {pins:List (Addr×Obj)}{σ:St}{H:Hp}{s:Shared}{T:String}{x:V}{v:Value}(I:Inv X pins σ H s)(r:RelV x v)(ty:tyV X.K T x H):
  s.TypeIs v T/\∀a,v= .ref a->∃ob,s.heap.get? a=some ob/\ob.dict=none:=by
 cases x with
 |str z=>
  obtain⟨t,rfl⟩:=r
  cases(show T="str" from ty)
  exact⟨typeIs_str s z t,fun _ e=>nomatch e⟩
 |int i=>
  obtain⟨t,rfl⟩:=r
  cases(show T="int" from ty)
  exact⟨typeIs_int s i t,fun _ e=>nomatch e⟩
 |ref p=>
  cases r
  rcases ty with⟨rfl,xs,hq⟩|⟨rfl,o,hk,hc,hd⟩|⟨rfl,hk⟩|⟨rfl,S,n,hk⟩
  ·obtain ⟨its,_,pl,_⟩:=I.list hq
   refine⟨pl.isList.typeIs,fun a e=>?_⟩
   cases e
   obtain⟨o,n,e,c,hd,_⟩:=pl
   exact⟨o,e,hd⟩
  ·refine ⟨⟨o,I.kIn p o hk,hc⟩,fun a e=>?_⟩
   cases e
   exact⟨o,I.kIn _ o hk,hd⟩
  ·have z:∃o,s.heap.get? p=some o/\o.ExactDict:=by
    rcases hk with⟨kvs,hk⟩|⟨kvs,hk⟩
    ·obtain ⟨_,_,_,_,o,_,_,e,ex,_⟩:=I.hok p _ hk
     exact⟨o,e,ex⟩
    ·obtain ⟨_,_,_,_,o,_,_,e,ex,_⟩:=I.hok p _ hk
     exact⟨o,e,ex⟩
   obtain⟨o,e,ex⟩:=z
   refine⟨⟨o,e,ex.1⟩,fun a e2=>?_⟩
   cases e2
   exact⟨o,e,ex.2.1⟩
  ·obtain ⟨o,_,_,_,e,ex,_⟩:=I.hok p _ hk
   refine⟨⟨o,e,ex.1⟩,fun a e2=>?_⟩
   cases e2
   exact⟨o,e,ex.2.1⟩
 |_=>exact False.elim ty
def tBM0 (K:W.Frag)(T:String)(r:V->List V->Hp->VK->Prop)(to:TE):TE:=fun σ H Q=>to σ H fun x H1=>tyV K T x H1/\r x [] H1 Q
def tBM (K:W.Frag)(T:String)(r:V->List V->Hp->VK->Prop)(to:TE)(t:TA):TE:=fun σ H Q=>to σ H fun x H1=>tyV K T x H1/\t σ H1 fun xs H2=>r x xs H2 Q
variable {o e:Expr}{es:List Expr}{to:TE}{t:TA}{name:Str}{apos cpos:Pos}{T id:String}{r:V->List V->Hp->VK->Prop}
theorem pe_bm0 (pa:PlainAttrs T)(slot:Slot T name id)(hty:typeOf (.builtin id)=pure (.type "method_descriptor"))(hm:MtR X id r)(ho:PE X o to)
  (hbase:attributeBase o name X.env (eval o X.env)=eval o X.env:=by rfl)(hline:(apos.endLine==cpos.line)=true:=by rfl):PE X (.Call (.Attribute o name apos) [] [] cpos) (tBM0 X.K T r to):=by
 intro pins s σ H Q I h
 refine wpAny_Call_method0_late hbase hline (thn (ho pins s σ H _ I h) fun v s1 ⟨x,H1,I1,r1,ty,q1⟩=>?_)
 obtain⟨h1,h2⟩:=qaZ I1 r1 ty
 exact⟨T,id,pa,slot,hty,h1,h2,zby rfl (PySem.evalArgs_none (hm pins s1 σ H1 x [] v [] Q I1 r1 .nil q1))⟩
theorem q4i (pa:PlainAttrs T)(slot:Slot T name id)(hty:typeOf (.builtin id)=pure (.type "method_descriptor"))(hm:MtR X id r)(ho:PE X o to)(ha:PA X (e::es) t)
  (hbase:attributeBase o name X.env (eval o X.env)=eval o X.env:=by rfl)
  (hfew:((backTo cpos (starEach (e::es) X.env)).all (fun x=> !x.1)&&(backToKw cpos (keywordEach [] X.env)).all (fun x=>x.1.isSome)
   &&decide ((e::es).length+([]:List Keyword).length+(if ([]:List Keyword).isEmpty then 0 else 1)<30))=true:=by rfl)
  (hline:(apos.endLine==cpos.line)=true:=by rfl)(hs:starEach (e::es) X.env=(false,eval e X.env)::starEach es X.env:=by rfl)(hplain:(backTo cpos (starEach es X.env)).any (·.1)=false:=by rfl):
  PE X (.Call (.Attribute o name apos) (e::es) [] cpos) (tBM X.K T r to t):=by
 intro pins s σ H Q I h
 refine wpAny_Call_method_late hbase hfew hline rfl (thn (ho pins s σ H _ I h) fun v s1 ⟨x,H1,I1,r1,ty,q1⟩=>?_)
 obtain⟨h1,h2⟩:=qaZ I1 r1 ty
 refine⟨T,id,pa,slot,hty,h1,h2,?_⟩
 have hA:=ha cpos pins s1 σ H1 _ I1 q1
 rw[hs] at hA ⊢
 refine zby (by show(false||(backTo cpos (starEach es X.env)).any (·.1))=false;rw[hplain]<;>rfl) (Calls.evalArgs_plain ?_)
 exact thn hA fun us s2 ⟨vs,H2,I2,r2,q2⟩=>hm pins s2 σ H2 x vs v us Q I2 r1 r2 q2
end
def MtM (X:Cx)(id:String)(r:V->List V->Hp->VK->Prop):Prop:=
 ∀(pins:List (Addr×Obj)) (s:Shared) (σ:St) (H:Hp) (x:V) (xs:List V) (v:Value) (us:List Value) (Q:VK),Inv X pins σ H s->RelV x v->Vals xs us->r x xs H Q->
  wpAny (model X.prog X.w) X.A (call (.builtin id) (v::us)) (EP X pins σ Q) X.xe s
theorem Vals.one:∀{x:V} {us:List Value},Vals [x] us->∃u,us=[u]/\RelV x u
 |_,_,.cons r .nil=>⟨_,rfl,r⟩
theorem Vals.zero:∀{us:List Value},Vals [] us->us=[]
 |_,.nil=>rfl
theorem Vals.dropLast {xs:List V}{us:List Value}(h:Vals xs us):Vals xs.dropLast us.dropLast:=by
 induction h with
 |nil=>exact .nil
 |cons r t ih=>
  cases t with
  |nil=>exact .nil
  |cons q t'=>exact .cons r ih
theorem Vals.rep {xs:List V}{us:List Value}(h:Vals xs us):∀k:Nat,Vals (List.replicate k xs).flatten (List.replicate k us).flatten
 |0=> .nil
 |k+1=>by
  rw[za8,za8,zbt,zbt]
  exact Vals.append h (Vals.rep h k)
theorem q7L {α:Type}(l:List α):l.eraseIdx (l.length - 1)=l.dropLast:=by
 induction l with
 |nil=>rfl
 |cons a r ih=>
  cases r with
  |nil=>rfl
  |cons b r=>
   have e:(a::b::r).length - 1=((b::r).length - 1)+1:=by
    have h1:(a::b::r).length=r.length+2:=rfl
    have h2:(b::r).length=r.length+1:=rfl
    omega
   rw[e,List.eraseIdx_cons_succ,ih]
   all_goals rfl
theorem q5Y (its:List Value):∀(k:Nat) (acc:List Value),
  List.foldl (fun x1 x2=>x1++x2) acc.toArray (List.replicate k its.toArray)=(acc++(List.replicate k its).flatten).toArray
 |0,acc=>by simp
 |k+1,acc=>by
  have e:acc.toArray++its.toArray=(acc++its).toArray:=by simp
  have e2:(acc++its)++(List.replicate k its).flatten=acc++(List.replicate (k+1) its).flatten:=by
   rw[za8,zbt,zbb]
  rw[<-e2,<-q5Y its k (acc++its),<-e,za8,List.foldl_cons]
section
variable {X:Cx}{pins:List (Addr×Obj)}{σ:St}{H:Hp}{s:Shared}{l b:Addr}{xs ys zs:List V}
theorem Inv.lset {its its':List Value}{n:Nat}{f:Array Value->Array Value}{t':Nat}(I:Inv X pins σ H s)(hH:H l=some (.lst xs))
  (e:s.heap.get? l=some {cls:= .type "list",data:= .seq its.toArray n})(hf:f its.toArray=its'.toArray)(hv:Vals ys its')(hz:ys.length<=sizeLine):
  Inv X pins σ (upd H l (.lst ys)) {s with heap:=s.heap.update l (Obj.mapSeq f),toks:=t'}:=by
 have q:=PySem.IsL.update e f
 rw[hf] at q
 refine I.write (x:=l) (e:=l) (by rw[hH];exact trivial) (.inl rfl) (fun b' u hb hu=>(zT s.heap (Obj.mapSeq f) (Ne.symm hb)).trans hu) ⟨_,q⟩ ?_
 exact⟨hz,its',_,hv,q⟩
theorem Inv.lnew {its:List Value}{t':Nat}(I:Inv X pins σ H s)(hv:Vals ys its)(hz:ys.length<=sizeLine):
  Inv X pins σ (upd H s.heap.objs.size (.lst ys)) {s with heap:=s.heap.push {cls:= .type "list",data:= .seq its.toArray},toks:=t'}:=
 I.laid (fun _ _ q=>zm _ q) (zn _) ⟨hz,its,0,hv,zB _ rfl⟩
theorem Inv.fresh (I:Inv X pins σ H s):H s.heap.objs.size=none:=I.hok.fresh (zn _)
theorem Inv.lstM (I:Inv X pins σ H s)(hH:H l=some (.lst xs)):xs.length<=sizeLine/\∃(its:List Value) (n:Nat),Vals xs its/\xs.length=its.length/\s.heap.get? l=some {cls:= .type "list",data:= .seq its.toArray n}:=by
 obtain⟨z,its,n,r,e⟩:=I.hok l _ hH
 exact⟨z,its,n,r,r.length,e⟩
theorem qau {n:Nat}(h:n<=sizeLine):Builtin.List.listTooLong n=false:=by
 unfold Builtin.List.listTooLong
 exact zq (by omega)
end
section
variable {X:Cx}
def q8o:V->List V->Hp->VK->Prop:=fun x vs H Q=>∃l xs y,x= .ref l/\vs=[y]/\H l=some (.lst xs)/\xs.length<sizeLine/\Q .non (upd H l (.lst (xs++[y])))
theorem q0q:MtM X "list.append" q8o:=by
 intro pins s σ H x vs v us Q I rx rv h
 obtain⟨l,xs,y,rfl,rfl,hH,hz,q⟩:=h
 cases rx
 obtain⟨u,rfl,ru⟩:=rv.one
 obtain⟨z,its,n,r,hl,e⟩:=I.lstM hH
 refine call_meets F.slot_list_append ⟨_,e,rfl⟩ F.entry_list_append (F.args_list_append_2 _ _) (PySem.list_append l its.toArray n u (by rw[zy];omega)) ⟨e,?_⟩
 refine⟨.non,_,I.lset (its':=its++[u]) hH e (by simp) (r.append (.cons ru .nil)) ?_,rfl,q⟩
 rw[zx,List.length_singleton]
 omega
def rPop:V->List V->Hp->VK->Prop:=fun x vs H Q=>∃l xs y,x= .ref l/\vs=[]/\H l=some (.lst xs)/\xs[xs.length - 1]? =some y/\Q y (upd H l (.lst xs.dropLast))
theorem mt_pop:MtM X "list.pop" rPop:=by
 intro pins s σ H x vs v us Q I rx rv h
 obtain⟨l,xs,y,rfl,rfl,hH,hy,q⟩:=h
 cases rx
 have hus:=rv.zero
 subst hus
 obtain⟨z,its,n,r,hl,e⟩:=I.lstM hH
 obtain⟨u,hu,ru⟩:=r.get hy
 have hy':its.toArray[its.toArray.size - 1]? =some u:=by
  show its.toArray[its.length - 1]? =some u
  rw[<-zbe,<-hl]
  exact hu
 refine call_meets F.slot_list_pop ⟨_,e,rfl⟩ F.entry_list_pop (F.args_list_pop_1 _) (MeetsSeq.list_pop_last l its.toArray n u hy' (by rw[zy];omega)) ⟨e,?_⟩
 refine⟨y,_,I.lset (its':=its.dropLast) hH e ?_ r.dropLast ?_,ru,q⟩
 ·show its.toArray.eraseIdxIfInBounds (its.toArray.size - 1)=its.dropLast.toArray
  rw[zy,List.eraseIdxIfInBounds_toArray,q7L]
 ·rw [List.length_dropLast]
  omega
def rCat:R2:=fun x y H Q=>∃l b xs zs,x= .ref l/\y= .ref b/\H l=some (.lst xs)/\H b=some (.lst zs)/\xs.length+zs.length<=sizeLine/\∀p,H p=none->Q (.ref p) (upd H p (.lst (xs++zs)))
theorem q0z:OpR X (binaryOp .Add) rCat:=by
 intro pins s σ H x y v u Q I rx ry h
 obtain⟨l,b,xs,zs,rfl,rfl,hH,hB,hz,q⟩:=h
 cases rx
 cases ry
 obtain⟨z,its,n,r,hl,e⟩:=I.lstM hH
 obtain⟨z2,its2,n2,r2,hl2,e2⟩:=I.lstM hB
 refine PySem.P.add_list e e2 ?_ (by rw[zy,zy];omega)
 have ea:its.toArray++its2.toArray=(its++its2).toArray:=by simp
 rw[ea]
 exact⟨.ref _,_,I.lnew (t':=s.toks) (r.append r2) (by rw[zx];omega),rfl,q _ I.fresh⟩
def rRep:R2:=fun x y H Q=>∃l k xs,x= .ref l/\y= .int k/\H l=some (.lst xs)/\ -(2 ^ 63)<=k/\k<2 ^ 63/\xs.length*k.toNat<=sizeLine/\
 ∀p,H p=none->Q (.ref p) (upd H p (.lst (List.replicate k.toNat xs).flatten))
theorem qcr {α:Type}(xs:List α)(k:Nat):(List.replicate k xs).flatten.length=k*xs.length:=by
 induction k with
 |zero=>simp
 |succ k ih=>rw[za8,zbt,zx,ih,Nat.succ_mul,Nat.add_comm]
theorem op_rep:OpR X (binaryOp .Mult) rRep:=by
 intro pins s σ H x y v u Q I rx ry h
 obtain⟨l,k,xs,rfl,rfl,hH,h1,h2,hz,q⟩:=h
 cases rx
 obtain⟨t,rfl⟩:=ry
 obtain⟨z,its,n,r,hl,e⟩:=I.lstM hH
 have hlen:its.toArray.size*k.toNat<=sizeLine:=by rw[zy,<-hl];exact hz
 have hcap:¬its.toArray.size*k.toNat>(2 ^ 63 - 1) / 8:=by
  have:(sizeLine:Nat)<=(2 ^ 63 - 1) / 8:=by decide
  omega
 have hfit:¬(!Builtin.List.listFitsIndex k)=true:=by
  rw[fitsIndex_both h1 h2]
  exact zu
 have hlong:¬Builtin.List.listTooLong (its.toArray.size*k.toNat)=true:=by
  rw[qau hlen]
  exact zu
 have hnew:List.foldl (fun x1 x2=>x1++x2) #[] (List.replicate (if its.toArray.isEmpty=true then 0 else k.toNat) its.toArray)=(List.replicate k.toNat its).flatten.toArray:=by
  have f0:∀m:Nat,List.foldl (fun x1 x2=>x1++x2) #[] (List.replicate m its.toArray)=(List.replicate m its).flatten.toArray:=fun m=>by
   have:=q5Y its m []
   rw[zcp] at this
   exact this
  rw[f0]
  cases its with
  |nil=>simp
  |cons a r'=>rw[zo (by simp)]
 refine wpAny_binaryOp_repeat_ref (T:="list") (U:="int") (by decide) ⟨_,e,rfl⟩ (fun s'=>typeIs_int s' k t) noFill_list_mul F.fills_int_mul F.slot_int_rmul repeat_list F.slot_int_index.lookup
  (call_meets F.slot_int_rmul (typeIs_int s k t) F.entry_int_rmul (F.args_int_rmul_2 _ _) (int___rmul___int_list k t l its.toArray n)
   ⟨e,rfl,⟨_,e,rfl⟩,call_meets F.slot_list_mul ⟨_,e,rfl⟩ F.entry_list_mul (F.args_list_mul_2 _ _) (AutoListH.list___mul___list_int_3 l its.toArray n k t hfit hcap hlong) ⟨e,?_⟩⟩)
 rw[hnew]
 exact⟨.ref _,_,I.lnew (t':=s.toks) (r.rep k.toNat) (by rw[qcr,Nat.mul_comm];exact hz),rfl,q _ I.fresh⟩
end
end L2
namespace Att
open PySem PySem.W PySem.Calls PyProof.Rows
theorem q3X {P:Params}{h:Heap}:∀(ns:List Int) (vs:List Value),WellAll P h vs (ns.map WData.int)->IntsAre vs ns:=by
 intro ns
 induction ns with
 |nil=>
  intro vs w
  rw[List.map_nil] at w
  cases w
  exact .nil
 |cons n ns ih=>
  intro vs w
  rw[zZ] at w
  cases w with
  |cons a b=>
   cases a
   exact .cons _ _ (ih _ b)
theorem q8e {l:OpenLaw}{n:Nat}(hn:l.most=some n){P:Params}{h:Heap}{args:List WData}{vals:List Value}
  (hpre:l.row.toRowW.claim.pre args=true)(hwl:WellAll P h vals args):
  ∃a vs ns,vals=[Value.ref a]/\args=[WData.list (ns.map WData.int)]/\h.get? a=some {cls:= .type "list",data:= .seq vs.toArray}/\IntsAre vs ns/\ns.length<=n:=by
 have hsh:WShape.hasAll [] args [.list .int]=true:=(pre_splitW hpre).1
 have hc:l.pre.holds [] {args:=args}=true:=(pre_splitW hpre).2
 obtain⟨d,r,rfl,h1,h2⟩:=hasAllW_cons hsh
 obtain rfl:=hasAllW_nil h2
 obtain⟨xs,rfl,h3⟩:=hasW_list h1
 obtain⟨ns,rfl⟩:=items_int h3
 have hlen:ns.length<=n:=by
  unfold OpenLaw.pre at hc
  have h4:(WTm.not (.lt (.lit (.int (n:Int))) (.len (.arg 0)))).holds [] {args:=[.list (ns.map .int)]}=true:=by
   have h4:=(holds_andW hc).1
   rw[hn] at h4
   exact h4
  have h5:=condW_of h4 (w_not (w_lt w_lit (w_len_list (w_arg rfl))))
  rw[yC] at h5
  refine Nat.le_of_not_lt fun q=>?_
  have q':(n:Int)<((ns.length:Nat):Int):=by omega
  first
   |(rw[zr q'] at h5;exact absurd h5 (by decide))
   |(simp at h5;omega)
 cases hwl with
 |cons w1 w2=>
  cases w2
  cases w1 with
  |list ho hall=>exact⟨_,_,ns,rfl,rfl,ho,q3X ns _ hall,hlen⟩
theorem q8w (l:OpenLaw)(args:List WData):l.row.toRowW.claim.post args (.bool true) args=true:=
 postW_of (r:=l.row.toRowW) (X:=(true==true))
  (show WShape.has [] (.bool true) .bool=true by first|rfl|decide|simp[WShape.has,WShape.arms,WShape.armsAll])
  (show(WTm.eq .res (.lit (.bool true))).value [] {args:=args,res:=some (.bool true),after:=args}=some (.bool (true==true)) from w_eq_bool (w_res rfl) w_lit) rfl
theorem q6H {l:OpenLaw}{n:Nat}{q:Program}{loose:List Str}{XP:(Str->Option Value)->Heap->Prop}{YP:World->Heap->Prop}{d:DefRec}
  (hn:l.most=some n)(hdf:d.params.defaults=[])
  (call:∀(w:World) (s₀ s₁:Shared) (mg mb:Str->Option Value) (fa:Addr) (o:Obj) (pm cd doc:Value) (a:Addr) (vs:List Value) (ns:List Int),
   Ground q loose [] XP w s₀ mg mb s₁.heap->YP w s₁.heap->
   s₁.heap.get? fa=some o->o.data= .func (docDef d.name d.params d.body d.scope pm cd doc)->s₁.heap.CodeRec cd d.name->mg d.name=some (.ref fa)->
   s₁.heap.get? a=some {cls:= .type "list",data:= .seq vs.toArray}->IntsAre vs ns->ns.length<=n->s₁.gens= #[]->
   codeAny (model l.prog w) callerA (.call (.ref fa) ⟨[.ref a],[]⟩) (fun r s'=>r= .ok (.ret (.bool true))/\OldK s₁.heap s'.heap/\s'.os=s₁.os/\AllBare s'.gens) s₁):
  WalkO q loose XP YP l.row.toRowW d [] (fun f vs=>PySem.call f vs):=by
 intro w s₀ s₁ mg mb G Y fa o pm cd doc dV kV ho hd hcd hD hmg hg args vals as hpre hlay hrd hwl hlo
 obtain rfl:dV= .none:=Dflts.none hD hdf
 obtain rfl:kV= .none:=Dflts.noKw hD
 obtain⟨a,vs,ns,rfl,rfl,hobj,hints,hlen⟩:=q8e hn hpre hwl
 refine enter_call (zbn (call w s₀ s₁ mg mb fa o pm cd doc a vs ns G Y ho (fd_plain hd) hcd hmg hobj hints hlen hg) fun r s' hq=>?_)
 obtain⟨rfl,h2,h3,h4⟩:=hq
 exact⟨.inl ⟨.bool true,.bool true,[],rfl,fun _=>rfl,.bool true,q8w l _,fun _=>⟨List.Pairwise.nil,fun _ hm=>(nomatch hm)⟩⟩,h2,h3,h4⟩
end Att
namespace L2
open PySem PySem.Spec PyProof.Rows
theorem q5h:∀{vs:List Value} {ns:List Int},IntsAre vs ns->Vals (ns.map V.int) vs
 |_,_,.nil=> .nil
 |_,_,.cons n t h=> .cons ⟨t,rfl⟩ (q5h h)
def Only (H:Hp):Prop:=∀b,H b=none\/∃o xs,H b=some (.frz o (.lst xs))
theorem qaB {P:Program}{w:World}{K:W.Frag}{mg mb:Str->Option Value}{CX:CXT}{k:Nat}{fa a:Addr}{fd:FuncData}{x:Str}{sp:Sp}{s₁:Shared}{vs:List Value}{ns:List Int}
  (KX:K.In s₁.heap)(hns:s₁.heap.Ns mainGlobals mg)(hb:s₁.heap.Ns builtinsNs mb)(hbb:∀x:Str,x≠"__name__"->mb x=bootBuiltins x)(hlim:s₁.heap.NoLimit)(hg:s₁.gens= #[])
  (ha:s₁.heap.get? a=some {cls:= .type "list",data:= .seq vs.toArray})(hi:IntsAre vs ns)(hl:ns.length<=sizeLine)(hr:Room k callerA)
  (F:∀base:Heap,K.In base->base.Ns mainGlobals mg->FnOk P w K mg base CX k fa fd [x] sp)(hbind:∀(s:Shared) (u:Value),BindsTo s fd ⟨[u],[]⟩ [(x,u)])
  (hsp:∀H:Hp,Only H->SqL K H a (ns.map V.int)->sp [.ref a] H (fun v _=>v= .bl true) fun _ _ _=>False)
  (hCX:∀H e s',CX [] H s₁ (fun _ _ _=>False) e s'->False):
  codeAny (model P w) callerA (.call (.ref fa) ⟨[.ref a],[]⟩) (fun r s'=>r= .ok (.ret (.bool true))/\OldK s₁.heap s'.heap/\s'.os=s₁.os/\AllBare s'.gens) s₁:=by
 have rv:=q5h hi
 have lenV:=hi.length
 -- from an abstract heap in which nothing but the script may be tracked
 have core:∀H:Hp,Only H->SqL K H a (ns.map V.int)->HOk P w H s₁.heap->(∀b,H b≠none->b=a)->(H a≠none->K.lookup a=none)->
   codeAny (model P w) callerA (.call (.ref fa) ⟨[.ref a],[]⟩) (fun r s'=>r= .ok (.ret (.bool true))/\OldK s₁.heap s'.heap/\s'.os=s₁.os/\AllBare s'.gens) s₁:=by
  intro H hO hS hok hA hK
  have base_of:∀{b:Addr} {o:Obj},s₁.heap.get? b=some o->H b=none->(hidT s₁.heap H).get? b=some o:=fun e n=>qaG e n
  have noA:∀{b:Addr} {o:Obj} {es:Array DictEntry} {ep:Nat},s₁.heap.get? b=some o->o.data= .dict es ep->H b=none:=fun {b o es ep} e d=>by
   cases q:H b with
   |none=>rfl
   |some u=>
    have e':b=a:=hA b (by rw[q];simp)
    subst e'
    rw[ha] at e;cases e
    have d':Data.seq vs.toArray _=Data.dict es ep:=d
    cases d'
  have nsK:∀{b:Addr} {m:Str->Option Value},s₁.heap.Ns b m->(hidT s₁.heap H).Ns b m:=fun {b m} ⟨o,es,ep,e,d,r⟩=>⟨o,es,ep,base_of e (noA e d),d,r⟩
  have hKb:K.In (hidT s₁.heap H):=fun b o e=>base_of (KX b o e) (by
   cases q:H b with
   |none=>rfl
   |some u=>
    have e':b=a:=hA b (by rw[q];simp)
    subst e'
    rw[hK (by rw[q];simp)] at e;cases e)
  have hM:Mod K mg (hidT s₁.heap H):=⟨hKb,nsK hns,⟨mb,nsK hb,hbb⟩,let ⟨mc,h1,h2⟩:=hlim;⟨mc,nsK h1,h2⟩⟩
  have e0:Env0 P w K mg (hidT s₁.heap H) callerA [] s₁ H:=⟨rfl,hM,fun b o e=>qci e,zcl (q94 _ _),trivial,fun b hb=>absurd (show b∈([]:List Addr) from hb) (by simp),hok,.of_eq hg⟩
  refine zbn ((F _ hKb (nsK hns)).run callerA [] s₁ H ⟨[.ref a],[]⟩ [.ref a] [.ref a] _ _ hr e0 (hbind s₁ (.ref a)) (.cons rfl .nil) (hsp H hO hS)) fun r s' h=>?_
  cases r with
  |error e=>exact(hCX H e s' h).elim
  |ok fl=>
   cases fl with
   |next=>exact False.elim h
   |brk=>exact False.elim h
   |cont=>exact False.elim h
   |ret u=>
    obtain⟨v,H',os,bare,un,hok',r',q⟩:=h
    have q':v= .bl true:=q
    subst q'
    obtain rfl:u=Value.bool true:=r'
    refine⟨rfl,OldK.of_keep fun b o e=>?_,os,bare⟩
    cases q:H b with
    |none=>exact un.keep b o e q (by intro z;exact absurd (show b∈([]:List Addr) from z) (by simp)) (by simp)
    |some u=>
     rcases hO b with z|⟨ob,xs,z⟩
     ·rw [q] at z;cases z
     ·have z2:=un.frzs b ob _ z
      obtain⟨e1,_⟩:=hok b _ z
      obtain⟨e2,_⟩:=hok' b _ z2
      rw[e] at e1;cases e1
      exact e2
 cases hk:K.lookup a with
 |some o=>
  -- the script is one of the module's own objects
  have e:=KX a o hk
  rw[ha] at e
  cases e
  refine core (fun _=>none) (fun _=> .inl rfl) (.inr ⟨_,vs.toArray,_,hk,rfl,rfl,rfl,by rw[zy,lenV];exact hl,by simpa using rv⟩) (fun b u z=>by have z':(none:Option HO)=some u:=z;cases z') (fun b z=>absurd rfl z) fun z=>absurd rfl z
 |none=>
  refine core (fun b=>if b=a then some (.frz {cls:= .type "list",data:= .seq vs.toArray} (.lst (ns.map V.int))) else none) (fun b=>?_) (.inl (.inr ⟨{cls:= .type "list",data:= .seq vs.toArray},zt rfl⟩)) (fun b u z=>?_) (fun b z=>?_) fun _=>hk
  ·by_cases hb:b=a
   ·exact .inr ⟨_,_,zt hb⟩
   ·exact .inl (zo hb)
  ·by_cases hb:b=a
   ·have z':=(zt hb).symm.trans z
    cases z'
    subst hb
    exact⟨ha,by rw[yC];exact hl,vs,_,rv,ha⟩
   ·have z':=(zo hb).symm.trans z
    cases z'
  ·by_cases hb:b=a
   ·exact hb
   ·exact absurd (zo hb) z
theorem qbt {l:PySem.W.OpenLaw}{n k:Nat}{q:Program}{loose:List Str}{XP:(Str->Option Value)->Heap->Prop}{YP:World->Heap->Prop}{d:DefRec}{K:Params->W.Frag}{CX:World->CXT}{sp:World->Sp}{x:Str}
  (hn:l.most=some n)(hn2:n<=sizeLine)(hdf:d.params.defaults=[])(hr:Room k callerA)
  (hY:∀(w:World) (h:Heap),YP w h->(K w.params).In h)
  (F:∀(w:World) (mg:Str->Option Value) (fa:Addr) (h:Heap),(K w.params).In h->h.Ns mainGlobals mg->mg d.name=some (.ref fa)->
   ∃fd:FuncData,(∀(s:Shared) (u:Value),BindsTo s fd ⟨[u],[]⟩ [(x,u)])/\
    ∀base:Heap,(K w.params).In base->base.Ns mainGlobals mg->FnOk l.prog w (K w.params) mg base (CX w) k fa fd [x] (sp w))
  (hsp:∀(w:World) (H:Hp) (a:Addr) (ns:List Int),ns.length<=n->Only H->SqL (K w.params) H a (ns.map V.int)->sp w [.ref a] H (fun v _=>v= .bl true) fun _ _ _=>False)
  (hCX:∀(w:World) (H:Hp) (s:Shared) (e:Value) (s':Shared),CX w [] H s (fun _ _ _=>False) e s'->False):
  PySem.W.WalkO q loose XP YP l.row.toRowW d [] (fun f vs=>PySem.call f vs):=by
 refine Att.q6H hn hdf fun w s₀ s₁ mg mb fa o pm cd doc a vs ns G Y ho hd hcd hmg hobj hints hlen hg=>?_
 have KX:=hY w _ Y
 obtain⟨fd,hb,hF⟩:=F w mg fa _ KX G.T.g hmg
 exact qaB KX G.T.g G.T.b G.T.builtins G.T.nolimit hg hobj hints (zab hlen hn2) hr hF hb (fun H hO hS=>hsp w H a ns hlen hO hS) fun H e s'=>hCX w H s₁ e s'
def qN (s:Stmt)(j:Nat):Stmt:=match s with
 | .ClassDef _ _ _ body _ _ _ _ _ _ _=>body.getD j (.Pass ⟨0,0,0,0⟩)
 |_=> .Pass ⟨0,0,0,0⟩
def q0I (s:Stmt):Arguments:=match s with
 | .FunctionDef _ a _ _ _ _ _ _ _ _=>a
 |_=>{posonlyargs:=[],args:=[],vararg:=none,kwonlyargs:=[],kw_defaults:=[],kwarg:=none,defaults:=[]}
def q0c (s:Stmt):List Stmt:=match s with
 | .FunctionDef _ _ b _ _ _ _ _ _ _=>b
 |_=>[]
def qh (s:Stmt):Scope:=match s with
 | .FunctionDef _ _ _ _ _ _ sc _ _ _=>sc
 |_=>{kind:= .function,names:=[],isGenerator:=false,isCoroutine:=false}
abbrev CX0:CXT:=fun _ _ _ _ _ _=>False
abbrev E0:XK:=fun _ _ _=>False
theorem q6r {X:Cx}:q4x CX0 X E0:=fun _ _ _ _ _ _ _ h=>h.elim
structure Fun (K:W.Frag)(x qual:Str)(st:Stmt)(f:Addr)(fd:FuncData):Prop where
 ex:∃(oc:Value) (od:Option Addr) (kV doc pm:Value) (an:Option Addr) (cdv ct:Value) (osl:Array (Option Value)),
  fd=PySem.W.fnOf x qual (q0I st) (q0c st) (qh st) .none kV doc pm an cdv ct/\K.lookup f=some ⟨oc,od,.func fd,osl⟩/\PySem.W.codeIn K cdv qual=true
 kp:PySem.W.keepIn K (.ref f)=true
section
variable {P:Program}{w:World}{K:W.Frag}{mg:Str->Option Value}{base:Heap}
theorem Fun.ok {x qual:Str}{st:Stmt}{f:Addr}{fd:FuncData}{N ps:List Str}{k:Nat}{sp:Sp}(F:Fun K x qual st f fd)(S:FnScope N ps (qh st))(len:∀vs H Q E,sp vs H Q E->vs.length=ps.length)
  (hbody:∀(cdv:Value) (A:Around) (outer:List Env) (s:Shared) (H:Hp) (vs:List V) (Q:VK) (E:XK),Room k (A.deeper (envOfC qual (qh st) s.heap.objs.size f cdv))->sp vs H Q E->
   ∃t,PSs (cxOf CX0 P w K mg base N qual (qh st) f cdv A outer s H E).nox (q0c st) t/\t {nx:=fun _ H'=>Q .non H',rt:=Q} (start N vs) H):FnOk P w K mg base CX0 (k+1) f fd ps sp:=by
 obtain⟨oc,od,kV,doc,pm,an,cdv,ct,osl,rfl,lk,hcd⟩:=F.ex
 refine fn_of lk hcd S len fun A outer s H vs Q E hr hsp=>?_
 obtain⟨t,h,q⟩:=hbody cdv A outer s H vs Q E hr hsp
 exact⟨t,h.nox,q⟩
theorem Fun.binds {x qual:Str}{st:Stmt}{f:Addr}{fd:FuncData}{ps:List Str}(F:Fun K x qual st f fd)
  (h:∀(kV doc pm:Value) (an:Option Addr) (cdv ct:Value) (us:List Value),us.length=ps.length->bindArgs (PySem.W.fnOf x qual (q0I st) (q0c st) (qh st) .none kV doc pm an cdv ct) ⟨us,[]⟩=pure (ps.zip us)):q1q K fd ps []:=by
 obtain⟨oc,od,kV,doc,pm,an,cdv,ct,osl,rfl,lk,hcd⟩:=F.ex
 exact .all (h kV doc pm an cdv ct)
theorem q2q {x qual:Str}{st:Stmt}{f:Addr}{oc:Value}{od an:Option Addr}{osl:Array (Option Value)}{kV doc pm cdv ct:Value}(l:K.lookup f=some ⟨oc,od,.func (PySem.W.fnOf x qual (q0I st) (q0c st) (qh st) .none kV doc pm an cdv ct),osl⟩)
  (c:PySem.W.codeIn K cdv qual=true)(k:PySem.W.keepIn K (.ref f)=true):Fun K x qual st f (PySem.W.fnOf x qual (q0I st) (q0c st) (qh st) .none kV doc pm an cdv ct):=⟨⟨oc,od,kV,doc,pm,an,cdv,ct,osl,rfl,l,c⟩,k⟩
end
theorem qcz {A:Around}{k:Nat}(hr:Room k A):A.units+1<cLine:=zbp (Nat.add_le_add_left (by decide:1<=64) _) hr.units
section
variable {X:Cx}
theorem pv (i:Nat){x:Str}{pos:Pos}(hN:X.N[i]? =some x:=by rfl)(hv:Vis X.env.scope x:=by first|exact Or.inl rfl|exact Or.inr (Or.inl rfl)|exact Or.inr (Or.inr rfl))(hd:(x==("__debug__":Str))=false:=by decide)
  (hcd:(x==("__classdict__":Str))=false:=by decide):PE X (.Name x pos) (tVar i):=pe_var hN hv hd hcd
end
theorem iteF {A B:Prop}(h:B):if false=true then A else B:=by
 rw[zo zu]
 exact h
theorem iteT {A B:Prop}(h:A):if true=true then A else B:=by
 rw[zt rfl]
 exact h
theorem ite2 {c A B:Prop}[Decidable c](h1:c->A)(h2:¬c->B):if c then A else B:=by
 by_cases h:c
 ·rw [zt h]
  exact h1 h
 ·rw [zo h]
  exact h2 h
def Same (H H':Hp):Prop:=∀b o,H b=some o->H' b=some o
theorem Same.refl (H:Hp):Same H H:=fun _ _ h=>h
theorem Same.trans {H H1 H2:Hp}(a:Same H H1)(b:Same H1 H2):Same H H2:=fun c o h=>b c o (a c o h)
theorem Same.free {H H':Hp}(e:Same H H'){l:Addr}(h:H' l=Option.none):H l=Option.none:=by
 cases q:H l with
 |none=>rfl
 |some o=>
  rw[e l o q] at h
  cases h
theorem Same.seq {K:W.Frag}{H H':Hp}{a:Addr}{xs:List V}(e:Same H H')(h:SqL K H a xs):SqL K H' a xs:=by
 rcases h with(h|⟨o,h⟩)|h
 ·exact .inl (.inl (e _ _ h))
 ·exact .inl (.inr ⟨o,e _ _ h⟩)
 ·exact .inr h
end L2
set_option maxHeartbeats 4000000
namespace L2
open PySem PySem.Spec PyProof.Rows
theorem fls {α:Type}{M:Model}{A:Around}{t:Sem α}{Q:α->Shared->Prop}{E:Value->Shared->Prop}{s:Shared}(h:wpAny M A t Q (fun _ _=>False) s):wpAny M A t Q E s:=
 zO h (fun _ _ q=>q) fun _ _ z=>z.elim
section
variable {prog:Program}{w:World}{A:Around}{R:Result->Shared->Prop}{s:Shared}
theorem q60 {elt target iter:Expr}{ifs:List Expr}{scope:Scope}{pos:Pos}{it acc:Value}{env:Env}(J:Nat->Shared->Prop)
  (turn:∀n s,J n s->wpAny (model prog w) A (pyNext it) (fun r s₁=>match r with
   |none=>R (.ok .next) s₁
   | some v=>wpAny (model prog w) A (letOwnedTupleGo target it v) (fun _ s₂=>wpAny (model prog w) A (assign target env v) (fun _ s₃=>
     wpAny (model prog w) A (forIn ifs true fun c r=>if r=true then do let ok<-isTrue c env (eval c env);pure (ForInStep.yield ok) else pure (ForInStep.yield r)) (fun ok s₄=>
      if ok=true then wpAny (model prog w) A (eval elt env) (fun x s₅=>
       wpAny (model prog w) A (call (.builtin "list.append") [acc,x]) (fun _ s₆=>∃m,m<n/\J m s₆) (fun _ _=>False) s₅) (fun _ _=>False) s₄
      else∃m,m<n/\J m s₄) (fun _ _=>False) s₃) (fun _ _=>False) s₂) (fun _ _=>False) s₁) (fun _ _=>False) s)
  (n:Nat)(h:J n s):
  codeAny (model prog w) A (.compLoop (.ListComp elt [⟨target,iter,ifs,0⟩] scope pos) 0 it acc env) R s:=by
 refine codeAny_loop rfl J (fun n s hI=>?_) n h
 show wpAny _ A ((compTurn (.ListComp elt [⟨target,iter,ifs,0⟩] scope pos) 0 it acc env).onRaise (fun x=>do noteFrame x env;theTreesLotGoes x)) _ _ s
 refine wpAny_noted (fls ?_)
 rw[compTurn_list]
 refine yD (zbA (yD (zO (turn n s hI) (fun r s₁ h₁=>?_) fun _ _ h'=>h')))
 cases r with
 |none=>exact zl h₁
 |some v=>
  refine yD (zO h₁ (fun _ s₂ h₂=>yD (zO h₂ (fun _ s₃ h₃=>yD (zO h₃ (fun ok s₄ h₄=>?_) fun _ _ h'=>h')) fun _ _ h'=>h')) fun _ _ h'=>h')
  cases ok with
  |false=>exact zl ⟨rfl,h₄⟩
  |true=>exact yD (yD (zO h₄ (fun x s₅ h₅=>yD (zO h₅ (fun _ s₆ h₆=>zl (zl ⟨rfl,h₆⟩)) fun _ _ h'=>h')) fun _ _ h'=>h'))
end
def clOf (scope:Scope)(env:Env):List (Str×Addr):=(scope.names.filter fun y=>y.2== .free).reverse.map fun y=>(y.1,(env.cells.lookup y.1).getD 0)
theorem q43 {scope:Scope}{env:Env}(h:∀y∈scope.names,y.2= .free->∃c,env.cells.lookup y.1=some c):closureFor scope env=pure (clOf scope env):=by
 unfold closureFor clOf
 have key:∀(l:List (Str×NameKind)) (cs:List (Str×Addr)),(∀y∈l,y.2= .free->∃c,env.cells.lookup y.1=some c)->
   (forIn l cs (fun x r=>match x with
    |(name,kind)=>if (kind==NameKind.free)=true then do let a<-cellOf env name;pure (ForInStep.yield ((name,a)::r)) else pure (ForInStep.yield r)):Sem (List (Str×Addr)))=
    pure ((l.filter fun y=>y.2== .free).reverse.map (fun y=>(y.1,(env.cells.lookup y.1).getD 0))++cs):=by
  intro l
  induction l with
  |nil=>intro cs _;rfl
  |cons y l ih=>
   intro cs hl
   obtain⟨n,k⟩:=y
   have ih':=fun cs=>ih cs fun y hy=>hl y (zE _ hy)
   rw[zcq]
   by_cases hk:k= .free
   ·subst hk
    obtain⟨c,hc⟩:=hl (n,.free) zY rfl
    have e:cellOf env n=pure c:=by unfold cellOf;rw[hc]
    simp only[beq_self_eq_true,if_true,e,pure_bind]
    rw[ih']
    rw[List.filter_cons_of_pos (by rfl),zcb,zM,zbb]
    simp[hc]
   ·have hb:(k==NameKind.free)=false:=by simpa using hk
    simp only[hb,Bool.false_eq_true,if_false,pure_bind]
    rw[ih',List.filter_cons_of_neg (by simp[hb])]
 have:=key scope.names [] h
 rw[zJ] at this
 first
  |exact this
  |(rw[this];rfl)
  |(simp only[bind_pure];exact this)
theorem q2J {f:Str->Addr}{x:Str}{c:Addr}:∀{l:List (Str×NameKind)},(l.map fun y=>(y.1,f y.1)).lookup x=some c->c=f x/\∃k,(x,k)∈l
 |[],h=>by simp at h
 |(n,k)::l,h=>by
  rw[zZ,zat] at h
  cases e:x==n with
  |true=>
   rw[e] at h
   have e':x=n:=by simpa using e
   subst e'
   exact⟨(zC h).symm,k,zY⟩
  |false=>
   rw[e] at h
   obtain⟨h1,k',h2⟩:=q2J h
   exact⟨h1,k',zE _ h2⟩
theorem q2K {f:Str->Addr}{x:Str}{k:NameKind}:∀{l:List (Str×NameKind)},(x,k)∈l->(l.map fun y=>(y.1,f y.1)).lookup x=some (f x)
 |[],h=>nomatch h
 |(n,k')::l,h=>by
  rw[zZ,zat]
  cases e:x==n with
  |true=>
   have e':x=n:=by simpa using e
   subst e'
   rfl
  |false=>
   rcases zG.mp h with q|q
   ·cases q
    simp at e
   ·exact q2K q
theorem q7a {scope:Scope}{env:Env}(h:∀y∈scope.names,y.2= .free->∃c,env.cells.lookup y.1=some c){x:Str}{c:Addr}(e:(clOf scope env).lookup x=some c):env.cells.lookup x=some c:=by
 obtain⟨h1,k,h2⟩:=q2J (f:=fun x=>(env.cells.lookup x).getD 0) e
 have h3:=zbG.mp (zcm.mp h2)
 obtain⟨c',hc⟩:=h (x,k) h3.1 (by simpa using h3.2)
 have hc':env.cells.lookup x=some c':=hc
 rw[hc'] at h1 ⊢
 rw[h1]
 rfl
theorem q7b {scope:Scope}{env:Env}{x:Str}(h:(x,NameKind.free)∈scope.names):(clOf scope env).lookup x=some ((env.cells.lookup x).getD 0):=
 q2K (f:=fun x=>(env.cells.lookup x).getD 0) (k:= .free) (zcm.mpr (zbG.mpr ⟨h,rfl⟩))
theorem q2D {scope:Scope}{env:Env}{x:Str}:(relabel scope env).names.lookup x=(scope.names.lookup x).map fun k=>if (k== .free&&env.scope.kind== .function&&env.kindOf x==some .cell)=true then .cell else k:=by
 unfold relabel
 show List.lookup x (scope.names.map _)=_
 induction scope.names with
 |nil=>rfl
 |cons y l ih=>
  obtain⟨n,k⟩:=y
  rw[zZ]
  show List.lookup x ((if (k==NameKind.free&&env.scope.kind==ScopeKind.function&&env.kindOf n==some NameKind.cell)=true then(n,NameKind.cell) else(n,k))::_)=_
  cases e:x==n with
  |true=>
   have e':x=n:=by simpa using e
   subst e'
   by_cases hc:(k==NameKind.free&&env.scope.kind==ScopeKind.function&&env.kindOf x==some NameKind.cell)=true
   ·rw [zt hc,zat,zat,e]
    show some _=some (if _ then _ else _)
    rw[zt hc]
   ·rw [zo hc,zat,zat,e]
    show some _=some (if _ then _ else _)
    rw[zo hc]
  |false=>
   by_cases hc:(k==NameKind.free&&env.scope.kind==ScopeKind.function&&env.kindOf n==some NameKind.cell)=true
   ·rw [zt hc,zat,zat,e]
    exact ih
   ·rw [zo hc,zat,zat,e]
    exact ih
def q0E (X:Cx)(N:List Str)(scope:Scope)(C:Addr)(s:Shared)(H:Hp)(fp:List Addr):Cx where
 prog:=X.prog
 w:=X.w
 K:=X.K
 mg:=X.mg
 base:=X.base
 A:=X.A
 N:=N
 s₀:=s
 H₀:=H
 env:=compEnvC scope (clOf scope X.env) C X.env
 outer:=X.stack
 stack:=X.stack
 ex:=fp
 fn:=fun _=>false
 calm:=X.calm
 pn:=[]
 xe:=fun _ _=>False
def q3A (own:Nat)(caps:List Nat)(σ:St):St:=List.replicate own none++caps.map fun j=>(σ[j]?).getD none
structure CompOk (X:Cx)(N:List Str)(scope:Scope)(own:Nat)(caps:List Nat):Prop where
 kind:scope.kind= .function
 names:∀y∈scope.names,y.2= .local->scope.names.lookup y.1=some .local
 nocell:∀y∈scope.names,y.2≠ .cell
 free:∀y∈scope.names,y.2= .free->X.env.kindOf y.1=some .cell\/X.env.kindOf y.1=some .free
 len:N.length=own+caps.length
 cap:∀(i j:Nat) (x:Str),caps[i]? =some j->N[own+i]? =some x->X.N[j]? =some x/\scope.names.lookup x=some .free
theorem CompOk.cells {X:Cx}{N:List Str}{scope:Scope}{own:Nat}{caps:List Nat}(O:CompOk X N scope own caps)(ok:X.Ok):∀y∈scope.names,y.2= .free->∃c,X.env.cells.lookup y.1=some c:=
 fun y hy hf=>ok.has y.1 (O.free y hy hf)
section
variable {X:Cx}{pins:List (Addr×Obj)}{σ:St}{H:Hp}{s:Shared}{N:List Str}{scope:Scope}{own:Nat}{caps:List Nat}
theorem Inv.block {h₁:Heap}{tk:Nat}{fp:List Addr}(O:CompOk X N scope own caps)(I:Inv X pins σ H s)(hf:∀b∈fp,FpOk X pins H b)(hlt:∀b∈fp,b<s.heap.objs.size){m:Str->Option Value}(hns:h₁.Ns s.heap.objs.size m)
  (hk:∀b o,s.heap.get? b=some o->h₁.get? b=some o):Inv (q0E X N scope s.heap.objs.size s H fp) [] (q3A own caps σ) H {s with heap:=h₁,toks:=tk}:=by
 have hcl:=O.cells I.ok
 have sub:∀x c,(clOf scope X.env).lookup x=some c->X.env.cells.lookup x=some c:=fun x c e=>q7a hcl e
 have stk:∀b∈fp,b∉frs X.stack:=fun b hb z=>by
  obtain⟨_,f1,f2,_⟩:=hf b hb
  rcases zG.mp (I.stkSub b z) with q|q
  ·exact f1 q
  ·exact f2 q
 have nocl:∀x,(relabel scope X.env).names.lookup x=some .cell\/(relabel scope X.env).names.lookup x=some .free->(x,NameKind.free)∈scope.names:=fun x hx=>by
  rw[q2D] at hx
  cases e:scope.names.lookup x with
  |none=>rw[e] at hx;rcases hx with hx|hx<;>cases hx
  |some k=>
   have hm:=zaH e
   have hc:=O.nocell _ hm
   cases k with
   |free=>exact hm
   |cell=>exact absurd rfl hc
   |_=>rw[e] at hx;rcases hx with hx|hx<;>simp at hx
 have ok:(q0E X N scope s.heap.objs.size s H fp).Ok:=
  {mod:=I.ok.mod
   kind:=O.kind
   glob:=I.ok.glob
   blt:=I.ok.blt
   above:=zn _
   inj:=fun x y c h1 h2=>I.ok.inj x y c (sub x c h1) (sub y c h2)
   has:=fun x hx=>⟨_,q7b (nocl x hx)⟩
   cab:=fun x c h _=>by cases h
   hd:=I.ok.hd
   frames:=I.ok.frames
   stk:= .inl rfl
   exf:=fun b hb=>⟨zF (hlt b hb),fun x c e=>(hf b hb).2.2.2.2.1 x c (sub x c e)⟩
   bs:=I.bs
   bsz:=zab I.ok.bsz I.sz
   noex:=fun b o e hb=>by
    rcases(hf b hb).2.2.2.1 with z|z
    ·exact I.ok.noex b o e z
    ·exact absurd (zK (zv e) (zab I.ok.bsz z)) (zan _)
   exfs:=stk
   funs:=I.stack
   frf:=I.stkFree}
 have hC:H s.heap.objs.size=none:=I.hok.fresh (zn _)
 refine⟨ok,rfl,I.bare,Un.kept hk,⟨m,hns,fun i x v h1 h2 h3=>?_⟩,fun x c e=>?_,hC,fun x c e=>I.freeC x c (sub x c e),fun p hp=>absurd (show p∈([]:List (Addr×Obj)) from hp) (by simp),I.hok.kept hk,?_⟩
 ·-- a name of the def
  have hi:own<=i:=by
   by_cases q:own<=i
   ·exact q
   ·unfold q3A at h2
    rw[zS (by simp;omega),List.getElem?_replicate] at h2
    split at h2<;>cases h2
  obtain⟨k,rfl⟩:∃k,i=own+k:=⟨i - own,by omega⟩
  unfold q3A at h2
  rw[zag (by simp),zbE,Nat.add_sub_cancel_left,zN] at h2
  cases e:caps[k]? with
  |none=>rw[e] at h2;cases h2
  |some j=>
   rw[e] at h2
   have h2':(σ[j]?).getD none=some v:=zC h2
   obtain⟨e1,e2⟩:=O.cap k j x e h1
   have e3:=zaH e2
   have hkd:=O.free _ e3 rfl
   have h4:σ[j]? =some (some v):=by
    cases q:σ[j]? with
    |none=>rw[q] at h2';cases h2'
    |some o=>rw[q] at h2';rw[show o=some v from h2']
   have hvis:Vis X.env.scope x:= .inr hkd
   obtain⟨mo,_,hl⟩:=I.loc
   obtain⟨u,r,l⟩:=hl j x v e1 h4 hvis
   refine⟨u,r,.inr ⟨?_,?_⟩⟩
   ·show (relabel scope X.env).names.lookup x=some .cell\/(relabel scope X.env).names.lookup x=some .free
    rw[q2D,e2]
    show some (if _ then NameKind.cell else NameKind.free)=_\/some (if _ then NameKind.cell else NameKind.free)=_
    split
    ·exact .inl rfl
    ·exact .inr rfl
   ·rcases l with⟨q,_⟩|⟨_,c,hc,z⟩
    ·have hkd':X.env.kindOf x=some .cell\/X.env.kindOf x=some .free:=hkd
     rw[q] at hkd'
     rcases hkd' with hkd'|hkd'<;>cases hkd'
    ·refine ⟨c,?_,z.keeps hk⟩
     show(clOf scope X.env).lookup x=some c
     rw[q7b e3,hc]
     rfl
 ·obtain ⟨v,z⟩:=I.cell x c (sub x c e)
  exact⟨v,z.keeps hk⟩
 ·show (q3A own caps σ).length=N.length
  unfold q3A
  rw[zx,zbE,yC,O.len]
theorem Inv.blockEnd {fp:List Addr}{σ':St}{H':Hp}{s':Shared}(I:Inv X pins σ H s)(hf:∀b∈fp,FpOk X pins H b)(J:Inv (q0E X N scope s.heap.objs.size s H fp) [] σ' H' s'):Inv X pins σ H' s':=
 I.call' (ch:=fp) J.os J.base J.hok J.bare fun b hb=>⟨(hf b hb).2.2.2.1,(hf b hb).2.1,(hf b hb).2.2.2.2.1,(hf b hb).2.2.2.2.2⟩
theorem Inv.off {h':Heap}{C:Addr}(I:Inv X pins σ H s)(hC:H C=none)(hL:C≠X.env.locals)(h1:X.s₀.heap.objs.size<=C)(h2:∀x c,X.env.cells.lookup x=some c->c≠C)(h3:∀p∈X.pn++pins,p.1≠C)(sb:Heap.SameBut C s.heap h'):
  Inv X pins σ H {s with heap:=h'}:=
 I.turned (t':=s.toks) (it:=C) (fun b o hb e=>(sb.2 b hb).trans e) hC hL (.inr h1) h2 h3
end
def PIfs (X:Cx)(ifs:List Expr)(t:TT):Prop:=
 ∀(pins:List (Addr×Obj)) (s:Shared) (σ:St) (H:Hp) (Q:Bool->Hp->Prop),Inv X pins σ H s->t σ H Q->
  wpAny (model X.prog X.w) X.A (forIn ifs true fun c r=>if r=true then do let ok<-isTrue c X.env (eval c X.env);pure (ForInStep.yield ok) else pure (ForInStep.yield r)) (TP X pins σ Q) X.xe s
def tYes:TT:=fun _ H Q=>Q true H
theorem q1H {X:Cx}:PIfs X [] tYes:=fun _ _ _ H _ I h=>wpAny_tests_nil ⟨H,I,h⟩
theorem q5Q {X:Cx}{c:Expr}{t:TT}(h:PT X c t):PIfs X [c] t:=fun pins s σ H Q I hw=>wpAny_tests_one (h pins s σ H Q I hw)
def q9M (wi:TI)(g:TG)(tc:TT)(te:TE)(own:Nat)(caps:List Nat):TE:=fun σ H Q=>wi σ H fun J H1=>∀D,H1 D=none->∃W:Nat->Nat->St->Hp->Prop,(∃m,W 0 m (q3A own caps σ) (upd H1 D (.lst [])))/\∀i m σ' H',W i m σ' H'->
 (J.stop i H'/\Q (.ref D) H')\/(J.go i H'/\∃N:St->Hp->Prop,(∀σ'' H'',N σ'' H''->∃m',m'<m/\W (i+1) m' σ'' H'')/\∀x H2,J.yld i H' x H2->g x σ' H2 fun σ3 H3=>tc σ3 H3 fun b H4=>
  if b=true then te σ3 H4 fun y H5=>∃ys,H5 D=some (.lst ys)/\ys.length<sizeLine/\N σ3 (upd H5 D (.lst (ys++[y]))) else N σ3 H4)
section
variable {X:Cx}{N:List Str}{scope:Scope}{own:Nat}{caps:List Nat}{tg iter elt:Expr}{ifs:List Expr}{wi:TI}{g:TG}{tc:TT}{te:TE}{pos:Pos}
theorem q79 {use:Option (Value->Sem Unit)}{QQ:Value->Shared->Prop}(O:CompOk X N scope own caps)(hc:X.calm=true)(hi:PI X tg iter wi)(hg:∀C s H fp,PG (q0E X N scope C s H fp) tg g)(ht:∀C s H fp,PIfs (q0E X N scope C s H fp) ifs tc)
  (he:∀C s H fp,PE (q0E X N scope C s H fp) elt te)(hs:∀x,foldedSetIterable iter X.env x=pure x)
  {pins:List (Addr×Obj)}{s:Shared}{σ:St}{H:Hp}{Q:VK}(I:Inv X pins σ H s)(h:q9M wi g tc te own caps σ H Q)
  (fin:∀D C H' s' m,Inv X pins σ H' s'->Q (.ref D) H'->s'.heap.Ns C m->H' C=none->C≠X.env.locals->X.s₀.heap.objs.size<=C->(∀x c,X.env.cells.lookup x=some c->c≠C)->(∀p∈X.pn++pins,p.1≠C)->
   compPost (model X.prog X.w) X.A X.xe use QQ (.ref D) C (.ok .next) s'):
  wpAny (model X.prog X.w) X.A (comprehension (.ListComp elt [⟨tg,iter,ifs,0⟩] scope pos) scope X.env (firstIterPos [⟨tg,iter,ifs,0⟩] pos) (newList []) false (eval iter X.env) use) QQ X.xe s:=by
 refine wpAny_comprehension_free (use:=use) rfl hs (q43 (O.cells I.ok)) O.kind O.names (thn (hi pins s σ H _ I h) fun v s1 h1=>thn h1 fun itv s2 h2=>?_)
 obtain⟨it,fp,tn,J,H2,e,I2,T,st2,f2,q⟩:=h2
 subst e
 refine zak (wpAny_newFunctionEnv O.nocell (by intro y hy;simp at hy) (fun h₁ hns hsb=>?_) O.kind)
 dsimp only at hns hsb ⊢
 have hD:H2 s2.heap.objs.size=none:=I2.hok.fresh (zn _)
 obtain⟨W,⟨m0,w0⟩,turn⟩:=q s2.heap.objs.size hD
 have I3:Inv X pins σ (upd H2 s2.heap.objs.size (.lst [])) {s2 with heap:=s2.heap.push {cls:= .type "list",dict:=none,data:= .seq ([]:List Value).toArray}}:=
  I2.lnew (its:=[]) (t':=s2.toks) .nil (zaC _)
 generalize hs3:({s2 with heap:=s2.heap.push {cls:= .type "list",dict:=none,data:= .seq ([]:List Value).toArray}}:Shared)=s3 at I3
 have hsz3:s3.heap.objs.size=s2.heap.objs.size+1:=by rw[<-hs3];exact za4 ..
 have hns':h₁.Ns s3.heap.objs.size (fun x=>([]:List (Str×Value)).reverse.lookup x):=by rw[<-hs3];exact hns
 have hk:∀b o,s3.heap.get? b=some o->h₁.get? b=some o:=fun b o e=>by
  rw[<-hs3] at e
  exact hsb.extBut b o (zF (zv e)) (zm _ e)
 have f3:∀b∈fp,FpOk X pins (upd H2 s2.heap.objs.size (.lst [])) b:=fun b hb=>by
  obtain⟨o,ho,_⟩:=T.obj _ _ st2 b hb
  exact⟨by rw[qq (zF (zv ho))];exact(f2 b hb).1,(f2 b hb).2⟩
 have hlt:∀b∈fp,b<s3.heap.objs.size:=fun b hb=>by
  obtain⟨o,ho,_⟩:=T.obj _ _ st2 b hb
  rw[hsz3]
  exact zbc (zv ho)
 have st3:tn 0 h₁:=T.keep _ _ _ st2 fun b hb o e=>hk b o (by rw[<-hs3];exact zm _ e)
 have C3:∀tk,Inv (q0E X N scope s3.heap.objs.size s3 (upd H2 s2.heap.objs.size (.lst [])) fp) [] (q3A own caps σ) (upd H2 s2.heap.objs.size (.lst [])) {s3 with heap:=h₁,toks:=tk}:=fun tk=>I3.block O f3 hlt hns' hk
 have nf3:∀b∈fp,(upd H2 s2.heap.objs.size (.lst [])) b=none:=fun b hb=>(f3 b hb).1
 have hCL:s3.heap.objs.size≠X.env.locals:=zck I3.lt
 have hC1:X.s₀.heap.objs.size<=s3.heap.objs.size:=I3.sz
 have hC2:∀x c,X.env.cells.lookup x=some c->c≠s3.heap.objs.size:=fun x c e=>by
  obtain⟨v,z⟩:=I3.cell x c e
  exact zF z.lt
 have hC3:∀p∈X.pn++pins,p.1≠s3.heap.objs.size:=fun p hp=>zF (zv (I3.pin p hp).1)
 have hst:∀{H':Hp},(∀b∈fp,H' b=none)->∀b∈fp,FpOk (q0E X N scope s3.heap.objs.size s3 (upd H2 s2.heap.objs.size (.lst [])) fp) [] H' b:=fun hn b hb=>by
  refine⟨hn b hb,zF (hlt b hb),fun z=>?_,.inl hb,fun x c e=>(f3 b hb).2.2.2.2.1 x c (q7a (O.cells I.ok) e),fun p hp=>absurd (show p∈([]:List (Addr×Obj)) from hp) (by simp)⟩
  exact(C3 0).ok.exfs b hb z
 have loop:∀s4:Shared,(∃tk,s4={s3 with heap:=h₁,toks:=tk})->
   codeAny (model X.prog X.w) X.A (.compLoop (.ListComp elt [⟨tg,iter,ifs,0⟩] scope pos) 0 (.ref it) (.ref s2.heap.objs.size) (compEnvC scope (clOf scope X.env) s3.heap.objs.size X.env))
    (compPost (model X.prog X.w) X.A X.xe use QQ (.ref s2.heap.objs.size) s3.heap.objs.size) s4:=by
  rintro s4 ⟨tk,rfl⟩
  refine q60 (fun n s'=>∃i σ' H',Inv (q0E X N scope s3.heap.objs.size s3 (upd H2 s2.heap.objs.size (.lst [])) fp) [] σ' H' s'/\tn i s'.heap/\(∀b∈fp,H' b=none)/\W i n σ' H') ?_ m0 ⟨0,_,_,C3 tk,st3,nf3,w0⟩
  rintro n s5 ⟨i,σ5,H5,I5,st5,fr5,w5⟩
  rcases turn i n σ5 H5 w5 with⟨stop,qn⟩|⟨go,NN,hN,step⟩
  ·refine thn (T.done (q0E X N scope s3.heap.objs.size s3 (upd H2 s2.heap.objs.size (.lst [])) fp) rfl rfl rfl hc i [] s5 σ5 H5 _ I5 (hst fr5) st5 stop) fun r s6 ⟨hr,I6⟩=>?_
   subst hr
   obtain⟨m6,hn6,_⟩:=id I6.loc
   exact fin _ _ H5 s6 m6 (I3.blockEnd f3 I6) qn hn6 I6.free hCL hC1 hC2 hC3
  ·refine thn (T.item (q0E X N scope s3.heap.objs.size s3 (upd H2 s2.heap.objs.size (.lst [])) fp) rfl rfl rfl hc i [] s5 σ5 H5 _ I5 (hst fr5) st5 go) fun r s6 ⟨u,hr,h6⟩=>?_
   subst hr
   refine thn h6 fun _ s7 ⟨x,H7,I7,r7,y7,st7,fr7⟩=>?_
   have I7':=I7.pinned (hst fr7) (T.obj _ _ st7)
   refine thn (hg _ _ _ _ _ s7 σ5 H7 x u _ I7' r7 (step x H7 y7)) fun _ s8 ⟨σ8,H8,I8,q8⟩=>?_
   refine thn (ht _ _ _ _ _ s8 σ8 H8 _ I8 q8) fun ok s9 ⟨H9,I9,q9⟩=>?_
   have again:∀{s10:Shared} {σ10:St} {H10:Hp},Inv (q0E X N scope s3.heap.objs.size s3 (upd H2 s2.heap.objs.size (.lst [])) fp) ([]++q4o fp s7.heap) σ10 H10 s10->NN σ10 H10->
     ∃m,m<n/\∃i σ' H',Inv (q0E X N scope s3.heap.objs.size s3 (upd H2 s2.heap.objs.size (.lst [])) fp) [] σ' H' s10/\tn i s10.heap/\(∀b∈fp,H' b=none)/\W i m σ' H':=fun {s10 σ10 H10} I10 n10=>by
    obtain⟨m',hm,w10⟩:=hN σ10 H10 n10
    refine⟨m',hm,i+1,σ10,H10,I10.unpinned,T.keep _ _ _ st7 fun b hb o e=>(I10.pin (b,o) (zI _ (zI _ (q1i hb e)))).1,fun b hb=>?_,w10⟩
    obtain⟨o,e,d⟩:=T.obj _ _ st7 b hb
    exact(I10.pin (b,o) (zI _ (zI _ (q1i hb e)))).2.1
   cases ok with
   |false=>
    rw[zo zu] at q9 ⊢
    exact again I9 q9
   |true=>
    rw[zt rfl] at q9 ⊢
    refine thn (he _ _ _ _ _ s9 σ8 H9 _ I9 q9) fun y s10 ⟨vy,H10,I10,r10,ys,hys,hyl,q10⟩=>?_
    refine thn (q0q (X:=q0E X N scope s3.heap.objs.size s3 (upd H2 s2.heap.objs.size (.lst [])) fp) _ s10 σ8 H10 (.ref s2.heap.objs.size) [vy] (.ref s2.heap.objs.size) [y] (fun _ H11=>NN σ8 H11) I10 rfl (.cons r10 .nil) ⟨_,ys,vy,rfl,rfl,hys,hyl,q10⟩) fun _ s11 ⟨_,H11,I11,_,q11⟩=>?_
    exact again I11 q11
 subst hs3
 exact codeAny_compStart_list (loop _ ⟨_,rfl⟩) (T.self _ _ _ _ _ st3 (loop _ ⟨_,rfl⟩))
theorem q1o (O:CompOk X N scope own caps)(hc:X.calm=true)(hi:PI X tg iter wi)(hg:∀C s H fp,PG (q0E X N scope C s H fp) tg g)(ht:∀C s H fp,PIfs (q0E X N scope C s H fp) ifs tc)
  (he:∀C s H fp,PE (q0E X N scope C s H fp) elt te)(hs:∀x,foldedSetIterable iter X.env x=pure x:=by intro _;rfl):PE X (.ListComp elt [⟨tg,iter,ifs,0⟩] scope pos) (q9M wi g tc te own caps):=by
 intro pins s σ H Q I h
 rw[eval_ListComp]
 refine q79 (use:=none) O hc hi hg ht he hs I h fun D C H' s' m I' q hn h0 h1 h2 h3 h4=>?_
 exact⟨m,hn,fun h' sb=>⟨.ref D,H',I'.off h0 h1 h2 h3 h4 sb,rfl,q⟩⟩
theorem q2P {i:Nat}{y:Str}{py spos:Pos}(hN:X.N.Nodup)(hi':X.N[i]? =some y)(hy:X.env.scope.names.lookup y=some .local)(O:CompOk X N scope own caps)(hc:X.calm=true)(hi:PI X tg iter wi)(hg:∀C s H fp,PG (q0E X N scope C s H fp) tg g)
  (ht:∀C s H fp,PIfs (q0E X N scope C s H fp) ifs tc)(he:∀C s H fp,PE (q0E X N scope C s H fp) elt te)
  (hsw:swapsWith (.ListComp elt [⟨tg,iter,ifs,0⟩] scope pos) (some (.Name y py)) spos.line X.env=pure true:=by rfl)(hs:∀x,foldedSetIterable iter X.env x=pure x:=by intro _;rfl):
  PS X (.Assign [.Name y py] (.ListComp elt [⟨tg,iter,ifs,0⟩] scope pos) spos) (tAsg (q9M wi g tc te own caps) (qaK i)):=by
 intro pins s σ H D I h
 rw[exec_Assign_Name_used _ _ _ _ hsw]
 refine yD (zbA (yD ?_))
 show wpAny _ _ (do let _<-comprehension (.ListComp elt [⟨tg,iter,ifs,0⟩] scope pos) scope X.env _ (newList []) false (eval iter X.env) (some (assign (.Name y py) X.env))) _ _ s
 refine yD (zO (q79 (use:=some (assign (.Name y py) X.env)) (QQ:=fun _ s'=>SP X pins D .next s') O hc hi hg ht he hs I h fun L C H' s' m I' q hn h0 h1 h2 h3 h4=>?_) (fun _ s' hq=>zl (zl hq)) fun _ _ e=>e)
 refine wpAny_assign_Name (q5l I' hN hi' (.inl hy) (v:= .ref L) rfl (fun s2 I2 ⟨a,sb,ha⟩=>?_) (.inr hy))
 have hac:C≠a:=by
  rcases ha with ha|ha
  ·rw [ha];exact h1
  ·exact (h3 _ _ ha).symm
 exact⟨m,hn.sameBut sb hac,fun h' sb'=>⟨_,H',I2.off h0 h1 h2 h3 h4 sb',q⟩⟩
end
end L2
namespace PySem
open Sem (wp)
section
variable {prog:Program}{w:World}{A:Around}{E:Value->Shared->Prop}{s:Shared}
theorem q7E {I T:Addr}{k:Nat}{vals:Array Value}{y:Value}{Q:Value->Shared->Prop}(st:s.heap.IsTupleIter I T k)(tp:s.heap.IsTuple T vals)(hy:vals[k]? =some y)
  (hQ:∀h',h'.IsTupleIter I T (k+1)->Heap.SameBut I s.heap h'->Q y {s with heap:=h'}):wpAny (model prog w) A (Builtin.SmallTypes.nextOf (.ref I)) Q E s:=by
 obtain⟨oI,eI,cI,dI⟩:=id st
 obtain⟨oT,eT,_,nT,dT⟩:=tp
 unfold Builtin.SmallTypes.nextOf
 refine yD (zar (name:=Str.ofString "__next__") st.typeIs zaZ (zaA zaZ st.typeIs zb2 ?_ (zbV _)))
 show wpAny _ _ (field (.ref I) 0 >>= _) _ _ s
 refine yD (zam eI dI (x:= .ref T) rfl ?_)
 show wpAny _ _ (if (Value.ref T==Value.none)=true then _ else _) _ _ s
 rw[zo (show¬((Value.ref T==Value.none)=true) from zu)]
 show wpAny _ _ (field (.ref I) 1 >>= _) _ _ s
 refine yD (zam eI dI (x:= .int k 0) rfl ?_)
 show wpAny _ _ (seqItems? (.ref T) >>= _) _ _ s
 refine yD (zcu eT dT ?_)
 simp only[Int.toNat_natCast,hy]
 refine yD (zaD eI dI (by simp) (zl ⟨y,rfl,zl (hQ _ ?_ (za9 ..))⟩))
 exact⟨_,zaa _ eI (zay (zaq dI _)),(zcc ..).trans cI,by rw[zaq dI];simp[rawInt]⟩
theorem q2I {I T:Addr}{k:Nat}{vals:Array Value}{Q:Value->Shared->Prop}(hh:A.handled=none)(st:s.heap.IsTupleIter I T k)(tp:s.heap.IsTuple T vals)(hy:vals[k]? =none)
  (hE:∀h' e,Heap.ExtBut I s.heap h'->(∃o,h'.get? e=some o/\o.cls= .type "StopIteration")->E (.ref e) {s with heap:=h'}):wpAny (model prog w) A (Builtin.SmallTypes.nextOf (.ref I)) Q E s:=by
 obtain⟨oI,eI,cI,dI⟩:=id st
 obtain⟨oT,eT,_,nT,dT⟩:=tp
 unfold Builtin.SmallTypes.nextOf
 refine yD (zar (name:=Str.ofString "__next__") st.typeIs zaZ (zaA zaZ st.typeIs zb2 ?_ (zbV _)))
 show wpAny _ _ (field (.ref I) 0 >>= _) _ _ s
 refine yD (zam eI dI (x:= .ref T) rfl ?_)
 show wpAny _ _ (if (Value.ref T==Value.none)=true then _ else _) _ _ s
 rw[zo (show¬((Value.ref T==Value.none)=true) from zu)]
 show wpAny _ _ (field (.ref I) 1 >>= _) _ _ s
 refine yD (zam eI dI (x:= .int k 0) rfl ?_)
 show wpAny _ _ (seqItems? (.ref T) >>= _) _ _ s
 refine yD (zcu eT dT ?_)
 simp only[Int.toNat_natCast,hy]
 refine yD (zbJ (yD (zaD eI dI (by simp) ?_)))
 show wpAny _ _ (newExc (.type "StopIteration") [] >>= _) _ _ _
 refine yD ?_
 simp only[newExc,newTuple]
 refine yD (zak ?_ (by size_fits))
 refine yD (m:=firstArgMember _ _) (wpAny_of_eq (a:=Value.none) (by first|rfl|(simp only[firstArgMember];rfl)) ?_)
 refine zak ?_ (by size_fits)
 simp only[raiseNew]
 refine yD (wpAny_handled ?_)
 first|rw[show A.in1.handled=none from hh]|rw[hh]
 refine yD (zl (wpAny_throw ?_))
 exact hE _ _ (((za9 ..).extBut.push _).push _) ⟨_,zB _ rfl,rfl⟩
end
theorem Heap.IsTuple.at2 {h h':Heap}{a:Addr}{vals:Array Value}(x:h.IsTuple a vals)(e:∀o,h.get? a=some o->h'.get? a=some o):h'.IsTuple a vals:=let ⟨o,q,r⟩:=x;⟨o,e o q,r⟩
theorem Heap.IsTupleIter.at2 {h h':Heap}{a t:Addr}{i:Nat}(x:h.IsTupleIter a t i)(e:∀o,h.get? a=some o->h'.get? a=some o):h'.IsTupleIter a t i:=let ⟨o,q,r⟩:=x;⟨o,e o q,r⟩
theorem Draws.tup {prog:Program}{w:World}{A:Around}(hh:A.handled=none)(I T:Addr)(hne:T≠I)(vals:Array Value):
  Draws prog w A I [I,T] vals.size (fun i v=>vals[i]? =some v) (fun i h=>h.IsTupleIter I T i/\h.IsTuple T vals) where
 live:=fun _ _ st=>let ⟨o,ho,_⟩:=st.1;⟨o,ho⟩
 frame:=fun _ _ _ st hk=>⟨st.1.at2 fun o e=>hk I (by simp) o e,st.2.at2 fun o e=>hk T (by simp) o e⟩
 item:=fun i s Q E hi st hQ=>q7E st.1 st.2 (y:=vals[i]) (by simp[hi]) fun h' st' sb=>hQ _ h' s.toks (by simp[hi]) ⟨st',st.2.extBut sb.extBut hne⟩ sb
 done:=fun s Q E st hE=>q2I hh st.1 st.2 (by simp) hE
section
open AutoSeq1 (wpAny_loadPart')
theorem q3V (l:Addr)(items:Array Value)(n:Nat)(dct:Option Addr)(sl:Array (Option Value)):
  Meets (Builtin.«enumerate.__new__» ⟨[.type "enumerate",.ref l],[]⟩) (fun _ R s=>s.heap.get? l=some {cls:= .type "tuple",dict:=dct,data:= .seq items n,slots:=sl}/\
   R (.ok (.ret (.ref (s.heap.push {cls:= .type "tuple_iterator",data:= .fields #[.ref l,.int 0 0]}).objs.size)))
    {s with heap:=(s.heap.push {cls:= .type "tuple_iterator",data:= .fields #[.ref l,.int 0 0]}).push {cls:= .type "enumerate",data:= .fields #[.none,.bool false,.ref s.heap.objs.size,rawInt 0,.none,.none]}}):=
 .of_wp fun prog w A R s h=>by
  obtain⟨hp,g,d,tk,os⟩:=s;obtain⟨hl,h⟩:=h
  have hsub:=sub_enumerate
  have hL:Heap.IsTuple (Shared.heap ⟨hp,g,d,tk,os⟩) l items:=⟨_,hl,rfl,n,rfl⟩
  wp_walk using zbK hl
  refine wpAny_stack_any fun st=>zl ?_
  split
  ·rename_i c _ _ _ _ _
   cases(c==Value.type "enumerate")
   ·wp_walk using zbK hl,zba hL
    exact⟨_,rfl,h⟩
   ·wp_walk using zbK hl,zba hL
    exact⟨_,rfl,h⟩
  ·wp_walk using zbK hl,zba hL
   exact⟨_,rfl,h⟩
variable {prog:Program}{w:World}{A:Around}{E:Value->Shared->Prop}{s:Shared}
theorem q45 {l:Addr}{items:Array Value}{Q:Value->Shared->Prop}(hL:s.heap.IsTuple l items)
  (h:∀h',IsEnum h' (s.heap.objs.size+1) s.heap.objs.size 0 .none->h'.IsTupleIter s.heap.objs.size l 0->h'.objs.size=s.heap.objs.size+2->
   (∀b o,s.heap.get? b=some o->h'.get? b=some o)->Q (.ref (s.heap.objs.size+1)) {s with heap:=h'}):
  wpAny (model prog w) A (call (.type "enumerate") [.ref l]) Q E s:=by
 obtain⟨⟨c,dct,dt,sl⟩,hl,hc,n,hd⟩:=hL
 replace hc:c= .type "tuple":=hc
 replace hd:dt= .seq items n:=hd
 subst hc hd
 refine callType_new F.called_enumerate (by decide) (F.typeCall_enumerate_1 _) (F.newCall_enumerate_1 _) (fun obj=>F.args_object_init_2 obj _) F.entry_enumerate_new (q3V l items n dct sl) ⟨hl,?_⟩
 have hz:(s.heap.push {cls:= .type "tuple_iterator",data:= .fields #[.ref l,.int 0 0]}).objs.size=s.heap.objs.size+1:=za4 ..
 show _/\_
 rw[hz]
 have he:IsEnum ((s.heap.push {cls:= .type "tuple_iterator",data:= .fields #[.ref l,.int 0 0]}).push
   {cls:= .type "enumerate",data:= .fields #[.none,.bool false,.ref s.heap.objs.size,rawInt 0,.none,.none]}) (s.heap.objs.size+1) s.heap.objs.size 0 .none:=by
  have q:=zB (s.heap.push {cls:= .type "tuple_iterator",data:= .fields #[.ref l,.int 0 0]})
   (o:={cls:= .type "enumerate",data:= .fields #[.none,.bool false,.ref s.heap.objs.size,rawInt 0,.none,.none]}) rfl
  rw[hz] at q;exact q
 refine⟨⟨_,he,rfl⟩,h _ he ⟨_,zm _ (zB _ rfl),rfl,rfl⟩ (by rw[za4,hz]) fun b o x=>zm _ (zm _ x)⟩
end
end PySem
namespace L2
open PySem PySem.Spec PyProof.Rows
section
variable {X:Cx}{pins:List (Addr×Obj)}{σ:St}{H:Hp}{s:Shared}
theorem Inv.turnedL {h':Heap}{t':Nat}{ch:List Addr}(I:Inv X pins σ H s)(hf:∀b∈ch,FpOk X pins H b)(k:∀b o,b∉ch->s.heap.get? b=some o->h'.get? b=some o):Inv X pins σ H {s with heap:=h',toks:=t'}:=by
 have nit:∀b u,H b=some u->b∉ch:=fun b u e z=>by rw[(hf b z).1] at e;cases e
 refine I.step (g':=s.gens) (d':=s.drawn) (ch:=ch) (fun b hb=>⟨(hf b hb).2.2.2.1,(hf b hb).2.1,(hf b hb).2.2.2.2.1,(hf b hb).2.2.2.2.2⟩) (fun b o _ _ hc e _=>k b o hc e) (fun b o _ _ hc e _=>⟨o.slots,k b o hc e⟩) (fun _ _ _ _ n=>n)
  (fun b o hc e=>⟨o,k b o hc e⟩) (fun _ _ e=>e) (fun _ _ _ e=>e) (fun b ps e=>⟨#[],by rw[e];simp⟩) (fun m hm=>?_) (fun b u e=>?_) I.bare
 ·obtain ⟨o,es,ep,ho,r⟩:=hm
  exact⟨o,es,ep,k _ o (fun z=>(hf _ z).2.1 rfl) ho,r⟩
 ·refine (I.hok b u e).stay (fun c v hc q=>k c v ?_ q) (fun _ q=>q) fun _ _ q=>q
  rcases hc with z|z
  ·rw [z];exact nit b u e
  ·exact nit c _ z
theorem Inv.track {a:Addr}{o:HO}(I:Inv X pins σ H s)(ha:X.s₀.heap.objs.size<=a)(hn:H a=none)(hL:a≠X.env.locals)(hc:∀x c,X.env.cells.lookup x=some c->c≠a)(hp:∀p∈X.pn++pins,p.1≠a)
  (new:q06 X.prog X.w (upd H a o) s.heap a o):Inv X pins σ (upd H a o) s:=by
 have ne:∀b ob,X.s₀.heap.get? b=some ob->b≠a:=fun b ob e=>zF (zK (zv e) ha)
 refine⟨I.ok,I.os,I.bare,⟨I.base.keep,I.base.slot,fun b ob e n hx=>by rw[qq (ne b ob e)];exact I.base.free b ob e n hx,I.base.there,fun b xs e=>?_,fun b ob u e=>?_,fun b ps e=>?_⟩,I.loc,I.cell,by rw[qq hL.symm];exact I.free,
  fun x c e=>by rw[qq (hc x c e)];exact I.freeC x c e,fun p hpp=>?_,fun b u e=>?_,I.len⟩
 ·have q:=I.base.tups b xs e
  rw[qq (qv q hn)];exact q
 ·have q:=I.base.frzs b ob u e
  rw[qq (qv q hn)];exact q
 ·obtain ⟨more,q⟩:=I.base.tbls b ps e
  exact⟨more,by rw[qq (qv q hn)];exact q⟩
 ·obtain ⟨e1,n1,r⟩:=I.pin p hpp
  exact⟨e1,by rw[qq (hp p hpp)];exact n1,r⟩
 ·by_cases hb:b=a
  ·subst hb;rw[qe] at e;cases e;exact new
  ·rw [qq hb] at e
   exact(I.hok b u e).stay (fun c v _ q=>q) (fun c q=>by rw[qq (qv q hn)];exact q) fun c xs q=>by rw[qq (qv q hn)];exact q
theorem Inv.yields {h':Heap}{t':Nat}{ch:List Addr}{T:Addr}{xs:List V}{vals:List Value}(I:Inv X pins σ H s)(hf:∀b∈ch,FpOk X pins H b)(k:∀b o,b∉ch->s.heap.get? b=some o->h'.get? b=some o)
  (hT:s.heap.objs.size<=T)(tp:h'.IsTuple T vals.toArray)(r:Vals xs vals)(hz:xs.length<=sizeLine):Inv X pins σ (upd H T (.tup xs)) {s with heap:=h',toks:=t'}:=by
 have f:FpOk X pins H T:=I.fpOk hT (I.hok.fresh hT)
 have I1:Inv X pins σ H {s with heap:=h',toks:=t'}:=I.turnedL hf k
 exact I1.track (zab I.sz hT) f.1 f.2.1 f.2.2.2.2.1 f.2.2.2.2.2 ⟨hz,vals,r,tp⟩
theorem qbh {ch:List Addr}{T:Addr}{o:HO}(hf:∀b∈ch,FpOk X pins H b)(hT:∀b∈ch,b≠T):∀b∈ch,FpOk X pins (upd H T o) b:=fun b hb=>⟨by rw[qq (hT b hb)];exact(hf b hb).1,(hf b hb).2⟩
end
def Ite (Sq:Hp->List V->Prop):It:=
 ⟨fun i H=>∃xs x,Sq H xs/\xs[i]? =some x,fun i H y H'=>∃T,H T=none/\y= .ref T/\∀xs x,Sq H xs->xs[i]? =some x->H'=upd H T (.tup [.int i,x]),fun i H=>∃xs,Sq H xs/\xs.length<=i⟩
theorem q7m {P:Program}{w:World}{K:W.Frag}{elts:List Expr}{k:Nat}{tp:Pos}(a e it:Addr)(hei:e≠it):Turn P w K (.Tuple elts k tp) (Ite fun H xs=>SqL K H a xs) [e,it] e (fun i h=>(∃old,IsEnum h e it i old)/\h.IsListIter it a i) where
 mem:=by simp
 obj:=fun i h st b hb=>by
  obtain⟨⟨old,q⟩,o,q2,c,d⟩:=st
  rcases zG.mp hb with rfl|hb
  ·exact ⟨_,q,fun v z=>by cases z⟩
  ·rw [zA.mp hb]
   exact⟨o,q2,fun v z=>by rw[d] at z;cases z⟩
 keep:=fun i h h' st kk=>⟨⟨st.1.choose,kk e (by simp) _ st.1.choose_spec⟩,st.2.at fun o q=>kk it (by simp) o q⟩
 item:=by
  intro X hP hw hK hc i pins s σ H E I hf st hg
  subst hP hw hK
  obtain⟨xs,x,hq,hx⟩:=hg
  obtain⟨⟨old,he⟩,hit⟩:=st
  obtain⟨its,rv,p,hz⟩:=I.list hq
  obtain⟨u,hu,ru⟩:=rv.get hx
  have hlen:=rv.length
  have hi:i<its.toArray.size:=by rw[zy];exact(yA hu).1
  have hai:a≠it:=fun z=>by
   obtain⟨o,q,c,d⟩:=hit
   obtain⟨o',q',c',_⟩:=p.isList
   rw[z] at q';rw[q] at q';cases q';rw[c] at c';simp at c'
  have hae:e≠a:=fun z=>by
   obtain⟨o',q',c',_⟩:=p.isList
   rw[<-z,he] at q';cases q';simp at c'
  refine wpAny_pyNext_enum_itemD (Draws.list (A:=X.A.in1) (I.ok.hd hc) it a hai its.toArray) he ⟨hit,p.isList⟩ hi hei (by simp[hei,hae]) fun y h' tk hy ho st' hT hsz hk=>?_
  have hyu:y=u:=by
   have:its[i]? =some y:=by simpa using hy
   rw[hu] at this;exact(zC this).symm
  subst hyu
  have ne:∀b∈[e,it],b≠s.heap.objs.size:=fun b hb=>by
   rcases zG.mp hb with rfl|hb
   ·exact zF (zv he)
   ·rw [zA.mp hb];obtain⟨o,q,_⟩:=hit;exact zF (zv q)
  have kk:∀b o,b∉[e,it]->s.heap.get? b=some o->h'.get? b=some o:=fun b o hb q=>hk b o (fun z=>hb (by simp[z])) (fun z=>hb (by simp[z])) q
  have I1:Inv X pins σ (upd H s.heap.objs.size (.tup [.int i,x])) {s with heap:=h',toks:=tk+1}:=I.yields (vals:=[.int i tk,y]) hf kk (zn _) ⟨_,hT,rfl,_,rfl⟩ (.cons ⟨tk,rfl⟩ (.cons ru .nil)) (by show 2<=sizeLine;decide)
  have hf1:=qbh (o:= .tup [.int i,x]) hf ne
  refine⟨_,rfl,zb7 ho fun h'' he'' sb=>?_⟩
  have I2:Inv X pins σ (upd H s.heap.objs.size (.tup [.int i,x])) {s with heap:=h'',toks:=tk+1}:=I1.turnedL (t':=tk+1) hf1 fun b o hb q=>(sb.2 b fun z=>hb (by simp[z])).trans q
  refine⟨.ref s.heap.objs.size,_,I2,rfl,⟨_,I.hok.fresh (zn _),rfl,fun ys y' hy' hx'=>?_⟩,⟨⟨_,by simpa using he''⟩,st'.1.at fun o q=>(sb.2 it hei.symm).trans q⟩,fun b hb=>(hf1 b hb).1⟩
  have:=I.list_inj hy' hq
  subst this
  rw[hx] at hx'
  rw[zC hx']
 done:=by
  intro X hP hw hK hc i pins s σ H E I hf st hg
  subst hP hw hK
  obtain⟨xs,hq,hx⟩:=hg
  obtain⟨⟨old,he⟩,hit⟩:=st
  obtain⟨its,rv,p,hz⟩:=I.list hq
  have hlen:=rv.length
  have hai:a≠it:=fun z=>by
   obtain⟨o,q,c,d⟩:=hit
   obtain⟨o',q',c',_⟩:=p.isList
   rw[z] at q';rw[q] at q';cases q';rw[c] at c';simp at c'
  have D:Draws X.prog X.w X.A.in1 it [it,a] i (fun _ _=>False) (fun k h=>k=i/\h.IsListIter it a i/\h.IsList a its.toArray):=
   {live:=fun _ _ st=>let ⟨o,ho,_⟩:=st.2.1;⟨o,ho⟩
    frame:=fun _ _ _ st hk=>⟨st.1,st.2.1.at fun o q=>hk it (by simp) o q,st.2.2.at fun o q=>hk a (by simp) o q⟩
    item:=fun k s Q E hk st _=>absurd st.1 (zF hk)
    done:=fun s Q E st hE=>wpAny_nextOf_list_end (I.ok.hd hc) st.2.1 st.2.2 (by simp;omega) hE}
  refine wpAny_pyNext_enum_endD D he ⟨rfl,hit,p.isList⟩ fun h' eb=>⟨rfl,I.turnedL (t':=s.toks) (ch:=[e,it]) hf fun b o hb q=>eb b o (fun z=>hb (by simp[z])) q⟩
 self:=fun _ _ _ _ _ st h=>zbu st.1.choose_spec h
theorem q7l {P:Program}{w:World}{K:W.Frag}{elts:List Expr}{k:Nat}{tp:Pos}(a e it:Addr)(hei:e≠it):Turn P w K (.Tuple elts k tp) (Ite fun H xs=>SqT K H a xs) [e,it] e (fun i h=>(∃old,IsEnum h e it i old)/\h.IsTupleIter it a i) where
 mem:=by simp
 obj:=fun i h st b hb=>by
  obtain⟨⟨old,q⟩,o,q2,c,d⟩:=st
  rcases zG.mp hb with rfl|hb
  ·exact ⟨_,q,fun v z=>by cases z⟩
  ·rw [zA.mp hb]
   exact⟨o,q2,fun v z=>by rw[d] at z;cases z⟩
 keep:=fun i h h' st kk=>⟨⟨st.1.choose,kk e (by simp) _ st.1.choose_spec⟩,st.2.at2 fun o q=>kk it (by simp) o q⟩
 item:=by
  intro X hP hw hK hc i pins s σ H E I hf st hg
  subst hP hw hK
  obtain⟨xs,x,hq,hx⟩:=hg
  obtain⟨⟨old,he⟩,hit⟩:=st
  obtain⟨its,rv,p,hz⟩:=I.tuple hq
  have p:s.heap.IsTuple a its.toArray:=p
  obtain⟨u,hu,ru⟩:=rv.get hx
  have hlen:=rv.length
  have hi:i<its.toArray.size:=by rw[zy];exact(yA hu).1
  have hai:a≠it:=fun z=>by
   obtain⟨o,q,c,d⟩:=hit
   obtain⟨o',q',c',_⟩:=p
   rw[z] at q';rw[q] at q';cases q';rw[c] at c';simp at c'
  have hae:e≠a:=fun z=>by
   obtain⟨o',q',c',_⟩:=p
   rw[<-z,he] at q';cases q';simp at c'
  refine wpAny_pyNext_enum_itemD (Draws.tup (A:=X.A.in1) (I.ok.hd hc) it a hai its.toArray) he ⟨hit,p⟩ hi hei (by simp[hei,hae]) fun y h' tk hy ho st' hT hsz hk=>?_
  have hyu:y=u:=by
   have:its[i]? =some y:=by simpa using hy
   rw[hu] at this;exact(zC this).symm
  subst hyu
  have ne:∀b∈[e,it],b≠s.heap.objs.size:=fun b hb=>by
   rcases zG.mp hb with rfl|hb
   ·exact zF (zv he)
   ·rw [zA.mp hb];obtain⟨o,q,_⟩:=hit;exact zF (zv q)
  have kk:∀b o,b∉[e,it]->s.heap.get? b=some o->h'.get? b=some o:=fun b o hb q=>hk b o (fun z=>hb (by simp[z])) (fun z=>hb (by simp[z])) q
  have I1:Inv X pins σ (upd H s.heap.objs.size (.tup [.int i,x])) {s with heap:=h',toks:=tk+1}:=I.yields (vals:=[.int i tk,y]) hf kk (zn _) ⟨_,hT,rfl,_,rfl⟩ (.cons ⟨tk,rfl⟩ (.cons ru .nil)) (by show 2<=sizeLine;decide)
  have hf1:=qbh (o:= .tup [.int i,x]) hf ne
  refine⟨_,rfl,zb7 ho fun h'' he'' sb=>?_⟩
  have I2:Inv X pins σ (upd H s.heap.objs.size (.tup [.int i,x])) {s with heap:=h'',toks:=tk+1}:=I1.turnedL (t':=tk+1) hf1 fun b o hb q=>(sb.2 b fun z=>hb (by simp[z])).trans q
  refine⟨.ref s.heap.objs.size,_,I2,rfl,⟨_,I.hok.fresh (zn _),rfl,fun ys y' hy' hx'=>?_⟩,⟨⟨_,by simpa using he''⟩,st'.1.at2 fun o q=>(sb.2 it hei.symm).trans q⟩,fun b hb=>(hf1 b hb).1⟩
  have:=I.tuple_inj hy' hq
  subst this
  rw[hx] at hx'
  rw[zC hx']
 done:=by
  intro X hP hw hK hc i pins s σ H E I hf st hg
  subst hP hw hK
  obtain⟨xs,hq,hx⟩:=hg
  obtain⟨⟨old,he⟩,hit⟩:=st
  obtain⟨its,rv,p,hz⟩:=I.tuple hq
  have p:s.heap.IsTuple a its.toArray:=p
  have hlen:=rv.length
  have D:Draws X.prog X.w X.A.in1 it [it,a] i (fun _ _=>False) (fun k h=>k=i/\h.IsTupleIter it a i/\h.IsTuple a its.toArray):=
   {live:=fun _ _ st=>let ⟨o,ho,_⟩:=st.2.1;⟨o,ho⟩
    frame:=fun _ _ _ st hk=>⟨st.1,st.2.1.at2 fun o q=>hk it (by simp) o q,st.2.2.at2 fun o q=>hk a (by simp) o q⟩
    item:=fun k s Q E hk st _=>absurd st.1 (zF hk)
    done:=fun s Q E st hE=>q2I (I.ok.hd hc) st.2.1 st.2.2 (by simp;omega) hE}
  refine wpAny_pyNext_enum_endD D he ⟨rfl,hit,p⟩ fun h' eb=>⟨rfl,I.turnedL (t':=s.toks) (ch:=[e,it]) hf fun b o hb q=>eb b o (fun z=>hb (by simp[z])) q⟩
 self:=fun _ _ _ _ _ st h=>zbu st.1.choose_spec h
theorem q2M:bootBuiltins "enumerate"=some (.type "enumerate"):=by walk_at "k"
section
variable {X:Cx}{elts:List Expr}{k:Nat}{tp:Pos}
def q91 (K:W.Frag)(ta:TA):TI:=fun σ H R=>ta σ H fun vs H1=>∃a,vs=[.ref a]/\(∃xs,SqL K H1 a xs)/\R (Ite fun H xs=>SqL K H a xs) H1
def q90 (K:W.Frag)(ta:TA):TI:=fun σ H R=>ta σ H fun vs H1=>∃a,vs=[.ref a]/\(∃xs,SqT K H1 a xs)/\R (Ite fun H xs=>SqT K H a xs) H1
theorem qa7 {a:Expr}{ta:TA}{p pos:Pos}(hg:Gl X "enumerate")(hm:X.mg "enumerate"=none)(ha:PA X [a] ta)(hs:starEach [a] X.env=[(false,eval a X.env)]:=by rfl):PI X (.Tuple elts k tp) (.Call (.Name "enumerate" p) [a] [] pos) (q91 X.K ta):=by
 intro pins s σ H R I h
 refine Call_ (q38 I hg hm q2M (zaj (thn (ha pos pins s σ H _ I h) fun us s1 ⟨vs,H1,I1,r1,q1⟩=>?_) hs rfl))
 obtain⟨l,e,⟨xs,hq⟩,q⟩:=q1
 subst e
 obtain⟨u,rfl,rx⟩:=q2U r1
 cases rx
 obtain⟨its,rv,pl,hz⟩:=I1.list hq
 refine call_enumerate_list pl.isList fun h' he hit hsz hk=>zbu he ?_
 refine⟨_,[s1.heap.objs.size+1,s1.heap.objs.size],_,_,H1,rfl,I1.kept (t':=s1.toks) hk,q7m l _ _ (Nat.succ_ne_self _),⟨⟨_,he⟩,hit⟩,fun b hb=>?_,q⟩
 rcases zG.mp hb with rfl|hb
 ·exact I1.fpOk (zaS _) (I1.hok.fresh (zaS _))
 ·rw [zA.mp hb];exact I1.fpOk (zn _) (I1.hok.fresh (zn _))
theorem qa6 {a:Expr}{ta:TA}{p pos:Pos}(hg:Gl X "enumerate")(hm:X.mg "enumerate"=none)(ha:PA X [a] ta)(hs:starEach [a] X.env=[(false,eval a X.env)]:=by rfl):PI X (.Tuple elts k tp) (.Call (.Name "enumerate" p) [a] [] pos) (q90 X.K ta):=by
 intro pins s σ H R I h
 refine Call_ (q38 I hg hm q2M (zaj (thn (ha pos pins s σ H _ I h) fun us s1 ⟨vs,H1,I1,r1,q1⟩=>?_) hs rfl))
 obtain⟨l,e,⟨xs,hq⟩,q⟩:=q1
 subst e
 obtain⟨u,rfl,rx⟩:=q2U r1
 cases rx
 obtain⟨its,rv,pl,hz⟩:=I1.tuple hq
 refine q45 (show s1.heap.IsTuple l its.toArray from pl) fun h' he hit hsz hk=>zbu he ?_
 refine⟨_,[s1.heap.objs.size+1,s1.heap.objs.size],_,_,H1,rfl,I1.kept (t':=s1.toks) hk,q7l l _ _ (Nat.succ_ne_self _),⟨⟨_,he⟩,hit⟩,fun b hb=>?_,q⟩
 rcases zG.mp hb with rfl|hb
 ·exact I1.fpOk (zaS _) (I1.hok.fresh (zaS _))
 ·rw [zA.mp hb];exact I1.fpOk (zn _) (I1.hok.fresh (zn _))
end
end L2
namespace PySem
open Sem (wp)
end PySem
namespace L2
open PySem PySem.Spec PyProof.Rows
section
variable {X:Cx}
def rIsiT (K:W.Frag):List V->Hp->VK->Prop:=fun xs H Q=>∃x n t b,xs=[x,.ty n]/\TyOf K H x t/\PySem.W.kitOne K t (.type n)=some b/\Q (.bl b) H
theorem q9y:q1g X (.builtin "isinstance") (rIsiT X.K):=by
 intro pins s σ H xs us Q I r h
 obtain⟨x,n,t,b,rfl,ty,e,q⟩:=h
 obtain⟨u,v,rfl,rx,ry⟩:=qbu r
 cases ry
 exact q8Y I rx ty e fun tk=>⟨.bl b,H,I.tok _,rfl,q⟩
theorem q9K {bs:List Bool}:∀{us:List Value},Vals (bs.map V.bl) us->us=bs.map Value.bool:=by
 induction bs with
 |nil=>intro us r;cases r;rfl
 |cons b bs ih=>
  intro us r
  rw[zZ] at r
  cases r with
  |cons r1 r2=>
   cases(show _=Value.bool b from r1)
   rw[ih r2]
   rfl
theorem q51 (bs:List Bool):((List.range bs.length).all fun i=>bs.getD i true)=bs.all id:=by
 rw[zP]
 simp only[List.all_eq_true,List.mem_range,id]
 constructor
 ·intro h x hx
  obtain⟨i,hi,rfl⟩:=zbL.mp hx
  have:=h i hi
  simpa[List.getD,hi] using this
 ·intro h i hi
  have:=h bs[i] (zL hi)
  simpa[List.getD,hi] using this
def rAll (K:W.Frag):List V->Hp->VK->Prop:=fun xs H Q=>∃(p:Addr) (bs:List Bool),xs=[.ref p]/\SqL K H p (bs.map V.bl)/\Q (.bl (bs.all id)) H
theorem qaX (hc:X.calm=true):q1g X (.builtin "all") (rAll X.K):=by
 intro pins s σ H xs us Q I r h
 obtain⟨p,bs,rfl,hq,q⟩:=h
 obtain⟨u,rfl,rx⟩:=q2U r
 cases rx
 obtain⟨its,rv,pl,hz⟩:=I.list hq
 have hits:=q9K rv
 have hl:=pl.isList
 have hlt:p<s.heap.objs.size:=by obtain⟨o,e,_⟩:=hl;exact zv e
 have hh:X.A.in1.handled=none:=I.ok.hd hc
 refine call_all_walk (wpAny_pyIter_list hl ?_)
 refine⟨s.heap.objs.size,_,_,_,_,_,fun i=>bs.getD i true,rfl,Walks.list hh s.heap.objs.size p (zF hlt) its.toArray,⟨⟨_,zB _ rfl,rfl,rfl⟩,hl.push _⟩,?_,fun h' tk hk=>?_⟩
 ·intro i v s' Q' E' hv hQ
  have e:v= .bool (bs.getD i true):=by
   have hv':its[i]? =some v:=by simpa using hv
   rw[hits,zN] at hv'
   cases e:bs[i]? with
   |none=>rw[e] at hv';cases hv'
   |some b=>rw[e] at hv';simp[List.getD,e];exact(zC hv').symm
  subst e
  first
   |exact zl hQ
   |exact hQ
 ·have e:its.toArray.size=bs.length:=by rw[hits];simp
  have I1:Inv X pins σ H {s with heap:=s.heap.push {cls:= .type "list_iterator",data:= .fields #[.ref p,.int 0 0]}}:=I.kept (t':=s.toks) fun b o e=>zm _ e
  have f:∀b∈[s.heap.objs.size],FpOk X pins H b:=fun b hb=>by rw[zA.mp hb];exact I.fpOk (zn _) (I.hok.fresh (zn _))
  refine⟨.bl (bs.all id),H,I1.turnedL (t':=tk) (ch:=[s.heap.objs.size]) f fun b o hb e=>hk b o hb e,?_,q⟩
  show Value.bool _=Value.bool _
  rw[e,q51]
end
end L2
namespace HT
open PySem PyProof.Rows
section
variable {prog:Program}{w:World}{A:Around}{E:Value->Shared->Prop}{s:Shared}
theorem q3p {t sl:Addr}{items:Array Value}{vl vu:Value}{lo hi:Option Int}{Q:Value->Shared->Prop}(ht:IsTup s.heap t items)(hs:s.heap.IsSliceOf sl vl vu .none)(pl:IsPart vl lo)(pu:IsPart vu hi)
  (hw:sIx items.size 0 lo=0/\sIx items.size items.size hi=items.size)(h:Q (.ref t) s):wpAny (model prog w) A (getItem (.ref t) (.ref sl)) Q E s:=by
 obtain⟨os,hos,hcs,hds⟩:=id hs
 have hTs:s.TypeIs (.ref sl) "slice":=⟨os,hos,hcs⟩
 unfold getItem
 try with_reducible refine zah ?_
 first|refine yD (zl ?_)|skip
 refine yD (wpAny_sequenceKey ht.typeIs (by decide) ?_)
 refine yD (zar (name:=Str.ofString "__getitem__") ht.typeIs zal (zaA zal ht.typeIs entry_tuple_getitem ?_ (args_tuple_getitem _ _)))
 show wpAny _ _ (Builtin.Tuple.tupleItemsOf (.ref t) >>= _) _ _ s
 refine yD (tupleItemsOf_ ht (yD (zbI hTs ?_)))
 rw[zt (by decide)]
 refine yD (q2g hs pl pu ?_)
 have yes:(((sIx items.size 0 lo:Nat):Int)==0&&(1:Int)==1&&(sIx items.size items.size hi - sIx items.size 0 lo)==items.size)=true:=by
  rw[hw.1,hw.2];simp
 show wpAny _ _ (if (((sIx items.size 0 lo:Nat):Int)==0&&(1:Int)==1&&(sIx items.size items.size hi - sIx items.size 0 lo)==items.size)=true then _ else _) _ _ s
 rw[zt yes]
 refine yD (m:=Builtin.Tuple.tupleIsExact _) ?_
 unfold Builtin.Tuple.tupleIsExact
 refine yD (zbI ht.typeIs (zl ?_))
 simp only[beq_self_eq_true,if_true]
 first
  |exact yD (zbJ (zl ⟨_,rfl,zl h⟩))
  |exact yD (zbJ (yD (zl (zl ⟨_,rfl,zl h⟩))))
  |exact yD (zbJ (yD (zl ⟨_,rfl,zl h⟩)))
  |(trace_state;fail)
end
end HT
namespace L2
open PySem PySem.Spec PyProof.Rows
section
variable {X:Cx}
def qbR (K:W.Frag):V->Option Int->Option Int->Hp->VK->Prop:=fun x lo hi H Q=>∃a xs,x= .ref a/\SqT K H a xs/\(cutV xs lo hi=xs->Q (.ref a) H)/\∀p,H p=none->Q (.ref p) (upd H p (.tup (cutV xs lo hi)))
theorem qbC:SlR X (qbR X.K):=by
 intro pins s σ H x v vl vu lo hi sl Q I rx hs pl pu h
 obtain⟨a,xs,rfl,hx,h1,h2⟩:=h
 by_cases hw:HT.sIx xs.length 0 lo=0/\HT.sIx xs.length xs.length hi=xs.length
 ·have e:cutV xs lo hi=xs:=by unfold cutV;rw[hw.1,hw.2];simp
  cases rx
  obtain⟨its,r,ht,hz⟩:=I.tuple hx
  have hlen:its.toArray.size=xs.length:=by rw[zy];exact r.length.symm
  exact⟨"tuple",_,zal.lookup,ht.typeIs,HT.q3p ht hs pl pu (by rw[hlen];exact hw) ⟨.ref a,H,I,rfl,h1 e⟩⟩
 ·exact sl_tup pins s σ H (.ref a) v vl vu lo hi sl Q I rx hs pl pu ⟨a,xs,rfl,hx,hw,h2⟩
end
theorem q42 {J:It}{g:TG}{tc:TT}{te:TE}{R:Hp->Prop}{σ:St}{H:Hp}{D:Addr}(n:Nat)(Pv:Nat->St->Hp->Prop)(h0:Pv 0 σ H)
  (go:∀i σ H,i<n->Pv i σ H->J.go i H/\∀x H',J.yld i H x H'->g x σ H' fun σ3 H3=>tc σ3 H3 fun b H4=>
   if b=true then te σ3 H4 fun y H5=>∃ys,H5 D=some (.lst ys)/\ys.length<sizeLine/\Pv (i+1) σ3 (upd H5 D (.lst (ys++[y]))) else Pv (i+1) σ3 H4)(stop:∀σ H,Pv n σ H->J.stop n H/\R H):
  ∃W:Nat->Nat->St->Hp->Prop,(∃m,W 0 m σ H)/\∀i m σ H,W i m σ H->
   (J.stop i H/\R H)\/(J.go i H/\∃N:St->Hp->Prop,(∀σ' H',N σ' H'->∃m',m'<m/\W (i+1) m' σ' H')/\∀x H',J.yld i H x H'->g x σ H' fun σ3 H3=>tc σ3 H3 fun b H4=>
    if b=true then te σ3 H4 fun y H5=>∃ys,H5 D=some (.lst ys)/\ys.length<sizeLine/\N σ3 (upd H5 D (.lst (ys++[y]))) else N σ3 H4):=by
 refine⟨fun i m σ H=>m=n - i/\i<=n/\Pv i σ H,⟨n,by simp,zaC _,h0⟩,?_⟩
 rintro i m σ H ⟨rfl,hi,p⟩
 by_cases hlt:i<n
 ·obtain ⟨q1,q2⟩:=go i σ H hlt p
  exact .inr ⟨q1,Pv (i+1),fun σ' H' p'=>⟨n - (i+1),by omega,rfl,hlt,p'⟩,q2⟩
 ·have e:i=n:=by omega
  subst e
  exact .inl (stop σ H p)
theorem Same.upd {H:Hp}{a:Addr}{o:HO}(h:H a=none):Same H (upd H a o):=fun b u e=>by rw[qq (qv e h)];exact e
theorem Same.put {H H':Hp}{a:Addr}{o:HO}(e:Same H H')(h:H a=none):Same H (L2.upd H' a o):=fun b u q=>by rw[qq (qv q h)];exact e b u q
def isFun:ScopeKind->Bool
 | .function=>true
 |_=>false
theorem qaD {k:ScopeKind}(h:isFun k=true):k= .function:=by
 cases k<;>first|rfl|cases h
def q9m (Nx:List Str)(scx:Scope)(N:List Str)(scope:Scope)(own:Nat)(caps:List Nat):Bool:=
 isFun scope.kind&&scope.names.all (fun y=>(y.2 != .local||scope.names.lookup y.1==some .local)&&y.2 != .cell&&(y.2 != .free||scx.names.lookup y.1==some .cell||scx.names.lookup y.1==some .free))&&
  N.length==own+caps.length&&(caps.zip (N.drop own)).all fun p=>decide (Nx[p.1]? =some p.2)&&scope.names.lookup p.2==some .free
theorem q0L {X:Cx}{N:List Str}{scope:Scope}{own:Nat}{caps:List Nat}(Nx:List Str)(scx:Scope)(h:q9m Nx scx N scope own caps=true)(hN:X.N=Nx:=by rfl)(hs:X.env.scope=scx:=by rfl):CompOk X N scope own caps:=by
 unfold q9m at h
 simp only[Bool.and_eq_true,List.all_eq_true] at h
 obtain⟨⟨⟨h1,h2⟩,h3⟩,h4⟩:=h
 refine⟨qaD h1,fun y hy hl=>?_,fun y hy hc=>?_,fun y hy hf=>?_,by simpa using h3,fun i j x e1 e2=>?_⟩
 ·have:=(h2 y hy).1.1
  simpa[hl] using this
 ·have:=(h2 y hy).1.2
  simp[hc] at this
 ·have:=(h2 y hy).2
  show X.env.scope.names.lookup y.1=some .cell\/X.env.scope.names.lookup y.1=some .free
  rw[hs]
  simpa[hf] using this
 ·have hm:(j,x)∈caps.zip (N.drop own):=by
   have e3:(N.drop own)[i]? =some x:=by rw[List.getElem?_drop];exact e2
   exact List.mem_iff_getElem?.mpr ⟨i,by rw[List.getElem?_zip_eq_some];exact⟨e1,e3⟩⟩
  have:=h4 _ hm
  rw[hN]
  exact⟨zaG this.1,by simpa using this.2⟩
structure Cal (P:Program)(w:World)(K:W.Frag)(mg:Str->Option Value)(base:Heap)(k:Nat)(x:Str)(ps:List Str)(sp:Sp):Prop where
 ex:∃f fd,FnOk P w K mg base CX0 k f fd ps sp/\mg x=some (.ref f)/\PySem.W.keepIn K (.ref f)=true/\q1q K fd ps []
structure Laid (K:W.Frag)(mg:Str->Option Value)(x:Str)(st:Stmt)(ps:List Str):Prop where
 ex:∃f fd,Fun K x x st f fd/\mg x=some (.ref f)/\q1q K fd ps []
section
variable {P:Program}{w:World}{K:W.Frag}{mg:Str->Option Value}{base:Heap}
theorem Laid.cal {x:Str}{st:Stmt}{N ps:List Str}{k:Nat}{sp:Sp}(L:Laid K mg x st ps)(S:FnScope N ps (qh st))(len:∀vs H Q E,sp vs H Q E->vs.length=ps.length)
  (hbody:∀(f:Addr) (cdv:Value) (A:Around) (outer:List Env) (s:Shared) (H:Hp) (vs:List V) (Q:VK) (E:XK),Room k (A.deeper (envOfC x (qh st) s.heap.objs.size f cdv))->sp vs H Q E->
   ∃t,PSs (cxOf CX0 P w K mg base N x (qh st) f cdv A outer s H E).nox (q0c st) t/\t {nx:=fun _ H'=>Q .non H',rt:=Q} (start N vs) H):Cal P w K mg base (k+1) x ps sp:=by
 obtain⟨f,fd,F,m,b⟩:=L.ex
 exact⟨f,fd,F.ok S len (fun cdv A outer s H vs Q E hr h=>hbody f cdv A outer s H vs Q E hr h),m,F.kp,b⟩
theorem qcs {h:Heap}{x:Str}{st:Stmt}{ps:List Str}{f:Addr}{oc:Value}{od an:Option Addr}{osl:Array (Option Value)}{kV doc pm cdv ct:Value}(X:K.In h)(G:h.Ns mainGlobals mg)(a:PySem.W.nsIn K mainGlobals x=some (some (.ref f)))
  (l:K.lookup f=some ⟨oc,od,.func (PySem.W.fnOf x x (q0I st) (q0c st) (qh st) .none kV doc pm an cdv ct),osl⟩)(c:PySem.W.codeIn K cdv x=true)(k:PySem.W.keepIn K (.ref f)=true)
  (hb:∀(kV doc pm:Value) (an:Option Addr) (cdv ct:Value) (us:List Value),us.length=ps.length->bindArgs (PySem.W.fnOf x x (q0I st) (q0c st) (qh st) .none kV doc pm an cdv ct) ⟨us,[]⟩=pure (ps.zip us)):Laid K mg x st ps:=
 ⟨f,_,q2q l c k,PySem.W.mg_of X G a,(q2q l c k).binds hb⟩
end
section
variable {X:Cx}{k k':Nat}{x:Str}{ps:List Str}{sp:Sp}{p pos:Pos}{e:Expr}{es:List Expr}{t:TA}
theorem qB (c:Cal X.prog X.w X.K X.mg X.base k x ps sp)(hr:Room k' X.A)(hk:k<=k')(hg:Gl X x)(ha:PA X (e::es) t)(hdb:(x==("__debug__":Str))=false:=by decide)(he:starEach (e::es) X.env=(false,eval e X.env)::starEach es X.env:=by rfl)
  (hpl:(backTo pos (starEach es X.env)).any (·.1)=false:=by rfl):PE X (.Call (.Name x p) (e::es) [] pos) (q9N sp [] E0 t):=by
 obtain⟨f,fd,F,m,kp,b⟩:=c.ex
 exact qc2 F (hr.mono hk) hg m kp b .nil q6r ha hdb he hpl
end
def tyS (H:Hp):V->Option String
 | .non=>some "NoneType"
 | .bl _=>some "bool"
 | .int _=>some "int"
 | .str _=>some "str"
 | .ref p=>match H p with
  |some (.lst _)=>some "list"
  |some (.tup _)=>some "tuple"
  |some (.frz _ (.lst _))=>some "list"
  |_=>none
 |_=>none
def subS (a n:String):Bool:=a==n||(a=="bool"&&n=="int")
def q8S (n:String):Bool:=n=="bool"||n=="int"||n=="str"||n=="list"||n=="tuple"
theorem qct (K:W.Frag):∀a∈["NoneType","bool","int","str","list","tuple"],∀n∈["bool","int","str","list","tuple"],PySem.W.kitOne K (.type a) (.type n)=some (subS a n):=by
 intro a ha n hn
 simp only[List.mem_cons,List.not_mem_nil,or_false] at ha hn
 rcases ha with rfl|rfl|rfl|rfl|rfl|rfl<;>rcases hn with rfl|rfl|rfl|rfl|rfl<;>kernel_rfl
theorem tyS_ty {K:W.Frag}{H:Hp}{x:V}{a:String}(h:tyS H x=some a):TyOf K H x (.type a)/\a∈["NoneType","bool","int","str","list","tuple"]:=by
 unfold tyS at h
 split at h
 ·cases h;exact⟨.non,by simp⟩
 ·cases h;exact⟨.bl _,by simp⟩
 ·cases h;exact⟨.int _,by simp⟩
 ·cases h;exact⟨.str _,by simp⟩
 ·split at h
  ·rename_i e;cases h;exact⟨.lst e,by simp⟩
  ·rename_i e;cases h;exact⟨.tup e,by simp⟩
  ·rename_i e;cases h;exact⟨.frz e,by simp⟩
  ·cases h
 ·cases h
section
variable {X:Cx}
def q8n:List V->Hp->VK->Prop:=fun xs H Q=>∃x n a,xs=[x,.ty n]/\tyS H x=some a/\q8S n=true/\Q (.bl (subS a n)) H
theorem q44:q1g X (.builtin "isinstance") q8n:=by
 intro pins s σ H xs us Q I r h
 obtain⟨x,n,a,rfl,ty,kn,q⟩:=h
 obtain⟨t1,t2⟩:=tyS_ty (K:=X.K) ty
 refine q9y pins s σ H _ us Q I r ⟨x,n,_,_,rfl,t1,qct X.K a t2 n ?_,q⟩
 unfold q8S at kn
 simp only[Bool.or_eq_true,beq_iff_eq] at kn
 simp only[List.mem_cons,List.not_mem_nil,or_false]
 rcases kn with(((kn|kn)|kn)|kn)|kn<;>simp[kn]
end
theorem q2f:bootBuiltins "isinstance"=some (.builtin "isinstance"):=by walk_at "k"
theorem q0i:bootBuiltins "len"=some (.builtin "len"):=by walk_at "k"
theorem qbn:bootBuiltins "all"=some (.builtin "all"):=by walk_at "k"
theorem bt_max:bootBuiltins "max"=some (.builtin "max"):=by walk_at "k"
theorem q9B:bootBuiltins "min"=some (.builtin "min"):=by walk_at "k"
theorem bt_sum:bootBuiltins "sum"=some (.builtin "sum"):=by walk_at "k"
theorem q9A:bootBuiltins "sorted"=some (.builtin "sorted"):=by walk_at "k"
theorem q9C:bootBuiltins "int"=some (.type "int"):=by walk_at "k"
theorem q9D:bootBuiltins "bool"=some (.type "bool"):=by walk_at "k"
theorem q4Y:bootBuiltins "list"=some (.type "list"):=by walk_at "k"
theorem q3f:bootBuiltins "tuple"=some (.type "tuple"):=by walk_at "k"
structure VMeth (P:Program)(w:World)(K:W.Frag)(mg:Str->Option Value)(base:Heap)(k:Nat)(C:Addr)(m:Str)(ps:List Str)(sp:Sp):Prop where
 cl:Cls K C
 ex:∃f fd,Meth K C m f/\FnOk P w K mg base CX0 k f fd ps sp/\q1q K fd ps []
def tVM (P:Program)(w:World)(K:W.Frag)(mg:Str->Option Value)(base:Heap)(k:Nat)(m:Str)(ta:TE)(t:TA):TE:=fun σ H Q=>ta σ H fun x H1=>∃a C dx fs ps sp,x= .ref a/\H1 a=some (.ins C dx fs)/\VMeth P w K mg base k C m ps sp/\fs.lookup m=none/\
 t σ H1 fun vs H2=>sp (x::vs) H2 Q E0
structure CMeth (K:W.Frag)(C:Addr)(m:Str)(f:Addr):Prop where
 rd:PySem.W.readsIn K C (.type "type")=true
 fc:PySem.W.findCls K (.ref C) (.type "type") m=some (.val (.ref f))
 sg:PySem.W.specialIn K (.ref C) "__getattribute__"=some (some (.builtin "type.__getattribute__"))
 kp:PySem.W.keepIn K (.ref f)=true
structure CCal (P:Program)(w:World)(K:W.Frag)(mg:Str->Option Value)(base:Heap)(k:Nat)(x m:Str)(ps:List Str)(sp:Sp):Prop where
 ex:∃C f fd,mg x=some (.ref C)/\CMeth K C m f/\FnOk P w K mg base CX0 k f fd ps sp/\q1q K fd ps []
structure Makes (P:Program)(w:World)(K:W.Frag)(mg:Str->Option Value)(base:Heap)(k:Nat)(x:Str)(C:Addr)(ps:List Str)(sp:Sp):Prop where
 ex:∃f fd,Mk K C f/\FnOk P w K mg base CX0 k f fd ps sp/\q1q K fd ps []
 at_:mg x=some (.ref C)
section
variable {X:Cx}{k k':Nat}{C:Addr}{ps:List Str}{sp:Sp}{x m:Str}{p pos apos:Pos}{e o:Expr}{es:List Expr}{ta:TE}{t:TA}
theorem q3n {pl:Sem Bool}(hr:Room k X.A)(he:PE X o ta)(ha:PA X (e::es) t)(hst:starEach (e::es) X.env=(false,eval e X.env)::starEach es X.env:=by rfl)(hpl:(backTo pos (starEach es X.env)).any (·.1)=false:=by rfl)
  (ht:eval (.Call (.Attribute o m apos) (e::es) [] pos) X.env=(do
   let ov<-eval o X.env
   standAt apos.atName
   let (f,first)<-holding [ov] (getMethod ov m pl)
   callWith pos f first (backTo pos (starEach (e::es) X.env)) (backToKw pos (keywordEach [] X.env))):=by rfl):
  PE X (.Call (.Attribute o m apos) (e::es) [] pos) (tVM X.prog X.w X.K X.mg X.base k m ta t):=by
 intro pins s σ H Q I h
 refine zbf (pl:=pl) (thn (he pins s σ H _ I h) fun u s1 ⟨x,H1,I1,rx,a,C,dx,fs,ps,sp,ex,ea,vm,l,q⟩=>?_) ht
 subst ex
 obtain rfl:u=Value.ref a:=rx
 obtain⟨f,fd,hm,F,hb⟩:=vm.ex
 refine q4u I1 ea vm.cl hm l ?_
 refine zaU (first:=[.ref a]) (h₀:=X.base) I.ok.mod.kin hm.kp (thn (ha pos pins s1 σ H1 _ I1 q) fun us s2 ⟨vs,H2,I2,r,q2⟩=>⟨I2.kIn,?_⟩) hst hpl
 exact q6V (us:= .ref a::us) (vs:= .ref a::vs) (ds:=[]) (dvs:=[]) F hr hb .nil q6r I2 (.cons rfl r) (by rw[zJ];exact q2)
theorem pe_vm0 {pl:Sem Bool}(hr:Room k X.A)(he:PE X o ta)
  (ht:eval (.Call (.Attribute o m apos) [] [] pos) X.env=(do
   let ov<-eval o X.env
   standAt apos.atName
   let (f,first)<-holding [ov] (getMethod ov m pl)
   callWith pos f first (backTo pos (starEach [] X.env)) (backToKw pos (keywordEach [] X.env))):=by rfl):
  PE X (.Call (.Attribute o m apos) [] [] pos) (tVM X.prog X.w X.K X.mg X.base k m ta tNil):=by
 intro pins s σ H Q I h
 refine zbf (pl:=pl) (thn (he pins s σ H _ I h) fun u s1 ⟨x,H1,I1,rx,a,C,dx,fs,ps,sp,ex,ea,vm,l,q⟩=>?_) ht
 subst ex
 obtain rfl:u=Value.ref a:=rx
 obtain⟨f,fd,hm,F,hb⟩:=vm.ex
 refine q4u I1 ea vm.cl hm l ?_
 exact PySem.W.callWith_K0 (first:=[.ref a]) I1.kIn hm.kp (q6V (us:=[.ref a]) (vs:=[.ref a]) (ds:=[]) (dvs:=[]) F hr hb .nil q6r I1 (.cons rfl .nil) q)
theorem q3S {pl:Sem Bool}{op:Pos}(c:CCal X.prog X.w X.K X.mg X.base k x m ps sp)(hr:Room k' X.A)(hk:k<=k')(hg:Gl X x)(ha:PA X (e::es) t)(hdb:(x==("__debug__":Str))=false:=by decide)
  (hst:starEach (e::es) X.env=(false,eval e X.env)::starEach es X.env:=by rfl)(hpl:(backTo pos (starEach es X.env)).any (·.1)=false:=by rfl)
  (ht:eval (.Call (.Attribute (.Name x op) m apos) (e::es) [] pos) X.env=(do
   let ov<-eval (.Name x op) X.env
   standAt apos.atName
   let (f,first)<-holding [ov] (getMethod ov m pl)
   callWith pos f first (backTo pos (starEach (e::es) X.env)) (backToKw pos (keywordEach [] X.env))):=by rfl):
  PE X (.Call (.Attribute (.Name x op) m apos) (e::es) [] pos) (q9N sp [] E0 t):=by
 intro pins s σ H Q I h
 obtain⟨C,f,fd,hm,cm,F,hb⟩:=c.ex
 refine zbf (pl:=pl) (q2d I hg hm ?_ hdb) ht
 refine PySem.W.method_cls I.kIn cm.sg (PySem.W.cls_value I.kIn cm.rd cm.fc rfl ?_)
 have I1:=I.tok (s.toks+1)
 refine zaU (first:=[]) (h₀:=X.base) I.ok.mod.kin cm.kp (thn (ha pos pins _ σ H _ I1 h) fun us s2 ⟨vs,H2,I2,r,q2⟩=>⟨I2.kIn,?_⟩) hst hpl
 exact q6V F (hr.mono hk) hb .nil q6r I2 r q2
theorem q1n (c:Makes X.prog X.w X.K X.mg X.base k x C ps sp)(hr:Room k' X.A)(hk:k+1<=k')(hg:Gl X x)(ha:PA X (e::es) t)(hdb:(x==("__debug__":Str))=false:=by decide)(he:starEach (e::es) X.env=(false,eval e X.env)::starEach es X.env:=by rfl)
  (hpl:(backTo pos (starEach es X.env)).any (·.1)=false:=by rfl):PE X (.Call (.Name x p) (e::es) [] pos) (q81 C sp [] E0 t):=by
 obtain⟨f,fd,M,F,b⟩:=c.ex
 exact qbZ M F (hr.mono hk) hg c.at_ b .nil q6r ha hdb he hpl
theorem qc0 (c:Makes X.prog X.w X.K X.mg X.base k x C ps sp)(hr:Room k' X.A)(hk:k+1<=k')(hg:Gl X x)(hdb:(x==("__debug__":Str))=false:=by decide):PE X (.Call (.Name x p) [] [] pos) (q81 C sp [] E0 tNil):=by
 obtain⟨f,fd,M,F,b⟩:=c.ex
 exact qab M F (hr.mono hk) hg c.at_ b .nil q6r hdb
def eqVs (xs ys:List V):Bool:=xs.length==ys.length&&(List.zipWith eqV xs ys).all id
theorem q3g (xs ys:List V):((List.range (min xs.length ys.length)).all fun j=>eqV (xs.getD j .non) (ys.getD j .non))=(List.zipWith eqV xs ys).all id:=by
 rw[zP]
 simp only[List.all_eq_true,List.mem_range,id]
 constructor
 ·intro h b hb
  obtain⟨i,hi,rfl⟩:=zbL.mp hb
  rw[List.length_zipWith] at hi
  have:=h i hi
  simpa[List.getD,show i<xs.length by omega,show i<ys.length by omega] using this
 ·intro h i hi
  have:=h _ (zbL.mpr ⟨i,by rw[List.length_zipWith];exact hi,rfl⟩)
  simpa[List.getD,show i<xs.length by omega,show i<ys.length by omega] using this
theorem q0F {xs:List V}{us:List Value}(r:Vals xs us){j:Nat}(h:j<us.toArray.size):RelV (xs.getD j .non) us.toArray[j]:=by
 have hj:j<us.length:=by simpa using h
 have hx:j<xs.length:=by rw[r.length];exact hj
 obtain⟨u,hu,ru⟩:=r.get (i:=j) (x:=xs[j]) (by simp[hx])
 have e1:us.toArray[j]=u:=by
  have:us[j]? =some us[j]:=by simp[hj]
  rw[this] at hu
  simpa using zC hu
 rw[e1]
 simpa[List.getD,hx] using ru
theorem q4S {xs:List V}(h:xs.all q3q=true)(j:Nat):q3q (xs.getD j .non)=true:=by
 by_cases hj:j<xs.length
 ·rw [zaB] at h
  have:=h xs[j] (zL hj)
  simpa[List.getD,hj] using this
 ·simp [List.getD,show xs.length<=j by omega,q3q]
def rEqLs (K:W.Frag):R2:=fun x y H Q=>∃p q xs ys,x= .ref p/\y= .ref q/\SqL K H p xs/\SqL K H q ys/\xs.all q3q=true/\ys.all q3q=true/\Q (.bl (eqVs xs ys)) H
theorem op_eqL (hu:X.A.units<cLine):OpR X (compareOp .Eq) (rEqLs X.K):=by
 intro pins s σ H x y v u Q I rx ry h
 obtain⟨p,q,xs,ys,rfl,rfl,hp,hq,fx,fy,k⟩:=h
 cases rx
 cases ry
 obtain⟨ia,ra,pa,_⟩:=I.list hp
 obtain⟨ib,rb,pb,_⟩:=I.list hq
 have la:=ra.length
 have lb:=rb.length
 by_cases hl:xs.length=ys.length
 ·refine SeqAt.eq_listAt (e:=fun j=>eqV (xs.getD j .non) (ys.getD j .non)) pa.isList pb.isList (by simp;omega) hu (fun j h1 h2=>q9c (q0F ra h1) (q0F rb h2) (q4S fx j) (q4S fy j)) ⟨.bl (eqVs xs ys),H,I,?_,k⟩
  show Value.bool _=Value.bool _
  unfold eqVs
  rw[<-q3g,show ia.toArray.size=min xs.length ys.length by simp;omega]
  simp[hl]
 ·refine SeqAt.eq_list_lengthsAt pa.isList pb.isList (by simp;omega) hu ⟨.bl (eqVs xs ys),H,I,?_,k⟩
  show Value.bool _=Value.bool _
  unfold eqVs
  simp[hl]
def rEqTs (K:W.Frag):R2:=fun x y H Q=>∃p q xs ys,x= .ref p/\y= .ref q/\SqT K H p xs/\SqT K H q ys/\xs.all q3q=true/\ys.all q3q=true/\Q (.bl (eqVs xs ys)) H
theorem op_eqT (hu:X.A.units<cLine):OpR X (compareOp .Eq) (rEqTs X.K):=by
 intro pins s σ H x y v u Q I rx ry h
 obtain⟨p,q,xs,ys,rfl,rfl,hp,hq,fx,fy,k⟩:=h
 cases rx
 cases ry
 obtain⟨ia,ra,pa,_⟩:=I.tuple hp
 obtain⟨ib,rb,pb,_⟩:=I.tuple hq
 have la:=ra.length
 have lb:=rb.length
 refine SeqAt.eq_tupleAt (e:=fun j=>eqV (xs.getD j .non) (ys.getD j .non)) (show s.heap.IsTuple p ia.toArray from pa) (show s.heap.IsTuple q ib.toArray from pb) hu (fun j h1 h2=>q9c (q0F ra h1) (q0F rb h2) (q4S fx j) (q4S fy j)) ⟨.bl (eqVs xs ys),H,I,?_,k⟩
 show Value.bool _=Value.bool _
 unfold eqVs
 rw[<-q3g,Bool.and_comm]
 simp[la,lb]
end
section
variable {X:Cx}{e o:Expr}{es:List Expr}{ta:TE}{t:TA}{pos apos:Pos}{m f:Str}
theorem q0d (K:W.Frag)(h:X.K=K:=by rfl):IxR X (rIxL K):=by subst h;exact qcu
theorem qj (K:W.Frag)(h:X.K=K:=by rfl):IxR X (rIxT K):=by subst h;exact ix_tup
theorem qY (K:W.Frag)(h:X.K=K:=by rfl):SlR X (rSlL K):=by subst h;exact qbD
theorem q0l (K:W.Frag)(h:X.K=K:=by rfl):SlR X (qbR K):=by subst h;exact qbC
theorem q72 (K:W.Frag)(h:X.K=K:=by rfl):OpR X (binaryOp .Add) (rCatT K):=by subst h;exact q8H
theorem q8G (K:W.Frag)(hu:X.A.units<cLine)(h:X.K=K:=by rfl):OpR X (compareOp .Eq) (rEqTs K):=by subst h;exact op_eqT hu
theorem qc5 (K:W.Frag)(hu:X.A.units<cLine)(h:X.K=K:=by rfl):OpR X (compareOp .Eq) (rEqLs K):=by subst h;exact op_eqL hu
theorem q0v {k:Nat}{g:TGs}{n:Nat}(K:W.Frag)(hc:X.calm=true)(h:PGs X es g)(hK:X.K=K:=by rfl)(hn:(assignEach es X.env).length=n:=by rfl)(hst:(assignEach es X.env).findIdx? (·.1)=none:=by rfl):PG X (.Tuple es k pos) (gTup K n g):=by
 subst hK
 exact pg_tup hc h hn hst
theorem q0w (K:W.Frag)(he:PE X e ta)(hb:attributeBase e f X.env (eval e X.env)=eval e X.env)(hK:X.K=K:=by rfl):PE X (.Attribute e f pos) (tFld K ta f):=by
 subst hK
 exact pe_fld he hb
end
section
variable {X:Cx}{pos:Pos}
theorem qaJ:PGet X (rIxL X.K):=by
 intro pins s σ H o i ov iv Q I ro ri h
 obtain⟨p,xs,i,z,rfl,rfl,hq,he,q⟩:=h
 cases ro
 obtain⟨t,rfl⟩:=ri
 obtain⟨its,r,pl,hz⟩:=I.list hq
 obtain⟨j,h1,h2,h3,h4,h5⟩:=q6I he
 obtain⟨w,ew,rw'⟩:=r.get h2
 have hl:=r.length
 have hn:=q5U
 have fin:EP X pins σ Q w s:=⟨z,H,I,rw',q⟩
 by_cases h0:0<=i
 ·have hj:i.toNat=j:=by
   rw[seqIndex_of h0 h5] at h1
   exact zC h1
  exact wpAny_getItem_list pl.isList h0 (by omega) (by rw[hj];simpa using ew) fin
 ·have hj:(i+(its.toArray.size:Int)).toNat=j:=by
   rw[seqIndex_neg (by omega) h4] at h1
   rw[zy,<-hl]
   exact zC h1
  exact wpAny_getItem_list_neg pl.isList (by omega) (by rw[zy]<;>omega) (by omega) (by rw[hj];simpa using ew) fin
end
def rLen (K:W.Frag):List V->Hp->VK->Prop:=fun xs H Q=>∃p ys,xs=[.ref p]/\(SqL K H p ys\/SqT K H p ys)/\Q (.int ys.length) H
def qb8 (K:W.Frag):List V->Hp->VK->Prop:=fun xs H Q=>∃p ys,xs=[.ref p]/\((SqL K H p ys/\∀l,H l=none->Q (.ref l) (upd H l (.tup ys)))\/(SqT K H p ys/\Q (.ref p) H))
def rLstOf (K:W.Frag):List V->Hp->VK->Prop:=fun xs H Q=>∃p ys,xs=[.ref p]/\(SqL K H p ys\/SqT K H p ys)/\∀l,H l=none->Q (.ref l) (upd H l (.lst ys))
def rMax2:List V->Hp->VK->Prop:=fun xs H Q=>∃i j,xs=[.int i,.int j]/\Q (.int (if j>i then j else i)) H
def rMin2:List V->Hp->VK->Prop:=fun xs H Q=>∃i j,xs=[.int i,.int j]/\Q (.int (if j<i then j else i)) H
def rInt1:List V->Hp->VK->Prop:=fun xs H Q=>(∃i,xs=[.int i]/\Q (.int i) H)\/∃k,xs=[.bl k]/\Q (.int (if k then 1 else 0)) H
section
variable {X:Cx}
theorem lenK (K:W.Frag)(h:X.K=K:=by rfl):q1g X (.builtin "len") (rLen K):=by subst h;exact q63
theorem q5i (K:W.Frag)(h:X.K=K:=by rfl):q1g X (.type "tuple") (qb8 K):=by subst h;exact q4X
theorem qbc (K:W.Frag)(h:X.K=K:=by rfl):q1g X (.type "list") (rLstOf K):=by subst h;exact q62
theorem max2 (hc:X.calm=true):q1g X (.builtin "max") rMax2:=q9x hc
theorem min2 (hc:X.calm=true):q1g X (.builtin "min") rMin2:=q9w hc
theorem int1:q1g X (.type "int") rInt1:=q9z
end
section
variable {σ:St}{H:Hp}{Q:VK}{B:Bool->Hp->Prop}{L:List V->Hp->Prop}{ta tb:TE}{t:TA}{c d:TT}{nx bk ct:St->Hp->Prop}{rt:VK}{g:TG}{K:W.Frag}
theorem r_var {i:Nat}{v:V}(h:σ[i]? =some (some v))(q:Q v H):tVar i σ H Q:=⟨v,h,q⟩
theorem r_c {v:V}(q:Q v H):tC v σ H Q:=q
theorem r_op {r:R2}(q:ta σ H fun x H1=>tb σ H1 fun y H2=>r x y H2 Q):tOp r ta tb σ H Q:=q
theorem r_un {r:V->Hp->VK->Prop}(q:ta σ H fun x H1=>r x H1 Q):tUn r ta σ H Q:=q
theorem r_I0 {f:Int->Int->V}{i j:Int}(q:Q (f i j) H):rI0 f (.int i) (.int j) H Q:=⟨i,j,rfl,rfl,q⟩
theorem r_I {C:Int->Int->Prop}{f:Int->Int->V}{i j:Int}(h:C i j)(q:Q (f i j) H):rI C f (.int i) (.int j) H Q:=⟨i,j,rfl,rfl,h,q⟩
theorem r_U {f:Int->V}{i:Int}(q:Q (f i) H):rU f (.int i) H Q:=⟨i,rfl,q⟩
theorem r_notN (q:ta σ H fun x H1=>Q (.bl (!decide (x= .non))) H1):tNotN ta σ H Q:=q
theorem r_B (q:ta σ H fun x H1=>∃k,x= .bl k/\B k H1):tB ta σ H B:=q
theorem r_test (q:ta σ H fun x H1=>∃k,x= .bl k/\B k H1):tTest ta σ H B:=q
theorem r_bl {b:Bool}{P:Bool->Prop}(q:P b):∃k,V.bl b=V.bl k/\P k:=⟨b,rfl,q⟩
theorem r_and (q:c σ H fun k H1=>if k=true then d σ H1 B else B false H1):tAnd c d σ H B:=q
theorem r_or (q:c σ H fun k H1=>if k=true then B true H1 else d σ H1 B):tOr c d σ H B:=q
theorem r_not (q:c σ H fun k H1=>B (!k) H1):tNot c σ H B:=q
theorem r_andV (q:ta σ H fun x H1=>∃k,x= .bl k/\if k=true then tb σ H1 Q else Q (.bl false) H1):tAndV ta tb σ H Q:=q
theorem r_orV (q:ta σ H fun x H1=>∃k,x= .bl k/\if k=true then Q (.bl true) H1 else tb σ H1 Q):tOrV ta tb σ H Q:=q
theorem r_notV (q:ta σ H fun x H1=>∃k,x= .bl k/\Q (.bl (!k)) H1):tNotV ta σ H Q:=q
theorem r_if (q:c σ H fun k H1=>if k=true then ta σ H1 Q else tb σ H1 Q):tIf c ta tb σ H Q:=q
theorem r_cons (q:ta σ H fun x H1=>t σ H1 fun xs H2=>L (x::xs) H2):qbx ta t σ H L:=q
theorem r_nil (q:L [] H):tNil σ H L:=q
theorem r_tup (q:t σ H fun xs H1=>xs.length<=sizeLine/\∀p,H1 p=none->Q (.ref p) (upd H1 p (.tup xs))):tTup t σ H Q:=q
theorem r_lst (q:t σ H fun xs H1=>xs.length<=sizeLine/\∀p,H1 p=none->Q (.ref p) (upd H1 p (.lst xs))):tLst t σ H Q:=q
theorem r_al {n:Nat}{P:Prop}(h:Nat.ble n sizeLine=true)(q:P):n<=sizeLine/\P:=⟨Nat.le_of_ble_eq_true h,q⟩
theorem r_call {sp:Sp}{E:XK}(q:t σ H fun vs H1=>sp (vs++[]) H1 Q E):q9N sp [] E t σ H Q:=q
theorem r_cb {r:List V->Hp->VK->Prop}(q:t σ H fun vs H1=>r vs H1 Q):tCB r t σ H Q:=q
theorem r_bm {T:String}{r:V->List V->Hp->VK->Prop}(q:ta σ H fun x H1=>tyV K T x H1/\t σ H1 fun xs H2=>r x xs H2 Q):tBM K T r ta t σ H Q:=q
theorem r_sl {r:V->Option Int->Option Int->Hp->VK->Prop}{tl th:TO}(q:ta σ H fun x H1=>tl σ H1 fun l H2=>th σ H2 fun u H3=>r x l u H3 Q):tSl r ta tl th σ H Q:=q
theorem r_np {P:Option Int->Hp->Prop}(q:P none H):q80 σ H P:=q
theorem r_pt {P:Option Int->Hp->Prop}(q:ta σ H fun x H1=>∃i,x= .int i/\P (some i) H1):tPart ta σ H P:=q
theorem r_int {i:Int}{P:Int->Prop}(q:P i):∃k,V.int i=V.int k/\P k:=⟨i,rfl,q⟩
theorem r_eqI {i j:Int}(q:Q (.bl (decide (i=j))) H):rEq (.int i) (.int j) H Q:=⟨rfl,by rw[show decide (V.int i=V.int j)=decide (i=j) by simp];exact q⟩
theorem r_eqS {i j:Str}(q:Q (.bl (decide (i=j))) H):rEq (.str i) (.str j) H Q:=⟨rfl,by rw[show decide (V.str i=V.str j)=decide (i=j) by simp];exact q⟩
theorem r_eqB {i j:Bool}(q:Q (.bl (decide (i=j))) H):rEq (.bl i) (.bl j) H Q:=⟨rfl,by rw[show decide (V.bl i=V.bl j)=decide (i=j) by simp];exact q⟩
theorem r_neI {i j:Int}(q:Q (.bl (!decide (i=j))) H):rNe (.int i) (.int j) H Q:=⟨rfl,by rw[show decide (V.int i=V.int j)=decide (i=j) by simp];exact q⟩
theorem r_neS {i j:Str}(q:Q (.bl (!decide (i=j))) H):rNe (.str i) (.str j) H Q:=⟨rfl,by rw[show decide (V.str i=V.str j)=decide (i=j) by simp];exact q⟩
theorem q3C {p:Addr}{xs:List V}{i:Int}{v:V}(h:SqT K H p xs)(e:atI xs i=some v)(q:Q v H):rIxT K (.ref p) (.int i) H Q:=⟨p,xs,i,v,rfl,rfl,h,e,q⟩
theorem q6o {p:Addr}{xs:List V}{i:Int}{v:V}(h:SqL K H p xs)(e:atI xs i=some v)(q:Q v H):rIxL K (.ref p) (.int i) H Q:=⟨p,xs,i,v,rfl,rfl,h,e,q⟩
theorem r_lenT {p:Addr}{xs:List V}(h:SqT K H p xs)(q:Q (.int xs.length) H):rLen K [.ref p] H Q:=⟨p,xs,rfl,.inr h,q⟩
theorem r_lenL {p:Addr}{xs:List V}(h:SqL K H p xs)(q:Q (.int xs.length) H):rLen K [.ref p] H Q:=⟨p,xs,rfl,.inl h,q⟩
theorem atI0 {v:V}{l:List V}:atI (v::l) 0=some v:=q0r (j:=0) rfl
theorem qcV {xs:List V}{j:Nat}{v:V}(h:xs[j]? =some v):atI xs (0+(j:Int))=some v:=by rw[zau];exact q0r h
theorem q7Y {α β:Type}(f:α->β)(xs:List α){i:Nat}(hi:i<xs.length):(xs.take i).map f++[f xs[i]]=(xs.take (i+1)).map f:=by rw[zw hi,zM];rfl
theorem qbL {x:V}{n a:String}{b:Bool}(h:tyS H x=some a)(k:q8S n=true)(e:subS a n=b)(q:Q (.bl b) H):q8n [x,.ty n] H Q:=⟨x,n,a,rfl,h,k,by rw[e];exact q⟩
theorem q9Z {i:Int}(q:Q (.bl false) H):q8n [.int i,.ty "bool"] H Q:=qbL rfl (by walk_at "k") (by walk_at "k") q
theorem q9Y {i:Int}(q:Q (.bl true) H):q8n [.int i,.ty "int"] H Q:=qbL rfl (by walk_at "k") (by walk_at "k") q
theorem qa0 {i:Bool}(q:Q (.bl true) H):q8n [.bl i,.ty "bool"] H Q:=qbL rfl (by walk_at "k") (by walk_at "k") q
theorem r_asg (q:ta σ H fun x H1=>g x σ H1 nx):tAsg ta g ⟨nx,rt,bk,ct⟩ σ H:=q
theorem r_name {i:Nat}{v:V}{N:St->Hp->Prop}(q:N (σ.set i (some v)) H):qaK i v σ H N:=q
theorem r_ifS {t u:TS}{D:Ends}(q:c σ H fun k H1=>if k=true then t D σ H1 else u D σ H1):tIfS c t u D σ H:=q
theorem r_ret (q:ta σ H rt):tRet ta ⟨nx,rt,bk,ct⟩ σ H:=q
theorem r_next (q:nx σ H):tNext ⟨nx,rt,bk,ct⟩ σ H:=q
theorem r_drop (q:ta σ H fun _ H1=>nx σ H1):tDrop ta ⟨nx,rt,bk,ct⟩ σ H:=q
theorem r_augS {to ti te:TE}{tget:V->V->Hp->VK->Prop}{tip:TIp}{tset:TSet}(q:to σ H fun o H1=>ti σ H1 fun i H2=>tget o i H2 fun x H3=>te σ H3 fun y H4=>tip x y H4 fun z H5=>tset o i z H5 fun H6=>nx σ H6):tAugS to ti te tget tip tset ⟨nx,rt,bk,ct⟩ σ H:=q
theorem r_ipI {f:Int->Int->Int}{i j:Int}(q:Q (.int (f i j)) H):ipI f (.int i) (.int j) H Q:=⟨i,j,rfl,rfl,q⟩
theorem qb7 {p:Addr}{xs:List V}{k:Int}{j:Nat}{v:V}{R:Hp->Prop}(h:H p=some (.lst xs))(e:ixN xs.length k=some j)(q:R (upd H p (.lst (xs.set j v)))):rSetL (.ref p) (.int k) v H R:=⟨p,xs,k,j,rfl,rfl,h,e,q⟩
theorem r_gT {n:Nat}{gs:TGs}{p:Addr}{xs:List V}{N:St->Hp->Prop}(h:SqT K H p xs)(e:xs.length=n)(q:gs xs σ H N):gTup K n gs (.ref p) σ H N:=⟨p,xs,rfl,h,e,q⟩
theorem r_gc {gs:TGs}{v:V}{vs:List V}{N:St->Hp->Prop}(q:g v σ H fun σ' H'=>gs vs σ' H' N):gCons g gs (v::vs) σ H N:=⟨v,vs,rfl,q⟩
theorem r_gn {N:St->Hp->Prop}(q:N σ H):gNil [] σ H N:=⟨rfl,q⟩
theorem q4h {p:Addr}{xs:List V}{y:V}(h:H p=some (.lst xs))(hz:xs.length<sizeLine)(q:Q .non (upd H p (.lst (xs++[y])))):q8o (.ref p) [y] H Q:=⟨p,xs,y,rfl,rfl,h,hz,q⟩
theorem r_tyL {p:Addr}{xs:List V}{P:Prop}(h:H p=some (.lst xs))(q:P):tyV K "list" (.ref p) H/\P:=⟨.inl ⟨rfl,_,SqL.of h⟩,q⟩
theorem ifd {p:Prop}[Decidable p]{A B:Prop}(h1:p->A)(h2:¬p->B):if decide p=true then A else B:=by
 by_cases h:p
 ·rw [zt (zr h)];exact h1 h
 ·rw [zo (by simp[h])];exact h2 h
theorem ifn {p:Prop}[Decidable p]{A B:Prop}(h1:¬p->A)(h2:p->B):if (!decide p)=true then A else B:=by
 by_cases h:p
 ·rw [zo (by simp[h])];exact h2 h
 ·rw [zt (by simp[h])];exact h1 h
theorem r_max2 {x y:Int}(q:Q (.int (if y>x then y else x)) H):rMax2 [.int x,.int y] H Q:=⟨x,y,rfl,q⟩
theorem r_min2 {x y:Int}(q:Q (.int (if y<x then y else x)) H):rMin2 [.int x,.int y] H Q:=⟨x,y,rfl,q⟩
theorem r_intb {x:Bool}(q:Q (.int (if x then 1 else 0)) H):rInt1 [.bl x] H Q:= .inr ⟨x,rfl,q⟩
theorem q8k {p:Addr}{ys:List V}(h:SqL K H p ys)(q:∀l,H l=none->Q (.ref l) (upd H l (.tup ys))):qb8 K [.ref p] H Q:=⟨p,ys,rfl,.inl ⟨h,q⟩⟩
theorem ifnT {A B:Prop}(h:B):if (!true)=true then A else B:=iteF h
theorem ifnF {A B:Prop}(h:A):if (!false)=true then A else B:=iteT h
theorem q1j {a b:Addr}{o u:HO}(h:H b=some u)(n:H a=none):upd H a o b=some u:=by rw[qq (qv h n)];exact h
theorem up_oth {a b:Addr}{o u:HO}(h:H b=some u)(n:b≠a):upd H a o b=some u:=by rw[qq n];exact h
end
section
variable {σ:St}{H:Hp}{g:TG}{tb:TS}{nx bk ct:St->Hp->Prop}{rt:VK}{t:TA}{wi:TI}
theorem r_for (q:wi σ H fun J H1=>∃W:Nat->Nat->St->Hp->Prop,(∃m,W 0 m σ H1)/\∀i m σ H,W i m σ H->
  (J.stop i H/\nx σ H)\/(J.go i H/\∃N:St->Hp->Prop,(∀σ' H',N σ' H'->∃m',m'<m/\W (i+1) m' σ' H')/\∀x H',J.yld i H x H'->g x σ H' fun σ2 H2=>tb ⟨N,rt,nx,N⟩ σ2 H2)):tFor wi g tb ⟨nx,rt,bk,ct⟩ σ H:=q
def rRg (R:It->Hp->Prop):List V->Hp->Prop:=fun vs H1=>∃j:Int,vs=[.int j]/\ -(2 ^ 62)<=j/\j<2 ^ 62/\R (Itr 0 j.toNat) H1
def rRg2 (R:It->Hp->Prop):List V->Hp->Prop:=fun vs H1=>∃i j:Int,vs=[.int i,.int j]/\(-(2 ^ 62)<=i/\i<2 ^ 62/\ -(2 ^ 62)<=j/\j<2 ^ 62)/\R (Itr i (j - i).toNat) H1
theorem r_rng1 {R:It->Hp->Prop}(q:t σ H (rRg R)):iRng1 t σ H R:=q
theorem r_rng2 {R:It->Hp->Prop}(q:t σ H (rRg2 R)):iRng2 t σ H R:=q
theorem r_comp {tc:TT}{te:TE}{own:Nat}{caps:List Nat}{Q:VK}(q:wi σ H fun J H1=>∀D,H1 D=none->∃W:Nat->Nat->St->Hp->Prop,(∃m,W 0 m (q3A own caps σ) (upd H1 D (.lst [])))/\∀i m σ' H',W i m σ' H'->
  (J.stop i H'/\Q (.ref D) H')\/(J.go i H'/\∃N:St->Hp->Prop,(∀σ'' H'',N σ'' H''->∃m',m'<m/\W (i+1) m' σ'' H'')/\∀x H2,J.yld i H' x H2->g x σ' H2 fun σ3 H3=>tc σ3 H3 fun b H4=>
   if b=true then te σ3 H4 fun y H5=>∃ys,H5 D=some (.lst ys)/\ys.length<sizeLine/\N σ3 (upd H5 D (.lst (ys++[y]))) else N σ3 H4)):q9M wi g tc te own caps σ H Q:=q
theorem r_yes {B:Bool->Hp->Prop}(q:B true H):tYes σ H B:=q
theorem r_iL {K:W.Frag}{tl:TE}{R:It->Hp->Prop}(q:tl σ H fun x H1=>∃a,x= .ref a/\(∃xs,SqL K H1 a xs)/\R (Itl K a) H1):qcy K tl σ H R:=q
theorem r_iT {K:W.Frag}{tl:TE}{R:It->Hp->Prop}(q:tl σ H fun x H1=>∃a,x= .ref a/\(∃xs,SqT K H1 a xs)/\R (Itt K a) H1):iTup K tl σ H R:=q
theorem r_eL {K:W.Frag}{R:It->Hp->Prop}(q:t σ H fun vs H1=>∃a,vs=[.ref a]/\(∃xs,SqL K H1 a xs)/\R (Ite fun H xs=>SqL K H a xs) H1):q91 K t σ H R:=q
theorem r_eT {K:W.Frag}{R:It->Hp->Prop}(q:t σ H fun vs H1=>∃a,vs=[.ref a]/\(∃xs,SqT K H1 a xs)/\R (Ite fun H xs=>SqT K H a xs) H1):q90 K t σ H R:=q
theorem r_refL {K:W.Frag}{p:Addr}{xs:List V}{R:Addr->Prop}(h:SqL K H p xs)(q:R p):∃a,V.ref p= .ref a/\(∃xs,SqL K H a xs)/\R a:=⟨p,rfl,⟨xs,h⟩,q⟩
theorem r_refT {K:W.Frag}{p:Addr}{xs:List V}{R:Addr->Prop}(h:SqT K H p xs)(q:R p):∃a,V.ref p= .ref a/\(∃xs,SqT K H a xs)/\R a:=⟨p,rfl,⟨xs,h⟩,q⟩
theorem qbK {K:W.Frag}{p:Addr}{xs:List V}{R:Addr->Prop}(h:SqL K H p xs)(q:R p):∃a,[V.ref p]=[.ref a]/\(∃xs,SqL K H a xs)/\R a:=⟨p,rfl,⟨xs,h⟩,q⟩
theorem qbJ {K:W.Frag}{p:Addr}{xs:List V}{R:Addr->Prop}(h:SqT K H p xs)(q:R p):∃a,[V.ref p]=[.ref a]/\(∃xs,SqT K H a xs)/\R a:=⟨p,rfl,⟨xs,h⟩,q⟩
theorem r_rg {j:Int}{R:It->Hp->Prop}(h: -1000000<=j/\j<=1000000)(q:R (Itr 0 j.toNat) H):rRg R [.int j] H:=⟨j,rfl,by omega,by omega,q⟩
theorem r_rg2 {i j:Int}{R:It->Hp->Prop}(h:(-1000000<=i/\i<=1000000)/\ -1000000<=j/\j<=1000000)(q:R (Itr i (j - i).toNat) H):rRg2 R [.int i,.int j] H:=⟨i,j,rfl,by omega,q⟩
end
section
variable {J:It}{g:TG}{tb:TS}{nx:St->Hp->Prop}{rt:VK}{σ:St}{H:Hp}{K:W.Frag}{a:Addr}{xs:List V}{tc:TT}{te:TE}{R:Hp->Prop}{D:Addr}
abbrev ForG (J:It)(g:TG)(tb:TS)(nx:St->Hp->Prop)(rt:VK)(σ:St)(H:Hp):Prop:=∃W:Nat->Nat->St->Hp->Prop,(∃m,W 0 m σ H)/\∀i m σ H,W i m σ H->
  (J.stop i H/\nx σ H)\/(J.go i H/\∃N:St->Hp->Prop,(∀σ' H',N σ' H'->∃m',m'<m/\W (i+1) m' σ' H')/\∀x H',J.yld i H x H'->g x σ H' fun σ2 H2=>tb ⟨N,rt,nx,N⟩ σ2 H2)
theorem q6y (n:Nat)(Pv:Nat->St->Hp->Prop)(h0:Pv 0 σ H)
  (go:∀i σ H,i<n->Pv i σ H->J.go i H/\∀x H',J.yld i H x H'->g x σ H' fun σ2 H2=>tb ⟨Pv (i+1),rt,nx,Pv (i+1)⟩ σ2 H2)(stop:∀σ H,Pv n σ H->J.stop n H/\nx σ H):ForG J g tb nx rt σ H:=by
 refine⟨fun i m σ H=>m=n - i/\i<=n/\Pv i σ H,⟨n,by simp,zaC _,h0⟩,?_⟩
 rintro i m σ H ⟨rfl,hi,p⟩
 by_cases hlt:i<n
 ·obtain ⟨q1,q2⟩:=go i σ H hlt p
  exact .inr ⟨q1,Pv (i+1),fun σ' H' p'=>⟨n - (i+1),by omega,rfl,hlt,p'⟩,q2⟩
 ·have e:i=n:=by omega
  subst e
  exact .inl (stop σ H p)
theorem q3Z {lo:Int}{n:Nat}(Pv:Nat->St->Hp->Prop)(h0:Pv 0 σ H)(go:∀i σ H,i<n->Pv i σ H->g (.int (lo+(i:Nat))) σ H fun σ2 H2=>tb ⟨Pv (i+1),rt,nx,Pv (i+1)⟩ σ2 H2)(stop:∀σ H,Pv n σ H->nx σ H):ForG (Itr lo n) g tb nx rt σ H:=
 q6y n Pv h0 (fun i σ H hi p=>⟨hi,fun x H' ⟨e1,e2⟩=>by subst e1 e2;exact go i σ _ hi p⟩) fun σ H p=>⟨zn _,stop σ H p⟩
theorem q6x (xs:List V)(Pv:Nat->St->Hp->Prop)(h0:Pv 0 σ H)(hl:∀i σ H,Pv i σ H->SqL K H a xs)(go:∀i x σ H,xs[i]? =some x->Pv i σ H->g x σ H fun σ2 H2=>tb ⟨Pv (i+1),rt,nx,Pv (i+1)⟩ σ2 H2)(stop:∀σ H,Pv xs.length σ H->nx σ H):ForG (Itl K a) g tb nx rt σ H:=
 q6y xs.length Pv h0 (fun i σ H hi p=>⟨⟨xs,xs[i],hl i σ H p,by simp[hi]⟩,fun x H' ⟨e1,e2⟩=>by subst e1;exact go i x σ _ (e2 xs (hl i σ _ p)) p⟩) fun σ H p=>⟨⟨xs,hl _ σ H p,zn _⟩,stop σ H p⟩
theorem q96 {Sq:Hp->List V->Prop}(xs:List V)(Pv:Nat->St->Hp->Prop)(h0:Pv 0 σ H)(hl:∀i σ H,Pv i σ H->Sq H xs)(go:∀i x σ H T,xs[i]? =some x->Pv i σ H->H T=none->g (.ref T) σ (upd H T (.tup [.int (i:Nat),x])) fun σ2 H2=>tb ⟨Pv (i+1),rt,nx,Pv (i+1)⟩ σ2 H2)
  (stop:∀σ H,Pv xs.length σ H->nx σ H):ForG (Ite Sq) g tb nx rt σ H:=
 q6y xs.length Pv h0 (fun i σ H hi p=>⟨⟨xs,xs[i],hl i σ H p,by simp[hi]⟩,fun x H' ⟨T,hT,e1,e2⟩=>by
  have hx:xs[i]? =some xs[i]:=by simp[hi]
  have e3:=e2 xs xs[i] (hl i σ _ p) hx
  subst e1 e3
  exact go i _ σ _ T hx p hT⟩) fun σ H p=>⟨⟨xs,hl _ σ H p,zn _⟩,stop σ H p⟩
abbrev q9J (J:It)(g:TG)(tc:TT)(te:TE)(R:Hp->Prop)(D:Addr)(σ:St)(H:Hp):Prop:=∃W:Nat->Nat->St->Hp->Prop,(∃m,W 0 m σ H)/\∀i m σ H,W i m σ H->
   (J.stop i H/\R H)\/(J.go i H/\∃N:St->Hp->Prop,(∀σ' H',N σ' H'->∃m',m'<m/\W (i+1) m' σ' H')/\∀x H',J.yld i H x H'->g x σ H' fun σ3 H3=>tc σ3 H3 fun b H4=>
    if b=true then te σ3 H4 fun y H5=>∃ys,H5 D=some (.lst ys)/\ys.length<sizeLine/\N σ3 (upd H5 D (.lst (ys++[y]))) else N σ3 H4)
theorem q2B {lo:Int}{n:Nat}(Pv:Nat->St->Hp->Prop)(h0:Pv 0 σ H)(go:∀i σ H,i<n->Pv i σ H->g (.int (lo+(i:Nat))) σ H fun σ3 H3=>tc σ3 H3 fun b H4=>
   if b=true then te σ3 H4 fun y H5=>∃ys,H5 D=some (.lst ys)/\ys.length<sizeLine/\Pv (i+1) σ3 (upd H5 D (.lst (ys++[y]))) else Pv (i+1) σ3 H4)(stop:∀σ H,Pv n σ H->R H):q9J (Itr lo n) g tc te R D σ H:=
 q42 n Pv h0 (fun i σ H hi p=>⟨hi,fun x H' ⟨e1,e2⟩=>by subst e1 e2;exact go i σ _ hi p⟩) fun σ H p=>⟨zn _,stop σ H p⟩
theorem q1f (xs:List V)(Pv:Nat->St->Hp->Prop)(h0:Pv 0 σ H)(hl:∀i σ H,Pv i σ H->SqL K H a xs)(go:∀i x σ H,xs[i]? =some x->Pv i σ H->g x σ H fun σ3 H3=>tc σ3 H3 fun b H4=>
   if b=true then te σ3 H4 fun y H5=>∃ys,H5 D=some (.lst ys)/\ys.length<sizeLine/\Pv (i+1) σ3 (upd H5 D (.lst (ys++[y]))) else Pv (i+1) σ3 H4)(stop:∀σ H,Pv xs.length σ H->R H):q9J (Itl K a) g tc te R D σ H:=
 q42 xs.length Pv h0 (fun i σ H hi p=>⟨⟨xs,xs[i],hl i σ H p,by simp[hi]⟩,fun x H' ⟨e1,e2⟩=>by subst e1;exact go i x σ _ (e2 xs (hl i σ _ p)) p⟩) fun σ H p=>⟨⟨xs,hl _ σ H p,zn _⟩,stop σ H p⟩
theorem qaT (xs:List V)(Pv:Nat->St->Hp->Prop)(h0:Pv 0 σ H)(hl:∀i σ H,Pv i σ H->SqT K H a xs)(go:∀i x σ H,xs[i]? =some x->Pv i σ H->g x σ H fun σ3 H3=>tc σ3 H3 fun b H4=>
   if b=true then te σ3 H4 fun y H5=>∃ys,H5 D=some (.lst ys)/\ys.length<sizeLine/\Pv (i+1) σ3 (upd H5 D (.lst (ys++[y]))) else Pv (i+1) σ3 H4)(stop:∀σ H,Pv xs.length σ H->R H):q9J (Itt K a) g tc te R D σ H:=
 q42 xs.length Pv h0 (fun i σ H hi p=>⟨⟨xs,xs[i],hl i σ H p,by simp[hi]⟩,fun x H' ⟨e1,e2⟩=>by subst e1;exact go i x σ _ (e2 xs (hl i σ _ p)) p⟩) fun σ H p=>⟨⟨xs,hl _ σ H p,zn _⟩,stop σ H p⟩
theorem qaU {Sq:Hp->List V->Prop}(xs:List V)(Pv:Nat->St->Hp->Prop)(h0:Pv 0 σ H)(hl:∀i σ H,Pv i σ H->Sq H xs)(go:∀i x σ H T,xs[i]? =some x->Pv i σ H->H T=none->g (.ref T) σ (upd H T (.tup [.int (i:Nat),x])) fun σ3 H3=>tc σ3 H3 fun b H4=>
   if b=true then te σ3 H4 fun y H5=>∃ys,H5 D=some (.lst ys)/\ys.length<sizeLine/\Pv (i+1) σ3 (upd H5 D (.lst (ys++[y]))) else Pv (i+1) σ3 H4)(stop:∀σ H,Pv xs.length σ H->R H):q9J (Ite Sq) g tc te R D σ H:=
 q42 xs.length Pv h0 (fun i σ H hi p=>⟨⟨xs,xs[i],hl i σ H p,by simp[hi]⟩,fun x H' ⟨T,hT,e1,e2⟩=>by
  have hx:xs[i]? =some xs[i]:=by simp[hi]
  have e3:=e2 xs xs[i] (hl i σ _ p) hx
  subst e1 e3
  exact go i _ σ _ T hx p hT⟩) fun σ H p=>⟨⟨xs,hl _ σ H p,zn _⟩,stop σ H p⟩
end
section
variable {X:Cx}{pos:Pos}{tg:Expr}{es:List Expr}{e o l:Expr}{ta te tl:TE}{t:TA}{K:W.Frag}
theorem q5X (K:W.Frag)(h:X.K=K:=by rfl):PGet X (rIxL K):=by subst h;exact qaJ
theorem q0b (K:W.Frag)(hl:PE X l tl)(h:X.K=K:=by rfl):PI X tg l (qcy K tl):=by subst h;exact qbX hl
theorem qbW (K:W.Frag)(hl:PE X l tl)(h:X.K=K:=by rfl):PI X tg l (iTup K tl):=by subst h;exact pi_tup hl
theorem q5P {elts:List Expr}{k:Nat}{tp:Pos}{a:Expr}{p pos:Pos}(K:W.Frag)(hg:Gl X "enumerate")(hm:X.mg "enumerate"=none)(ha:PA X [a] t)(h:X.K=K:=by rfl)(hs:starEach [a] X.env=[(false,eval a X.env)]:=by rfl):PI X (.Tuple elts k tp) (.Call (.Name "enumerate" p) [a] [] pos) (q91 K t):=by subst h;exact qa7 hg hm ha hs
theorem q8z {elts:List Expr}{k:Nat}{tp:Pos}{a:Expr}{p pos:Pos}(K:W.Frag)(hg:Gl X "enumerate")(hm:X.mg "enumerate"=none)(ha:PA X [a] t)(h:X.K=K:=by rfl)(hs:starEach [a] X.env=[(false,eval a X.env)]:=by rfl):PI X (.Tuple elts k tp) (.Call (.Name "enumerate" p) [a] [] pos) (q90 K t):=by subst h;exact qa6 hg hm ha hs
theorem q64 (K:W.Frag)(hc:X.calm=true)(h:X.K=K:=by rfl):q1g X (.builtin "all") (rAll K):=by subst h;exact qaX hc
theorem qF:1000000<sizeLine:=by decide
end
def q0m (H H':Hp):Prop:=∀p xs,H p=some (.tup xs)->H' p=some (.tup xs)
theorem q0m.trans {H H1 H2:Hp}(a:q0m H H1)(b:q0m H1 H2):q0m H H2:=fun p xs h=>b p xs (a p xs h)
theorem Same.ts {H H':Hp}(s:Same H H'):q0m H H':=fun p _ h=>s p _ h
theorem q0m.lst {H:Hp}{a:Addr}{ys:List V}{o:HO}(h:H a=some (.lst ys)):q0m H (upd H a o):=fun p xs e=>by rw[qq (q6s e h (by intro z;cases z))];exact e
end L2
namespace Ce
open PySem L2
def bit (x:Int)(t:Nat):Bool:=decide (x / 2 ^ t % 2=1)
def cnt (P:Nat->Bool):Nat->Nat
 |0=>0
 |n+1=>cnt P n+(if P n=true then 1 else 0)
theorem q9o {P:Nat->Bool}:∀{n:Nat},(∀i,i<n->P i=false)->cnt P n=0
 |0,_=>rfl
 |n+1,h=>by
  show cnt P n+_=0
  rw[q9o fun i hi=>h i (zbc hi),h n (zbk n)]
  rfl
theorem q0R (w:Nat):(0:Int)<2 ^ w:=Int.pow_pos (by decide)
theorem q4Z (t:Nat):bit 0 t=false:=by simp[bit]
theorem q9F {x:Int}{w t:Nat}(h0:0<=x)(h:x<2 ^ w)(ht:w<=t):bit x t=false:=by
 have h2:(2:Int) ^ w<=2 ^ t:=by
  have:(2:Int) ^ t=2 ^ w*2 ^ (t - w):=by rw[<-Int.pow_add];congr 1;omega
  rw[this]
  have:=q0R (t - w)
  have h3:=q0R w
  calc (2:Int) ^ w=2 ^ w*1:=by omega
   _<=2 ^ w*2 ^ (t - w):=Int.mul_le_mul_of_nonneg_left (by omega) (by omega)
 have:x / 2 ^ t=0:=Int.ediv_eq_zero_of_lt h0 (by omega)
 simp[bit,this]
theorem q7P {x:Int}{w t:Nat}(ht:t<w):bit (x+2 ^ w) t=bit x t:=by
 have e:(2:Int) ^ w=2 ^ (w - t - 1)*2*2 ^ t:=by
  rw[Int.mul_assoc,<-Int.pow_succ',<-Int.pow_add];congr 1;omega
 have e2:(x+2 ^ w) / 2 ^ t=x / 2 ^ t+2 ^ (w - t - 1)*2:=by
  rw[e,Int.add_mul_ediv_right _ _ (by have:=q0R t;omega)]
 unfold bit
 rw[e2]
 congr 1
 simp only[eq_iff_iff]
 omega
theorem q7Q {x:Int}{w:Nat}(h0:0<=x)(h:x<2 ^ w):bit (x+2 ^ w) w=true:=by
 have e2:(x+2 ^ w) / 2 ^ w=x / 2 ^ w+1:=by
  have:=Int.add_mul_ediv_right x 1 (c:=2 ^ w) (by have:=q0R w;omega)
  rw[zaK] at this
  exact this
 have:x / 2 ^ w=0:=Int.ediv_eq_zero_of_lt h0 h
 unfold bit
 rw[e2,this]
 decide
theorem set_map {α:Type}(f:Nat->α)(n j:Nat)(v:α):((List.range n).map f).set j v=(List.range n).map fun k=>if k=j then v else f k:=by
 apply zcd
 intro i
 rw[List.getElem?_set]
 simp only[List.getElem?_map,yC,List.length_range]
 by_cases h:j=i
 ·subst h
  by_cases hj:j<n
  ·simp [hj]
  ·simp [hj]
 ·have h':¬i=j:=fun e=>h e.symm
  by_cases hi:i<n
  ·simp [h,h',hi]
  ·simp [h,hi]
def dP (ds:Nat->Option Int)(op k:Int)(w:Nat):Bool:=decide (ds w=some k)&&bit op w
theorem qcN (ds:Nat->Option Int)(k:Int)(w:Nat):dP ds 0 k w=false:=by simp[dP,q4Z]
theorem qa4 {x:Int}{i:Nat}(h0:0<=x)(h:x<2 ^ i):0<=x+2 ^ i/\x+2 ^ i<2 ^ (i+1):=by
 have:=q0R i
 rw[Int.pow_succ]
 omega
theorem pow_up {x:Int}{i:Nat}(h:x<2 ^ i):x<2 ^ (i+1):=by
 have:=q0R i
 rw[Int.pow_succ]
 omega
theorem qW (x:Int){n:Int}(h:0<n):0<=x % n:=Int.emod_nonneg _ (by omega)
theorem q04 (x:Int){n:Int}(h:0<n):x % n<n:=Int.emod_lt_of_pos _ h
theorem q2C (x:Int)(t:Nat):decide (Builtin.bitAnd (x / 2 ^ t) 1=1)=bit x t:=by
 unfold bit
 rw[PyProof.Rows.bitAnd_m1]
inductive Gt where
 |plain|door (k:Int)|need (k:Int)|bar (b:Int)|wade (h k:Int)|float (h:Int)
def Gt.vs:Gt->List V
 | .plain=>[.str "plain"]
 | .door k=>[.str "door",.int k]
 | .need k=>[.str "need",.int k]
 | .bar b=>[.str "bar",.int b]
 | .wade h k=>[.str "wade",.int h,.int k]
 | .float h=>[.str "float",.int h]
def Gt.ok:Gt->Prop
 | .plain=>True
 | .door k=>0<=k/\k<12
 | .need k=>0<=k/\k<12
 | .bar b=>0<=b/\b<8
 | .wade h k=>(0<=h/\h<10)/\0<=k/\k<12
 | .float h=>0<=h/\h<10
def Gt.dk:Gt->Option Int
 | .door k=>some k
 |_=>none
def Gt.word:Gt->Str
 | .plain=>"plain"
 | .door _=>"door"
 | .need _=>"need"
 | .bar _=>"bar"
 | .wade _ _=>"wade"
 | .float _=>"float"
def Gt.ns:Gt->List Int
 | .plain=>[]
 | .door k=>[k]
 | .need k=>[k]
 | .bar b=>[b]
 | .wade h k=>[h,k]
 | .float h=>[h]
theorem Gt.vs_eq (g:Gt):g.vs= .str g.word::g.ns.map V.int:=by cases g<;>rfl
theorem Gt.flat (g:Gt):g.vs.all q3q=true:=by cases g<;>rfl
theorem q6O:("need":Str)≠"door":=by walk_at "k"
theorem q85:("bar":Str)≠"door":=by walk_at "k"
theorem q5k:("float":Str)≠"door":=by walk_at "k"
theorem q84:("plain":Str)≠"door":=by walk_at "k"
theorem q9O:("wade":Str)≠"door":=by walk_at "k"
theorem q54 (g:Gt):decide (g.word="door")=g.dk.isSome:=by
 cases g with
 |plain=>exact zq q84
 |door k=>exact zr rfl
 |need k=>exact zq q6O
 |bar k=>exact zq q85
 |wade h k=>exact zq q9O
 |float k=>exact zq q5k
theorem q9e {g:Gt}(h:g.word="door"):∃k,g= .door k:=by
 have:=q54 g
 rw[h] at this
 cases g with
 |door k=>exact⟨k,rfl⟩
 |_=>simp[Gt.dk] at this
theorem q9b {a b:Str}(h:a≠b):eqV (.str a) (.str b)=false:=by
 simp[eqV,h]
theorem qcH (g:Gt)(k:Int):eqVs g.vs [.str "door",.int k]=decide (g.dk=some k):=by
 cases g with
 |plain=>simp[eqVs,Gt.vs,Gt.dk]
 |door j=>
  simp[eqVs,Gt.vs,Gt.dk,eqV]
  rw[Bool.beq_eq_decide_eq]
 |need j=>simp[eqVs,Gt.vs,Gt.dk,q9b q6O]
 |bar j=>simp[eqVs,Gt.vs,Gt.dk,q9b q85]
 |wade h j=>simp[eqVs,Gt.vs,Gt.dk]
 |float j=>simp[eqVs,Gt.vs,Gt.dk,q9b q5k]
structure Way where
 a:Int
 b:Int
 g:Gt
 back:Bool
structure Cl where
 rooms:Int
 fst:Int
 lst:Int
 ways:List Way
 things:List (Int×Int)
 levers:List (Int×Int)
 wheels:List (Int×Int)
 bars:Int
 water:Int
structure ClOk (C:Cl):Prop where
 r1:1<=C.rooms
 r2:C.rooms<=14
 f:0<=C.fst/\C.fst<C.rooms
 l:0<=C.lst/\C.lst<C.rooms
 wl:C.ways.length<=20
 tl:C.things.length<=8
 ll:C.levers.length<=4
 vl:C.wheels.length<=4
 w:∀x∈C.ways,(0<=x.a/\x.a<C.rooms)/\(0<=x.b/\x.b<C.rooms)/\x.a≠x.b/\x.g.ok
 t:∀x∈C.things,(0<=x.1/\x.1<C.rooms)/\0<=x.2/\x.2<12
 lv:∀x∈C.levers,(0<=x.1/\x.1<C.rooms)/\1<=x.2/\x.2<=255
 wh:∀x∈C.wheels,(0<=x.1/\x.1<C.rooms)/\0<=x.2/\x.2<=9
 b:0<=C.bars/\C.bars<=255
 wa:0<=C.water/\C.water<=9
def q05 (H:Hp)(p:Addr)(x:Int×Int):Prop:=H p=some (.tup [.int x.1,.int x.2])
def q2t (H:Hp)(p:Addr)(x:Way):Prop:=∃g,H p=some (.tup [.int x.a,.int x.b,.ref g,.bl x.back])/\H g=some (.tup x.g.vs)
def Rows {α:Type}(At:Hp->Addr->α->Prop)(H:Hp)(ps:List Addr)(xs:List α):Prop:=ps.length=xs.length/\∀(i:Nat) (p:Addr) (x:α),ps[i]? =some p->xs[i]? =some x->At H p x
def q52 {α:Type}(At:Hp->Addr->α->Prop)(H:Hp)(q:Addr)(xs:List α):Prop:=∃ps,H q=some (.tup (ps.map V.ref))/\Rows At H ps xs
def q01 {α:Type}(At:Hp->Addr->α->Prop)(H:Hp)(q:Addr)(xs:List α):Prop:=∃ps,H q=some (.lst (ps.map V.ref))/\Rows At H ps xs
section
variable {α:Type}{At:Hp->Addr->α->Prop}{H H':Hp}{ps:List Addr}{xs:List α}{p q:Addr}{x:α}
theorem q05.mono (s:q0m H H'){p:Addr}{x:Int×Int}(h:q05 H p x):q05 H' p x:=s _ _ h
theorem q2t.mono (s:q0m H H'){p:Addr}{x:Way}(h:q2t H p x):q2t H' p x:=let ⟨g,h1,h2⟩:=h;⟨g,s _ _ h1,s _ _ h2⟩
theorem Rows.mono (m:∀p x,At H p x->At H' p x)(h:Rows At H ps xs):Rows At H' ps xs:=⟨h.1,fun i p x h1 h2=>m p x (h.2 i p x h1 h2)⟩
theorem Rows.nil:Rows At H [] []:=⟨rfl,fun i p x h _=>by simp at h⟩
theorem Rows.snoc (h:Rows At H ps xs)(hx:At H p x):Rows At H (ps++[p]) (xs++[x]):=by
 refine⟨by simp[h.1],fun i q y h1 h2=>?_⟩
 by_cases hi:i<ps.length
 ·rw [zS hi] at h1
  rw[zS (by rw[<-h.1];exact hi)] at h2
  exact h.2 i q y h1 h2
 ·have e:i=ps.length:=by
   have:=(yA h1).1
   simp at this
   omega
  subst e
  rw[zag (zn _)] at h1
  rw[zag (by rw[h.1];exact zn _),<-h.1] at h2
  simp at h1 h2
  rw[<-h1,<-h2]
  exact hx
theorem Rows.get (h:Rows At H ps xs){i:Nat}(hi:i<xs.length):∃p,(ps.map V.ref)[i]? =some (.ref p)/\At H p xs[i]:=by
 have hp:i<ps.length:=by rw[h.1];exact hi
 exact⟨ps[i],by simp[hp],h.2 i _ _ (by simp[hp]) (by simp[hi])⟩
theorem q52.mono (s:q0m H H')(m:∀p x,At H p x->At H' p x)(h:q52 At H q xs):q52 At H' q xs:=let ⟨ps,h1,h2⟩:=h;⟨ps,s _ _ h1,h2.mono m⟩
theorem q52.get (h:q52 At H q xs):∃vs,H q=some (.tup vs)/\vs.length=xs.length/\∀i (hi:i<xs.length),∃p,vs[i]? =some (.ref p)/\At H p xs[i]:=by
 obtain⟨ps,h1,h2⟩:=h
 exact⟨_,h1,by simp[h2.1],fun i hi=>h2.get hi⟩
end
structure ClAt (H:Hp)(c:Addr)(C:Cl):Prop where
 ex:∃w t l v,H c=some (.tup [.int C.rooms,.int C.fst,.int C.lst,.ref w,.ref t,.ref l,.ref v,.int C.bars,.int C.water])/\q52 q2t H w C.ways/\q52 q05 H t C.things/\q52 q05 H l C.levers/\q52 q05 H v C.wheels
theorem ClAt.mono {H H':Hp}(s:q0m H H'){c:Addr}{C:Cl}(h:ClAt H c C):ClAt H' c C:=by
 obtain⟨w,t,l,v,h0,h1,h2,h3,h4⟩:=h.ex
 exact⟨w,t,l,v,s _ _ h0,h1.mono s (fun _ _=>q2t.mono s),h2.mono s (fun _ _=>q05.mono s),h3.mono s (fun _ _=>q05.mono s),h4.mono s (fun _ _=>q05.mono s)⟩
def WOk (r:Int)(x:Way):Prop:=(0<=x.a/\x.a<r)/\(0<=x.b/\x.b<r)/\x.a≠x.b/\x.g.ok
def tP (C:Cl)(tk k:Int)(t:Nat):Bool:=decide ((C.things.getD t (0,0)).2=k)&&bit tk t
def dsOf (C:Cl)(w:Nat):Option Int:=(C.ways[w]?).bind fun x=>x.g.dk
def hold (C:Cl)(tk op k:Int):Int:=(cnt (tP C tk k) C.things.length:Int) - (cnt (dP (dsOf C) op k) C.ways.length:Int)
def cl (f:Int->Int):List V:=(List.range 12).map fun k:Nat=>V.int (f k)
theorem q92 (C:Cl)(k:Int):hold C 0 0 k=0:=by
 unfold hold
 rw[q9o fun i _=>by simp[tP,q4Z],q9o fun i _=>qcN _ _ _]
 rfl
theorem cl_len (f:Int->Int):(cl f).length=12:=by simp[cl]
theorem q9s {f:Int->Int}{k:Int}(h0:0<=k)(h1:k<12):atI (cl f) k=some (.int (f k)):=by
 obtain⟨j,rfl⟩:∃j:Nat,k=(j:Int):=⟨k.toNat,by omega⟩
 exact q0r (by simp[cl,show j<12 by omega])
theorem cl_ix {f:Int->Int}{k:Int}(h0:0<=k)(h1:k<12):ixN (cl f).length k=some k.toNat:=by
 rw[cl_len]
 unfold ixN
 rw[zt h0,zt (by omega)]
theorem qbm {f:Int->Int}{k v:Int}(h0:0<=k)(h1:k<12):(cl f).set k.toNat (.int v)=cl fun j=>if j=k then v else f j:=by
 unfold cl
 rw[set_map]
 refine zax fun j _=>?_
 by_cases e:(j:Int)=k
 ·rw [zt (by omega)]
  show _=V.int (if (j:Int)=k then v else f j)
  rw[zt e]
 ·rw [zo (by omega)]
  show _=V.int (if (j:Int)=k then v else f j)
  rw[zo e]
theorem q3e {f g:Int->Int}(h:∀k,0<=k->k<12->f k=g k):cl f=cl g:=by
 unfold cl
 refine zax fun j hj=>?_
 rw[za2] at hj
 rw[h j (by omega) (by omega)]
theorem cl_map (f:Int->Int):cl f=((List.range 12).map fun k:Nat=>f k).map V.int:=by simp[cl]
structure StOk (C:Cl)(rm tk op b wt:Int):Prop where
 hrm:0<=rm/\rm<C.rooms
 htk:0<=tk/\tk<2 ^ C.things.length
 hop:0<=op/\op<2 ^ C.ways.length
 dr:∀i,i<C.ways.length->bit op i=true->(dsOf C i).isSome=true
 hb:0<=b/\b<=255
 hwt:0<=wt/\wt<=9
 held:∀k,0<=k->k<12->0<=hold C tk op k
end Ce
namespace L2
open PySem PySem.Spec PyProof.Rows
def rMinL (K:W.Frag):List V->Hp->VK->Prop:=fun xs H Q=>∃(p:Addr) (ns:List Int),xs=[.ref p]/\SqL K H p (ns.map V.int)/\0<ns.length/\∀M,M∈ns->(∀a,a∈ns->M<=a)->Q (.int M) H
def rSumL (K:W.Frag):List V->Hp->VK->Prop:=fun xs H Q=>∃(p:Addr) (ns:List Int),xs=[.ref p]/\SqL K H p (ns.map V.int)/\Q (.int ns.sum) H
section
variable {X:Cx}
theorem minLK (K:W.Frag)(hc:X.calm=true)(hK:X.K=K:=by rfl):q1g X (.builtin "min") (rMinL K):=by
 subst hK
 intro pins s σ H xs us Q I r h
 obtain⟨p,ns,rfl,hq,hne,q⟩:=h
 obtain⟨u,rfl,rx⟩:=q2U r
 cases rx
 obtain⟨its,rv,pl,hz⟩:=I.list hq
 have hi:=q2z rv
 have hl:=pl.isList
 obtain⟨ys,e⟩:=hi.allInts.items
 have hns:ns=ys.toList.map (·.1):=by rw[<-hi.numsOf,<-nums_intItems,<-e]
 have hsz:0<ys.size:=by
  have h3:=hne
  rw[hns,yC,zai] at h3
  exact h3
 rw[e] at hl
 refine min_intList (I.ok.hd hc) hl hsz fun v h' tk hv hk=>?_
 obtain⟨t,rfl⟩:=intItems_at hv
 obtain⟨h1,h2⟩:=argBest_lt (numAt ys) (ys.size - 1)
 refine⟨.int _,H,I.kept (t':=tk) hk,⟨_,rfl⟩,q _ ?_ fun a ha=>?_⟩
 ·rw [hns,numAt_eq]
  exact getD_mem (by rw[yC,zai];omega)
 ·rw [hns] at ha
  obtain⟨j,hj,rfl⟩:=mem_getD ha
  rw[yC,zai] at hj
  rw[<-numAt_eq]
  exact h2 j (by omega)
theorem sumLK (K:W.Frag)(hc:X.calm=true)(hK:X.K=K:=by rfl):q1g X (.builtin "sum") (rSumL K):=by
 subst hK
 intro pins s σ H xs us Q I r h
 obtain⟨p,ns,rfl,hq,q⟩:=h
 obtain⟨u,rfl,rx⟩:=q2U r
 cases rx
 obtain⟨its,rv,pl,hz⟩:=I.list hq
 have hi:=q2z rv
 have hl:=pl.isList
 obtain⟨ys,e⟩:=hi.allInts.items
 have hns:ns=ys.toList.map (·.1):=by rw[<-hi.numsOf,<-nums_intItems,<-e]
 rw[e] at hl
 refine sum_intListG (I.ok.hd hc) hl fun h' tk t' hk=>⟨.int ns.sum,H,I.kept (t':=tk) hk,⟨t',?_⟩,q⟩
 rw[preSum_eq,zbz (by simp),hns]
end
section
variable {H:Hp}{Q:VK}{K:W.Frag}{σ:St}
theorem qbO {r r':R2}{ta tb tc:TE}(q:ta σ H fun x H1=>tb σ H1 fun y H2=>r x y H2 fun z H3=>∃k,z= .bl k/\(if k=true then tc σ H3 fun w' H4=>r' y w' H4 Q else Q (.bl false) H3)):qb3 r r' ta tb tc σ H Q:=q
theorem r_minL {p:Addr}{ns:List Int}(h:SqL K H p (ns.map V.int))(hn:0<ns.length)(q:∀M,M∈ns->(∀a,a∈ns->M<=a)->Q (.int M) H):rMinL K [.ref p] H Q:=⟨p,ns,rfl,h,hn,q⟩
theorem r_sumL {p:Addr}{ns:List Int}(h:SqL K H p (ns.map V.int))(q:Q (.int ns.sum) H):rSumL K [.ref p] H Q:=⟨p,ns,rfl,h,q⟩
end
structure LaidM (K:W.Frag)(C:Addr)(m qual:Str)(st:Stmt)(ps:List Str):Prop where
 ex:∃f fd,Fun K m qual st f fd/\Meth K C m f/\q1q K fd ps []
structure LaidI (K:W.Frag)(mg:Str->Option Value)(x:Str)(C:Addr)(qual:Str)(st:Stmt)(ps:List Str):Prop where
 ex:∃f fd,Fun K "__init__" qual st f fd/\Mk K C f/\q1q K fd ps []
 at_:mg x=some (.ref C)
structure LaidC (K:W.Frag)(mg:Str->Option Value)(x m qual:Str)(st:Stmt)(ps:List Str):Prop where
 ex:∃C f fd,mg x=some (.ref C)/\Fun K m qual st f fd/\CMeth K C m f/\q1q K fd ps []
section
variable {P:Program}{w:World}{K:W.Frag}{mg:Str->Option Value}{base:Heap}
theorem LaidM.vm {C:Addr}{m qual:Str}{st:Stmt}{N ps:List Str}{k:Nat}{sp:Sp}(L:LaidM K C m qual st ps)(cl:Cls K C)(S:FnScope N ps (qh st))(len:∀vs H Q E,sp vs H Q E->vs.length=ps.length)
  (hbody:∀(f:Addr) (cdv:Value) (A:Around) (outer:List Env) (s:Shared) (H:Hp) (vs:List V) (Q:VK) (E:XK),Room k (A.deeper (envOfC qual (qh st) s.heap.objs.size f cdv))->sp vs H Q E->
   ∃t,PSs (cxOf CX0 P w K mg base N qual (qh st) f cdv A outer s H E).nox (q0c st) t/\t {nx:=fun _ H'=>Q .non H',rt:=Q} (start N vs) H):VMeth P w K mg base (k+1) C m ps sp:=by
 obtain⟨f,fd,F,hm,b⟩:=L.ex
 exact⟨cl,f,fd,hm,F.ok S len (fun cdv A outer s H vs Q E hr h=>hbody f cdv A outer s H vs Q E hr h),b⟩
theorem LaidI.makes {x:Str}{C:Addr}{qual:Str}{st:Stmt}{N ps:List Str}{k:Nat}{sp:Sp}(L:LaidI K mg x C qual st ps)(S:FnScope N ps (qh st))(len:∀vs H Q E,sp vs H Q E->vs.length=ps.length)
  (hbody:∀(f:Addr) (cdv:Value) (A:Around) (outer:List Env) (s:Shared) (H:Hp) (vs:List V) (Q:VK) (E:XK),Room k (A.deeper (envOfC qual (qh st) s.heap.objs.size f cdv))->sp vs H Q E->
   ∃t,PSs (cxOf CX0 P w K mg base N qual (qh st) f cdv A outer s H E).nox (q0c st) t/\t {nx:=fun _ H'=>Q .non H',rt:=Q} (start N vs) H):Makes P w K mg base (k+1) x C ps sp:=by
 obtain⟨f,fd,F,M,b⟩:=L.ex
 exact⟨⟨f,fd,M,F.ok S len (fun cdv A outer s H vs Q E hr h=>hbody f cdv A outer s H vs Q E hr h),b⟩,L.at_⟩
theorem LaidC.cc {x m qual:Str}{st:Stmt}{N ps:List Str}{k:Nat}{sp:Sp}(L:LaidC K mg x m qual st ps)(S:FnScope N ps (qh st))(len:∀vs H Q E,sp vs H Q E->vs.length=ps.length)
  (hbody:∀(f:Addr) (cdv:Value) (A:Around) (outer:List Env) (s:Shared) (H:Hp) (vs:List V) (Q:VK) (E:XK),Room k (A.deeper (envOfC qual (qh st) s.heap.objs.size f cdv))->sp vs H Q E->
   ∃t,PSs (cxOf CX0 P w K mg base N qual (qh st) f cdv A outer s H E).nox (q0c st) t/\t {nx:=fun _ H'=>Q .non H',rt:=Q} (start N vs) H):CCal P w K mg base (k+1) x m ps sp:=by
 obtain⟨C,f,fd,hm,F,cm,b⟩:=L.ex
 exact⟨C,f,fd,hm,cm,F.ok S len (fun cdv A outer s H vs Q E hr h=>hbody f cdv A outer s H vs Q E hr h),b⟩
end
def rFld (K:W.Frag)(f:Str)(x:V)(H:Hp)(Q:VK):Prop:=∃a C dx fs v,x= .ref a/\H a=some (.ins C dx fs)/\Cls K C/\qK K C f/\fs.lookup f=some v/\Q v H
def rSetF (K:W.Frag)(f:Str)(x y:V)(H:Hp)(R:Hp->Prop):Prop:=∃a C dx fs,x= .ref a/\H a=some (.ins C dx fs)/\Cls K C/\qK K C f/\fs.length<1000/\R (upd H a (.ins C dx (putF f y fs)))
def rVM (P:Program)(w:World)(K:W.Frag)(mg:Str->Option Value)(base:Heap)(k:Nat)(m:Str)(σ:St)(t:TA)(x:V)(H:Hp)(Q:VK):Prop:=∃a C dx fs ps sp,x= .ref a/\H a=some (.ins C dx fs)/\VMeth P w K mg base k C m ps sp/\fs.lookup m=none/\t σ H fun vs H2=>sp (x::vs) H2 Q E0
section
variable {σ:St}{H:Hp}{Q:VK}{K:W.Frag}{ta tv:TE}{t:TA}{f m:Str}{nx bk ct:St->Hp->Prop}{rt:VK}{P:Program}{w:World}{mg:Str->Option Value}{base:Heap}{k:Nat}
theorem r_fld0 (q:ta σ H fun x H1=>rFld K f x H1 Q):tFld K ta f σ H Q:=q
theorem qbI (q:tv σ H fun y H1=>ta σ H1 fun x H2=>rSetF K f x y H2 fun H3=>nx σ H3):sFld K ta tv f ⟨nx,rt,bk,ct⟩ σ H:=q
theorem r_vm0 (q:ta σ H fun x H1=>rVM P w K mg base k m σ t x H1 Q):tVM P w K mg base k m ta t σ H Q:=q
theorem q1G {a C dx:Addr}{fs:List (Str×V)}{v:V}(h:H a=some (.ins C dx fs))(c:Cls K C)(n:qK K C f)(l:fs.lookup f=some v)(q:Q v H):rFld K f (.ref a) H Q:=⟨a,C,dx,fs,v,rfl,h,c,n,l,q⟩
theorem q2E {a C dx:Addr}{fs:List (Str×V)}{y:V}{R:Hp->Prop}(h:H a=some (.ins C dx fs))(c:Cls K C)(n:qK K C f)(l:fs.length<1000)(q:R (upd H a (.ins C dx (putF f y fs)))):rSetF K f (.ref a) y H R:=⟨a,C,dx,fs,rfl,h,c,n,l,q⟩
theorem r_vm {a C dx:Addr}{fs:List (Str×V)}{ps:List Str}{sp:Sp}(h:H a=some (.ins C dx fs))(v:VMeth P w K mg base k C m ps sp)(l:fs.lookup m=none)(q:t σ H fun vs H2=>sp (.ref a::vs) H2 Q E0):rVM P w K mg base k m σ t (.ref a) H Q:=⟨a,C,dx,fs,ps,sp,rfl,h,v,l,q⟩
theorem r_make {C:Addr}{sp:Sp}{E:XK}(q:t σ H fun vs H1=>∀x dx,H1 x=none->H1 dx=none->dx≠x->sp (.ref x::(vs++[])) (upd (upd H1 dx (.own x)) x (.ins C dx [])) (fun v H2=>v= .non/\Q (.ref x) H2) E):q81 C sp [] E t σ H Q:=q
end
section
variable {X:Cx}
theorem q1C {o value:Expr}{ta tv:TE}{f:Str}{pos pos':Pos}(K:W.Frag)(ha:PE X o ta)(hv:PE X value tv)(hs:swapsWith value (some (.Attribute o f pos')) pos.line X.env=pure false)(hK:X.K=K:=by rfl):PS X (.Assign [.Attribute o f pos'] value pos) (sFld K ta tv f):=by subst hK;exact ps_fld ha hv hs
end
inductive Deq (K:W.Frag)(H:Hp):Nat->V->V->Bool->Prop where
 |flat {n:Nat} {x y:V} (fx:q3q x=true) (fy:q3q y=true):Deq K H n x y (eqV x y)
 |same {n:Nat} (a:Addr):Deq K H n (.ref a) (.ref a) true
 | tup {n:Nat} {a b:Addr} {xs ys:List V} {e:Nat->Bool} (hne:a≠b) (ha:SqT K H a xs) (hb:SqT K H b ys) (h:∀j,j<xs.length->j<ys.length->Deq K H n (xs.getD j .non) (ys.getD j .non) (e j)):
   Deq K H (n+1) (.ref a) (.ref b) ((List.range (min xs.length ys.length)).all e&&xs.length==ys.length)
 | lst {n:Nat} {a b:Addr} {xs ys:List V} {e:Nat->Bool} (hne:a≠b) (ha:SqL K H a xs) (hb:SqL K H b ys) (hl:xs.length=ys.length) (h:∀j,j<xs.length->j<ys.length->Deq K H n (xs.getD j .non) (ys.getD j .non) (e j)):
   Deq K H (n+1) (.ref a) (.ref b) ((List.range xs.length).all e)
 |lstn {n:Nat} {a b:Addr} {xs ys:List V} (hne:a≠b) (ha:SqL K H a xs) (hb:SqL K H b ys) (hl:xs.length≠ys.length):Deq K H (n+1) (.ref a) (.ref b) false
section
variable {X:Cx}{pins:List (Addr×Obj)}{σ:St}{H:Hp}{s:Shared}
theorem q5Z (I:Inv X pins σ H s){n:Nat}{x y:V}{b:Bool}(d:Deq X.K H n x y b):∀{A:Around} {u v:Value},A.units+n<cLine->RelV x u->RelV y v->SeqAt.EqAt A s u v b:=by
 induction d with
 |flat fx fy=>intro A u v _ rx ry;exact q9c rx ry fx fy
 |same a=>intro A u v _ rx ry;cases rx;cases ry;exact SeqAt.EqAt.same _
 | @tup n a b xs ys e hne ha hb h ih=>
  intro A u v hu rx ry
  cases rx
  cases ry
  obtain⟨ia,ra,pa,_⟩:=I.tuple ha
  obtain⟨ib,rb,pb,_⟩:=I.tuple hb
  have la:=ra.length
  have lb:=rb.length
  refine zb3 hne ?_
  have q:=SeqAt.RcAt.tuples (A:=A) (e:=e) (show s.heap.IsTuple a ia.toArray from pa) (show s.heap.IsTuple b ib.toArray from pb) (by omega) (fun j h1 h2=>ih j (by simpa[la] using h1) (by simpa[lb] using h2) (by show A.units+1+n<cLine;omega) (q0F ra h1) (q0F rb h2))
  simpa[la,lb] using q
 | @lst n a b xs ys e hne ha hb hl h ih=>
  intro A u v hu rx ry
  cases rx
  cases ry
  obtain⟨ia,ra,pa,_⟩:=I.list ha
  obtain⟨ib,rb,pb,_⟩:=I.list hb
  have la:=ra.length
  have lb:=rb.length
  refine zb3 hne ?_
  have q:=SeqAt.RcAt.lists (A:=A) (e:=e) pa.isList pb.isList (by simp;omega) (by omega) (fun j h1 h2=>ih j (by simpa[la] using h1) (by simpa[lb] using h2) (by show A.units+1+n<cLine;omega) (q0F ra h1) (q0F rb h2))
  simpa[la] using q
 | @lstn n a b xs ys hne ha hb hl=>
  intro A u v hu rx ry
  cases rx
  cases ry
  obtain⟨ia,ra,pa,_⟩:=I.list ha
  obtain⟨ib,rb,pb,_⟩:=I.list hb
  have la:=ra.length
  have lb:=rb.length
  exact zb3 hne (SeqAt.RcAt.lists_lengths pa.isList pb.isList (by simp;omega) (by omega))
end
def rEqD (K:W.Frag)(n:Nat):R2:=fun x y H Q=>
 (∃p q xs ys e,x= .ref p/\y= .ref q/\SqT K H p xs/\SqT K H q ys/\(∀j,j<xs.length->j<ys.length->Deq K H n (xs.getD j .non) (ys.getD j .non) (e j))/\Q (.bl ((List.range (min xs.length ys.length)).all e&&xs.length==ys.length)) H)\/
 (∃p q xs ys e,x= .ref p/\y= .ref q/\SqL K H p xs/\SqL K H q ys/\xs.length=ys.length/\(∀j,j<xs.length->j<ys.length->Deq K H n (xs.getD j .non) (ys.getD j .non) (e j))/\Q (.bl ((List.range xs.length).all e)) H)\/
 (∃p q xs ys,x= .ref p/\y= .ref q/\SqL K H p xs/\SqL K H q ys/\xs.length≠ys.length/\Q (.bl false) H)
def rNeD (K:W.Frag)(n:Nat):R2:=fun x y H Q=>
 (∃p q xs ys e,x= .ref p/\y= .ref q/\SqL K H p xs/\SqL K H q ys/\xs.length=ys.length/\(∀j,j<xs.length->j<ys.length->Deq K H n (xs.getD j .non) (ys.getD j .non) (e j))/\Q (.bl (!(List.range xs.length).all e)) H)\/
 (∃p q xs ys,x= .ref p/\y= .ref q/\SqL K H p xs/\SqL K H q ys/\xs.length≠ys.length/\Q (.bl true) H)
section
variable {X:Cx}
theorem op_eqD (K:W.Frag)(n:Nat)(hu:X.A.units+n+1<cLine)(hK:X.K=K:=by rfl):OpR X (compareOp .Eq) (rEqD K n):=by
 subst hK
 intro pins s σ H x y v u Q I rx ry h
 rcases h with⟨p,q,xs,ys,e,rfl,rfl,hp,hq,hd,k⟩|⟨p,q,xs,ys,e,rfl,rfl,hp,hq,hl,hd,k⟩|⟨p,q,xs,ys,rfl,rfl,hp,hq,hl,k⟩
 ·cases rx
  cases ry
  obtain⟨ia,ra,pa,_⟩:=I.tuple hp
  obtain⟨ib,rb,pb,_⟩:=I.tuple hq
  have la:=ra.length
  have lb:=rb.length
  refine SeqAt.eq_tupleAt (e:=e) (show s.heap.IsTuple p ia.toArray from pa) (show s.heap.IsTuple q ib.toArray from pb) (by omega) (fun j h1 h2=>q5Z I (hd j (by simpa[la] using h1) (by simpa[lb] using h2)) (by show X.A.units+1+n<cLine;omega) (q0F ra h1) (q0F rb h2)) ⟨.bl _,H,I,?_,k⟩
  show Value.bool _=Value.bool _
  simp[la,lb]
 ·cases rx
  cases ry
  obtain⟨ia,ra,pa,_⟩:=I.list hp
  obtain⟨ib,rb,pb,_⟩:=I.list hq
  have la:=ra.length
  have lb:=rb.length
  refine SeqAt.eq_listAt (e:=e) pa.isList pb.isList (by simp;omega) (by omega) (fun j h1 h2=>q5Z I (hd j (by simpa[la] using h1) (by simpa[lb] using h2)) (by show X.A.units+1+n<cLine;omega) (q0F ra h1) (q0F rb h2)) ⟨.bl _,H,I,?_,k⟩
  show Value.bool _=Value.bool _
  simp[la]
 ·cases rx
  cases ry
  obtain⟨ia,ra,pa,_⟩:=I.list hp
  obtain⟨ib,rb,pb,_⟩:=I.list hq
  have la:=ra.length
  have lb:=rb.length
  exact SeqAt.eq_list_lengthsAt pa.isList pb.isList (by simp;omega) (by omega) ⟨.bl false,H,I,rfl,k⟩
theorem q71 (K:W.Frag)(n:Nat)(hu:X.A.units+n+1<cLine)(hK:X.K=K:=by rfl):OpR X (compareOp .NotEq) (rNeD K n):=by
 subst hK
 intro pins s σ H x y v u Q I rx ry h
 rcases h with⟨p,q,xs,ys,e,rfl,rfl,hp,hq,hl,hd,k⟩|⟨p,q,xs,ys,rfl,rfl,hp,hq,hl,k⟩
 ·cases rx
  cases ry
  obtain⟨ia,ra,pa,_⟩:=I.list hp
  obtain⟨ib,rb,pb,_⟩:=I.list hq
  have la:=ra.length
  have lb:=rb.length
  refine SeqAt.RcNeAt.lists (e:=e) pa.isList pb.isList (by simp;omega) (by omega) (fun j h1 h2=>q5Z I (hd j (by simpa[la] using h1) (by simpa[lb] using h2)) (by show X.A.units+1+n<cLine;omega) (q0F ra h1) (q0F rb h2)) _ _ _ _ ⟨.bl _,H,I,?_,k⟩
  show Value.bool _=Value.bool _
  simp[la]
 ·cases rx
  cases ry
  obtain⟨ia,ra,pa,_⟩:=I.list hp
  obtain⟨ib,rb,pb,_⟩:=I.list hq
  have la:=ra.length
  have lb:=rb.length
  exact SeqAt.RcNeAt.lists_lengths pa.isList pb.isList (by simp;omega) (by omega) _ _ _ _ ⟨.bl true,H,I,rfl,k⟩
end
section
variable {X:Cx}{a b e:Expr}{ta tb te:TE}{pos:Pos}
theorem q6v (x y:Str):(x++y).length=x.length+y.length:=strLen_append x y
end
section
variable {X:Cx}{k k':Nat}{x:Str}{ps ks:List Str}{sp:Sp}{p pos:Pos}{e:Expr}{es:List Expr}{kws:List Keyword}{t tk:TA}{st:Stmt}{ds ds':List Value}{dvs:List V}
theorem r_bm0 {K:W.Frag}{T:String}{r:V->List V->Hp->VK->Prop}{to:TE}{σ:St}{H:Hp}{Q:VK}(q:to σ H fun x H1=>tyV K T x H1/\r x [] H1 Q):tBM0 K T r to σ H Q:=q
end
end L2
namespace HT
open PySem PyProof.Rows
section
variable {prog:Program}{w:World}{A:Around}{E:Value->Shared->Prop}{s:Shared}
theorem qaV {t b:Addr}{vs ws:List Value}{Q:Value->Shared->Prop}(ht:IsTup s.heap t vs.toArray)(hb:IsTup s.heap b ws.toArray)(hv:vs=[])(h:Q (.ref b) s):wpAny (model prog w) A (binaryOp .Add (.ref t) (.ref b)) Q E s:=by
 obtain⟨⟨cls,dd,data,sl⟩,ho,hc,n,hd⟩:=id ht
 obtain⟨⟨cls2,dd2,data2,sl2⟩,ho2,hc2,n2,hd2⟩:=id hb
 simp only at hc hd hc2 hd2
 subst hc hd hc2 hd2
 exact concat_meets ⟨_,ho,rfl⟩ ⟨_,ho2,rfl⟩ noFill_tuple_add seq_tuple_add zbx zbs (zbo _ _)
   (tuple_addW0 t b vs.toArray ws.toArray n n2 dd dd2 sl sl2 (by simp[hv])) ⟨ho,ho2,h⟩
end
end HT
namespace L2
open PySem PySem.Spec PyProof.Rows
def q5N (K:W.Frag):R2:=fun x y H Q=>∃a b xs ys,x= .ref a/\y= .ref b/\SqT K H a xs/\SqT K H b ys/\xs.length+ys.length<=sizeLine/\
 (xs=[]->Q (.ref b) H)/\(xs≠[]->ys=[]->Q (.ref a) H)/\(xs≠[]->ys≠[]->∀p,H p=none->Q (.ref p) (upd H p (.tup (xs++ys))))
section
variable {X:Cx}
theorem q0s (K:W.Frag)(hK:X.K=K:=by rfl):OpR X (binaryOp .Add) (q5N K):=by
 subst hK
 intro pins s σ H x y v u Q I rx ry h
 obtain⟨a,b,xs,ys,e1,e2,ha,hb,hz,q0,q1,q2⟩:=h
 by_cases hx:xs=[]
 ·subst e1 e2
  cases rx
  cases ry
  obtain⟨its,r1,p1,_⟩:=I.tuple ha
  obtain⟨its2,r2,p2,_⟩:=I.tuple hb
  exact HT.qaV p1 p2 (r1.nil_iff.mpr hx) ⟨.ref b,H,I,rfl,q0 hx⟩
 ·exact q8H pins s σ H x y v u Q I rx ry ⟨a,b,xs,ys,e1,e2,ha,hb,hx,hz,q1 hx,q2 hx⟩
end
section
variable {H:Hp}{Q:VK}{K:W.Frag}
theorem qbQ {p q:Addr}{ys:List V}(h1:SqT K H p [])(h2:SqT K H q ys)(hz:ys.length<=sizeLine)(k:Q (.ref q) H):q5N K (.ref p) (.ref q) H Q:=
 ⟨p,q,[],ys,rfl,rfl,h1,h2,by simpa using hz,fun _=>k,fun e=>(e rfl).elim,fun e=>(e rfl).elim⟩
theorem qbP {p q:Addr}{x:V}{xs:List V}(h1:SqT K H p (x::xs))(h2:SqT K H q [])(hz:(x::xs).length<=sizeLine)(k:Q (.ref p) H):q5N K (.ref p) (.ref q) H Q:=
 ⟨p,q,x::xs,[],rfl,rfl,h1,h2,by simpa using hz,fun e=>by simp at e,fun _ _=>k,fun _ e=>(e rfl).elim⟩
theorem q2o {p q:Addr}{x y:V}{xs ys:List V}(h1:SqT K H p (x::xs))(h2:SqT K H q (y::ys))(hz:Nat.ble ((x::xs).length+(y::ys).length) sizeLine=true)(k:∀r,H r=none->Q (.ref r) (upd H r (.tup (x::xs++y::ys)))):q5N K (.ref p) (.ref q) H Q:=
 ⟨p,q,x::xs,y::ys,rfl,rfl,h1,h2,Nat.le_of_ble_eq_true hz,fun e=>by simp at e,fun _ e=>by simp at e,fun _ _=>k⟩
end
theorem qcw {i:Int}(h:i.natAbs.log2<1920):(Str.ofString (toString i)).length<=1921:=int_text_len_1921 h
end L2
namespace Ce
open PySem L2
def dbs (ds:Nat->Option Int):Nat->Int
 |0=>0
 |n+1=>dbs ds n+(if (ds n).isSome=true then 2 ^ n else 0)
theorem q3d (ds:Nat->Option Int):∀n,0<=dbs ds n/\dbs ds n<2 ^ n
 |0=>⟨Int.le_refl 0,by show(0:Int)<2 ^ 0;decide⟩
 |n+1=>by
  have h:=q3d ds n
  show 0<=dbs ds n+_/\dbs ds n+_<_
  by_cases e:(ds n).isSome=true
  ·rw [zt e];exact qa4 h.1 h.2
  ·rw [zo e,zbq];exact⟨h.1,pow_up h.2⟩
theorem q6C (ds:Nat->Option Int):∀n w,w<n->bit (dbs ds n) w=(ds w).isSome
 |0,w,h=>by omega
 |n+1,w,h=>by
  have hr:=q3d ds n
  show bit (dbs ds n+_) w=_
  by_cases hw:w<n
  ·have ih:=q6C ds n w hw
   by_cases e:(ds n).isSome=true
   ·rw [zt e,q7P hw];exact ih
   ·rw [zo e,zbq];exact ih
  ·have hwn:w=n:=by omega
   subst hwn
   by_cases e:(ds w).isSome=true
   ·rw [zt e,q7Q hr.1 hr.2,e]
   ·rw [zo e,zbq,q9F hr.1 hr.2 (zn _)]
    simpa using e
theorem q1y {x:Int}(h:0<=x)(t:Nat):bit x t=x.toNat.testBit t:=by
 unfold bit
 rw[Nat.testBit_eq_decide_div_mod_eq]
 obtain⟨n,rfl⟩:∃n:Nat,x=(n:Int):=⟨x.toNat,by omega⟩
 rw[zp]
 congr 1
 have e:((n:Int) / 2 ^ t % 2=1)=((((n / 2 ^ t % 2:Nat):Int))=((1:Nat):Int)):=by
  rw[Int.natCast_emod,Int.natCast_ediv,zbM]
  rfl
 rw[e,Int.natCast_inj]
theorem q9G {x y:Int}(hx:0<=x)(hy:0<=y):Builtin.bitAnd x y=x↔∀t,bit x t=true->bit y t=true:=by
 rw[PyProof.Rows.bitAnd_pp hx hy]
 have e:((x.toNat &&& y.toNat:Nat):Int)=x↔x.toNat &&& y.toNat=x.toNat:=by omega
 rw[e]
 constructor
 ·intro h t ht
  rw[q1y hx] at ht
  rw[q1y hy]
  have:=zae (fun n=>n.testBit t) h
  simp only[Nat.testBit_and,ht,Bool.true_and] at this
  exact this
 ·intro h
  apply Nat.eq_of_testBit_eq
  intro t
  rw[Nat.testBit_and]
  cases ht:x.toNat.testBit t with
  |false=>rfl
  |true=>
   have:=h t (by rw[q1y hx];exact ht)
   rw[q1y hy] at this
   rw[this];rfl
def hasB (x y:Int):Bool:=(decide (0<=x)&&decide (x<=y))&&decide (Builtin.bitOr x y=y)
theorem qaf {x y:Int}:(Builtin.bitOr x y=y)↔Builtin.bitAnd x y=x:=by
 rw[PyProof.Rows.bitOr_and]
 omega
theorem qaH {x:Int}{n:Nat}:hasB x (2 ^ n - 1)=decide (0<=x/\x<2 ^ n):=by
 unfold hasB
 by_cases h:0<=x/\x<2 ^ n
 ·have e:Builtin.bitOr x (2 ^ n - 1)=2 ^ n - 1:=by
   rw[qaf,PySem.W.kbt_mask,zce h.1 h.2]
  rw[zr e,zr h,zr h.1,zr (by omega:x<=2 ^ n - 1)]
  rfl
 ·rw [zq h]
  by_cases h0:0<=x
  ·rw [zq (p:=x<=2 ^ n - 1) (fun z=>h ⟨h0,by omega⟩)]
   simp
  ·rw [zq h0]
   simp
def drs (ds:Nat->Option Int)(m:Nat)(op:Int):Bool:=(List.range m).all fun w=> !bit op w||(ds w).isSome
theorem q4t {ds:Nat->Option Int}{op:Int}{m:Nat}:hasB op (dbs ds m)=(decide (0<=op/\op<2 ^ m)&&drs ds m op):=by
 have hr:=q3d ds m
 rw[zP]
 unfold hasB drs
 simp only[Bool.and_eq_true,decide_eq_true_eq,List.all_eq_true,List.mem_range,Bool.or_eq_true,Bool.not_eq_true']
 constructor
 ·rintro ⟨⟨h0,h1⟩,h2⟩
  rw[qaf,q9G h0 hr.1] at h2
  refine⟨⟨h0,by omega⟩,fun w hw=>?_⟩
  cases hb:bit op w with
  |false=>exact .inl rfl
  |true=>
   have:=h2 w hb
   rw[q6C ds m w hw] at this
   exact .inr this
 ·rintro ⟨⟨h0,h1⟩,h2⟩
  have hs:Builtin.bitAnd op (dbs ds m)=op:=by
   rw[q9G h0 hr.1]
   intro t ht
   by_cases htm:t<m
   ·rw [q6C ds m t htm]
    rcases h2 t htm with z|z
    ·rw [z] at ht;cases ht
    ·exact z
   ·rw [q9F h0 h1 (by omega)] at ht
    cases ht
  refine⟨⟨h0,?_⟩,qaf.mpr hs⟩
  have:=(zci op hr.1).2
  omega
def q2s (C:Cl)(tk op:Int):Bool:=(List.range 12).all fun k:Nat=>decide (0<=hold C tk op k)
theorem qcp {ns:List Int}{M:Int}(h1:M∈ns)(h2:∀a,a∈ns->M<=a):decide (0<=M)=ns.all fun a=>decide (0<=a):=by
 rw[zP]
 simp only[decide_eq_true_eq,List.all_eq_true]
 exact⟨fun h a ha=>by have:=h2 a ha;omega,fun h=>h M h1⟩
theorem qaE (C:Cl)(tk op:Int):(((List.range 12).map fun k:Nat=>hold C tk op k).all fun a=>decide (0<=a))=q2s C tk op:=by
 unfold q2s
 rw[List.all_map]
 rfl
def stOk (C:Cl):List Int->Bool
 |[rm,tk,op,b,wt]=>((((decide (0<=rm/\rm<C.rooms)&&decide (0<=tk/\tk<2 ^ C.things.length))&&(decide (0<=op/\op<2 ^ C.ways.length)&&drs (dsOf C) C.ways.length op))&&decide (0<=b/\b<256))&&decide (0<=wt/\wt<10))&&q2s C tk op
 |_=>false
theorem q4E {C:Cl}{xs:List Int}(h:¬xs.length=5):stOk C xs=false:=by
 match xs,h with
 |[],_=>rfl
 |[_],_=>rfl
 |[_,_],_=>rfl
 |[_,_,_],_=>rfl
 |[_,_,_,_],_=>rfl
 |[_,_,_,_,_],h=>exact absurd rfl h
 |_::_::_::_::_::_::_,_=>rfl
theorem q3L {C:Cl}{rm tk op b wt:Int}:stOk C [rm,tk,op,b,wt]=(((((decide (0<=rm/\rm<C.rooms)&&decide (0<=tk/\tk<2 ^ C.things.length))&&(decide (0<=op/\op<2 ^ C.ways.length)&&drs (dsOf C) C.ways.length op))&&decide (0<=b/\b<256))&&decide (0<=wt/\wt<10))&&q2s C tk op):=rfl
theorem q4D {C:Cl}(ok:ClOk C):StOk C C.fst 0 0 C.bars C.water:=
 ⟨ok.f,⟨by decide,q0R _⟩,⟨by decide,q0R _⟩,fun i _ hb=>(by rw[q4Z] at hb;cases hb),ok.b,ok.wa,fun k _ _=>(by rw[q92];exact Int.le_refl 0)⟩
end Ce
namespace Ce
open PySem L2
def q3W (g:Gt)(f:Int->Int)(op:Bool)(bars wt:Int):Bool:=match g with
 | .plain=>true
 | .door _=>op
 | .need k=>decide (0<f k)
 | .bar b=>bit bars b.toNat
 | .wade h k=>decide (wt<=h)||decide (0<f k)
 | .float h=>decide (h<=wt)
inductive Wd where
 |go|pull|take|turn|unlock
 deriving DecidableEq
def Wd.str:Wd->Str
 | .go=>"go"
 | .pull=>"pull"
 | .take=>"take"
 | .turn=>"turn"
 | .unlock=>"unlock"
def Wd.part:Wd->Int
 | .go=>3
 | .pull=>5
 | .take=>4
 | .turn=>6
 | .unlock=>3
structure Sd where
 rm:Int
 tk:Int
 op:Int
 b:Int
 wt:Int
def Sd.vs (s:Sd):List V:=[.int s.rm,.int s.tk,.int s.op,.int s.b,.int s.wt]
def Sd.ok (C:Cl)(s:Sd):Prop:=StOk C s.rm s.tk s.op s.b s.wt
def q0W (x:Way)(rm:Int):Bool:=decide (rm=x.a)||(decide (rm=x.b)&&x.back)
def canB (C:Cl)(s:Sd)(i:Nat):Wd->Bool
 | .go=>match C.ways[i]? with
  |some x=>q0W x s.rm&&q3W x.g (hold C s.tk s.op) (bit s.op i) s.b s.wt
  |none=>false
 | .pull=>match C.levers[i]? with
  |some x=>decide (s.rm=x.1)
  |none=>false
 | .take=>match C.things[i]? with
  |some x=>decide (s.rm=x.1)&& !bit s.tk i
  |none=>false
 | .turn=>match C.wheels[i]? with
  |some x=>decide (s.rm=x.1)&& !decide (s.wt=x.2)
  |none=>false
 | .unlock=>match C.ways[i]? with
  |some x=>match x.g.dk with
   |some k=>(q0W x s.rm&& !bit s.op i)&&decide (0<hold C s.tk s.op k)
   |none=>false
  |none=>false
def q1E (C:Cl)(s:Sd)(i:Nat):Wd->Sd
 | .go=>match C.ways[i]? with
  |some x=>{s with rm:=if s.rm=x.a then x.b else x.a}
  |none=>s
 | .pull=>match C.levers[i]? with
  |some x=>{s with b:=Builtin.bitXor s.b x.2}
  |none=>s
 | .take=>{s with tk:=s.tk+2 ^ i}
 | .turn=>match C.wheels[i]? with
  |some x=>{s with wt:=x.2}
  |none=>s
 | .unlock=>{s with op:=s.op+2 ^ i}
def Cl.num (C:Cl):Wd->Nat
 | .go=>C.ways.length
 | .pull=>C.levers.length
 | .take=>C.things.length
 | .turn=>C.wheels.length
 | .unlock=>C.ways.length
def canD (C:Cl)(s:Sd)(d:Wd)(n:Int):Bool:= !decide (s.rm=C.lst)&&(decide (0<=n)&&canB C s n.toNat d)
def q1p (C:Cl)(s:Sd)(d:Wd)(n:Int):Sd:=q1E C s n.toNat d
theorem q9v {C:Cl}{s:Sd}{i:Nat}{d:Wd}(h:canB C s i d=true):i<C.num d:=by
 cases d<;>simp only[canB] at h
 ·cases e:C.ways[i]? with
  |none=>rw[e] at h;simp at h
  |some x=>exact(yA e).1
 ·cases e:C.levers[i]? with
  |none=>rw[e] at h;simp at h
  |some x=>exact(yA e).1
 ·cases e:C.things[i]? with
  |none=>rw[e] at h;simp at h
  |some x=>exact(yA e).1
 ·cases e:C.wheels[i]? with
  |none=>rw[e] at h;simp at h
  |some x=>exact(yA e).1
 ·cases e:C.ways[i]? with
  |none=>rw[e] at h;simp at h
  |some x=>exact(yA e).1
theorem q61 {C:Cl}{s:Sd}{d:Wd}{n:Int}(h:s.rm=C.lst):canD C s d n=false:=by simp[canD,h]
theorem q7d {C:Cl}{s:Sd}{d:Wd}{n:Int}(h:n<0):canD C s d n=false:=by
 have:¬0<=n:=by omega
 simp[canD,this]
theorem q6G {C:Cl}{s:Sd}{d:Wd}{n:Int}(h:¬n<C.num d):canD C s d n=false:=by
 by_cases h0:0<=n
 ·have:canB C s n.toNat d=false:=by
   cases e:canB C s n.toNat d with
   |false=>rfl
   |true=>have:=q9v e;omega
  simp[canD,this]
 ·exact q7d (by omega)
theorem q9u {C:Cl}{s:Sd}{d:Wd}{i:Nat}(h:¬s.rm=C.lst):canD C s d (i:Int)=canB C s i d:=by
 have:(0:Int)<=(i:Int):=by omega
 simp[canD,h,this]
theorem q2e {C:Cl}{s:Sd}{d:Wd}{n:Int}(h:canD C s d n=true):¬s.rm=C.lst/\∃i:Nat,n=(i:Int)/\i<C.num d/\canB C s i d=true:=by
 unfold canD at h
 simp only[Bool.and_eq_true,Bool.not_eq_true',decide_eq_false_iff_not,decide_eq_true_eq] at h
 exact⟨h.1,n.toNat,by omega,q9v h.2.2,h.2.2⟩
theorem q9E {x:Int}{w:Nat}(h:bit x w=false):Builtin.bitOr x (2 ^ w)=x+2 ^ w:=by
 rw[PyProof.Rows.bitOr_and,PySem.W.kbt_bit]
 have:x / 2 ^ w % 2=0:=by
  unfold bit at h
  have h':=zaV h
  omega
 rw[this]
 simp
theorem q47 (x y:Nat):x+y=(x ^^^ y)+2*(x &&& y):=by
 have key:∀n x y,x<2 ^ n->y<2 ^ n->x+y=(x ^^^ y)+2*(x &&& y):=by
  intro n
  induction n with
  | zero => intro x y hx hy;have:x=0:=by simpa using hx
            have:y=0:=by simpa using hy
            subst_vars;rfl
  |succ n ih=>
   intro x y hx hy
   have h:=ih (x / 2) (y / 2) (by rw[Nat.pow_succ] at hx;omega) (by rw[Nat.pow_succ] at hy;omega)
   have e1:(x ^^^ y) / 2=(x / 2) ^^^ (y / 2):=Nat.xor_div_two
   have e2:(x &&& y) / 2=(x / 2) &&& (y / 2):=Nat.and_div_two
   have m1:(x ^^^ y) % 2=(x % 2+y % 2) % 2:=by
    have h1:(x ^^^ y) % 2=(x % 2) ^^^ (y % 2):=Nat.xor_mod_two_pow (n:=1)
    rw[h1]
    have a:x % 2=0\/x % 2=1:=by omega
    have b:y % 2=0\/y % 2=1:=by omega
    rcases a with a|a<;>rcases b with b|b<;>simp[a,b]
   have m2:(x &&& y) % 2=(x % 2)*(y % 2):=by
    have h1:(x &&& y) % 2=(x % 2) &&& (y % 2):=Nat.and_mod_two_pow (n:=1)
    rw[h1]
    have a:x % 2=0\/x % 2=1:=by omega
    have b:y % 2=0\/y % 2=1:=by omega
    rcases a with a|a<;>rcases b with b|b<;>simp[a,b]
   have a:x % 2=0\/x % 2=1:=by omega
   have b:y % 2=0\/y % 2=1:=by omega
   rw[<-e1,<-e2] at h
   rcases a with a|a<;>rcases b with b|b<;>rw[a,b] at m1 m2<;>omega
 exact key (x+y) x y (zbp (Nat.le_add_right x y) Nat.lt_two_pow_self) (zbp (Nat.le_add_left y x) Nat.lt_two_pow_self)
theorem qbq {x y:Int}(hx:0<=x)(hy:0<=y):Builtin.bitXor x y=((x.toNat ^^^ y.toNat:Nat):Int):=by
 rw[PyProof.Rows.bitXor_and,PyProof.Rows.bitAnd_pp hx hy]
 have:=q47 x.toNat y.toNat
 omega
theorem q7U {x y:Int}(hx:0<=x)(hx':x<=255)(hy:0<=y)(hy':y<=255):0<=Builtin.bitXor x y/\Builtin.bitXor x y<=255:=by
 rw[qbq hx hy]
 have:x.toNat ^^^ y.toNat<2 ^ 8:=Nat.xor_lt_two_pow (by omega) (by omega)
 omega
theorem go_end {x:Way}{rm:Int}(h:q0W x rm=true):(if rm=x.a then x.b else x.a)=x.a+x.b - rm:=by
 unfold q0W at h
 simp only[Bool.or_eq_true,Bool.and_eq_true,decide_eq_true_eq] at h
 by_cases e:rm=x.a
 ·rw [zt e];omega
 ·rw [zo e]
  rcases h with h|h
  ·exact absurd h e
  ·omega
theorem q9I {x i:Nat}(h:x.testBit i=false):x+2 ^ i=x ^^^ 2 ^ i:=by
 have h1:=q47 x (2 ^ i)
 have h2:x &&& 2 ^ i=0:=by
  apply Nat.eq_of_testBit_eq
  intro j
  rw[Nat.testBit_and,Nat.testBit_two_pow,Nat.zero_testBit]
  by_cases e:i=j
  ·rw [<-e,h];simp
  ·simp [e]
 omega
theorem q46 {x:Int}{i:Nat}(h0:0<=x)(h:bit x i=false)(j:Nat):bit (x+2 ^ i) j=(decide (i=j) ^^ bit x j):=by
 obtain⟨n,rfl⟩:∃n:Nat,x=(n:Int):=⟨x.toNat,by omega⟩
 have hp:=q0R i
 have e:((n:Int)+2 ^ i)=((n+2 ^ i:Nat):Int):=by rw[Int.natCast_add,zbM];rfl
 rw[q1y h0,zp] at h
 rw[e,q1y (by omega),q1y h0,zp,zp,q9I h,Nat.testBit_xor,Nat.testBit_two_pow,Bool.xor_comm]
theorem qbp {x:Int}{i m:Nat}(h0:0<=x)(h1:x<2 ^ m)(hi:i<m)(h:bit x i=false):0<=x+2 ^ i/\x+2 ^ i<2 ^ m:=by
 obtain⟨n,rfl⟩:∃n:Nat,x=(n:Int):=⟨x.toNat,by omega⟩
 have hp:=q0R i
 have e:((n:Int)+2 ^ i)=((n+2 ^ i:Nat):Int):=by rw[Int.natCast_add,zbM];rfl
 have em:(2:Int) ^ m=((2 ^ m:Nat):Int):=by rw[zbM];rfl
 rw[q1y h0,zp] at h
 rw[em] at h1
 have hn:n<2 ^ m:=by omega
 have:n ^^^ 2 ^ i<2 ^ m:=Nat.xor_lt_two_pow hn (Nat.pow_lt_pow_right (by decide) hi)
 rw[e,em,q9I h]
 omega
theorem q6E {P R:Nat->Bool}{i:Nat}(h:∀j,j≠i->R j=P j)(hi:P i=false):∀m,cnt R m=cnt P m+(if i<m then(if R i=true then 1 else 0) else 0)
 |0=>by simp[cnt]
 |m+1=>by
  show cnt R m+_=cnt P m+_+_
  rw[q6E h hi m]
  by_cases e:m=i
  ·subst e
   rw[zo (zan _),zt (zbk _),hi]
   simp
  ·rw [h m e]
   by_cases h2:i<m
   ·rw [zt h2,zt (show i<m+1 by omega),Nat.add_right_comm]
   ·rw [zo h2,zo (show¬i<m+1 by omega),Nat.add_right_comm]
theorem q93 {C:Cl}{tk op:Int}{i:Nat}(h0:0<=tk)(hi:i<C.things.length)(hb:bit tk i=false)(k:Int):hold C (tk+2 ^ i) op k=hold C tk op k+(if C.things[i].2=k then 1 else 0):=by
 unfold hold
 have e:cnt (tP C (tk+2 ^ i) k) C.things.length=cnt (tP C tk k) C.things.length+(if C.things[i].2=k then 1 else 0):=by
  rw[q6E (P:=tP C tk k) (i:=i) (fun j hj=>by simp[tP,q46 h0 hb,show¬i=j from fun z=>hj z.symm]) (by simp[tP,hb]),zt hi]
  congr 1
  simp only[tP,q46 h0 hb,hb]
  by_cases ek:C.things[i].2=k
  ·simp [ek,hi]
  ·simp [ek,hi]
 rw[e]
 split<;>omega
theorem q6w {C:Cl}{tk op:Int}{i:Nat}(h0:0<=op)(hi:i<C.ways.length)(hb:bit op i=false)(k:Int):hold C tk (op+2 ^ i) k=hold C tk op k - (if C.ways[i].g.dk=some k then 1 else 0):=by
 unfold hold
 have eds:dsOf C i=C.ways[i].g.dk:=by simp[dsOf,hi]
 have e:cnt (dP (dsOf C) (op+2 ^ i) k) C.ways.length=cnt (dP (dsOf C) op k) C.ways.length+(if C.ways[i].g.dk=some k then 1 else 0):=by
  rw[q6E (P:=dP (dsOf C) op k) (i:=i) (fun j hj=>by simp[dP,q46 h0 hb,show¬i=j from fun z=>hj z.symm]) (by simp[dP,hb]),zt hi]
  congr 1
  simp only[dP,q46 h0 hb,hb,eds]
  by_cases ek:C.ways[i].g.dk=some k
  ·simp [ek]
  ·simp [ek]
 rw[e]
 split<;>omega
theorem q4U {C:Cl}{s:Sd}{d:Wd}{n:Int}(ok:ClOk C)(h:s.ok C)(hc:canD C s d n=true):(q1p C s d n).ok C:=by
 obtain⟨hl,i,rfl,hi,hb⟩:=q2e hc
 unfold q1p
 rw[zp]
 obtain⟨h1,h2,h3,h4,h5,h6,h7⟩:=id h
 cases d with
 |go=>
  have hi':i<C.ways.length:=hi
  have w:=ok.w _ (zL hi')
  simp only[q1E,yB hi']
  refine⟨?_,h2,h3,h4,h5,h6,h7⟩
  by_cases e:s.rm=C.ways[i].a
  ·simp only[e,if_true]
   exact w.2.1
  ·simp only[e,if_false]
   exact w.1
 |pull=>
  have hi':i<C.levers.length:=hi
  have w:=ok.lv _ (zL hi')
  simp only[q1E,yB hi']
  exact⟨h1,h2,h3,h4,q7U h5.1 h5.2 (by omega) w.2.2,h6,h7⟩
 |take=>
  have hi':i<C.things.length:=hi
  have ho:bit s.tk i=false:=by
   simp only[canB,yB hi',Bool.and_eq_true,Bool.not_eq_true'] at hb
   exact hb.2
  refine⟨h1,qbp h2.1 h2.2 hi' ho,h3,h4,h5,h6,fun k k0 k1=>?_⟩
  show 0<=hold C (s.tk+2 ^ i) s.op k
  rw[q93 h2.1 hi' ho]
  have:=h7 k k0 k1
  split<;>omega
 |turn=>
  have hi':i<C.wheels.length:=hi
  have w:=ok.wh _ (zL hi')
  simp only[q1E,yB hi']
  exact⟨h1,h2,h3,h4,h5,w.2,h7⟩
 |unlock=>
  have hi':i<C.ways.length:=hi
  have eds:dsOf C i=C.ways[i].g.dk:=by simp[dsOf,hi']
  cases hk:C.ways[i].g.dk with
  |none=>simp[canB,hi',hk] at hb
  |some kd=>
   simp only[canB,yB hi',hk,Bool.and_eq_true,Bool.not_eq_true',decide_eq_true_eq] at hb
   refine⟨h1,h2,qbp h3.1 h3.2 hi' hb.1.2,fun j hj hbj=>?_,h5,h6,fun k k0 k1=>?_⟩
   ·replace hbj:bit (s.op+2 ^ i) j=true:=hbj
    rw[q46 h3.1 hb.1.2] at hbj
    by_cases e:i=j
    ·rw [<-e,eds,hk];rfl
    ·have:bit s.op j=true:=by simpa[e] using hbj
     exact h4 j hj this
   ·show 0<=hold C s.tk (s.op+2 ^ i) k
    rw[q6w h3.1 hi' hb.1.2,hk]
    have:=h7 k k0 k1
    by_cases e:kd=k
    ·rw [zt (by rw[e]),<-e];omega
    ·rw [zo (by intro z;exact e (zC z))];omega
def rowD (d:Wd)(n:Nat):List (Wd×Nat):=(List.range n).map fun i=>(d,i)
theorem q36 (d:Wd)(n:Nat):(rowD d n).length=n:=by simp[rowD]
theorem q5M (d:Wd)(n:Nat):rowD d (n+1)=rowD d n++[(d,n)]:=by simp[rowD,List.range_succ]
def allD (C:Cl):List (Wd×Nat):=rowD .go C.ways.length++rowD .pull C.levers.length++rowD .take C.things.length++rowD .turn C.wheels.length++rowD .unlock C.ways.length
def fitD (C:Cl)(s:Sd):List (Wd×Nat):=(allD C).filter fun x=>canD C s x.1 (x.2:Int)
theorem q7f {C:Cl}(ok:ClOk C):(allD C).length<=56:=by
 have:=ok.wl
 have:=ok.tl
 have:=ok.ll
 have:=ok.vl
 simp only[allD,List.length_append,q36]
 omega
theorem qaO {C:Cl}(ok:ClOk C)(s:Sd):(fitD C s).length<=56:=zab (zbg _ _) (q7f ok)
theorem qax {d d':Wd}{n i:Nat}:(d',i)∈rowD d n↔d'=d/\i<n:=by
 simp only[rowD,List.mem_map,List.mem_range,Prod.mk.injEq]
 constructor
 ·rintro ⟨j,h,rfl,rfl⟩;exact⟨rfl,h⟩
 ·rintro ⟨rfl,h⟩;exact⟨i,h,rfl,rfl⟩
theorem qay {C:Cl}{d:Wd}{i:Nat}:(d,i)∈allD C↔i<C.num d:=by
 simp only[allD,List.mem_append,qax]
 cases d<;>simp[Cl.num]
theorem q37 {C:Cl}{s:Sd}{d:Wd}{i:Nat}:(d,i)∈fitD C s↔canD C s d (i:Int)=true:=by
 simp only[fitD,List.mem_filter,qay]
 constructor
 ·exact fun h=>h.2
 ·intro h
  obtain⟨_,j,e,hj,_⟩:=q2e h
  have:i=j:=by omega
  exact⟨by rw[this];exact hj,h⟩
theorem go_of {C:Cl}{s:Sd}{i:Nat}(hc:canD C s .go (i:Int)=true):∃x,C.ways[i]? =some x/\q0W x s.rm=true/\q3W x.g (hold C s.tk s.op) (bit s.op i) s.b s.wt=true/\¬s.rm=C.lst/\q1p C s .go (i:Int)={s with rm:=if s.rm=x.a then x.b else x.a}:=by
 obtain⟨hl,j,e,hi,hb⟩:=q2e hc
 have e':i=j:=by omega
 subst e'
 have hi':i<C.ways.length:=hi
 have hx:C.ways[i]? =some C.ways[i]:=yB hi'
 simp only[canB,hx,Bool.and_eq_true] at hb
 exact⟨C.ways[i],hx,hb.1,hb.2,hl,by unfold q1p;rw[Int.toNat_natCast];simp[q1E,hi']⟩
end Ce
namespace L2
open PySem PySem.Spec PyProof.Rows
section
variable {X:Cx}{o e:Expr}{es:List Expr}{m:Str}{apos pos:Pos}{k k':Nat}{ta:TE}{t:TA}
theorem qba {pl:Sem Bool}(P:Program)(w:World)(K:W.Frag)(mg:Str->Option Value)(base:Heap)(hr:Room k' X.A)(hk:k<=k')(he:PE X o ta)(ha:PA X (e::es) t)
  (e1:X.prog=P:=by rfl)(e2:X.w=w:=by rfl)(e3:X.K=K:=by rfl)(e4:X.mg=mg:=by rfl)(e5:X.base=base:=by rfl)
  (hst:starEach (e::es) X.env=(false,eval e X.env)::starEach es X.env:=by rfl)(hpl:(backTo pos (starEach es X.env)).any (·.1)=false:=by rfl)
  (ht:eval (.Call (.Attribute o m apos) (e::es) [] pos) X.env=(do
   let ov<-eval o X.env
   standAt apos.atName
   let (f,first)<-holding [ov] (getMethod ov m pl)
   callWith pos f first (backTo pos (starEach (e::es) X.env)) (backToKw pos (keywordEach [] X.env))):=by rfl):
  PE X (.Call (.Attribute o m apos) (e::es) [] pos) (tVM P w K mg base k m ta t):=by
 subst e1 e2 e3 e4 e5
 exact q3n (hr.mono hk) he ha hst hpl ht
theorem qbY {pl:Sem Bool}(P:Program)(w:World)(K:W.Frag)(mg:Str->Option Value)(base:Heap)(hr:Room k' X.A)(hk:k<=k')(he:PE X o ta)
  (e1:X.prog=P:=by rfl)(e2:X.w=w:=by rfl)(e3:X.K=K:=by rfl)(e4:X.mg=mg:=by rfl)(e5:X.base=base:=by rfl)
  (ht:eval (.Call (.Attribute o m apos) [] [] pos) X.env=(do
   let ov<-eval o X.env
   standAt apos.atName
   let (f,first)<-holding [ov] (getMethod ov m pl)
   callWith pos f first (backTo pos (starEach [] X.env)) (backToKw pos (keywordEach [] X.env))):=by rfl):
  PE X (.Call (.Attribute o m apos) [] [] pos) (tVM P w K mg base k m ta tNil):=by
 subst e1 e2 e3 e4 e5
 exact pe_vm0 (hr.mono hk) he ht
end
section
variable {M:Model}{A:Around}{E:Value->Shared->Prop}{env:Env}{nm q:Str}{C N:Addr}{bs bm:List Value}{hdct:Bool}{sn:List Str}{sub:List Value}{ab:Bool}{col:Option Bool}{dd:Option Addr}{k0 k1 k2 k3 k5:Option Value}{newId:String}
theorem q4g {s:Shared}{x:Sem Value}{Q:Flow->Shared->Prop}(hbase:bm.contains (.type "BaseException")=true)(hh:A.handled=none)
  (h:wpAny M A x (fun v s₁=>∃e oe vs,v= .ref e/\s₁.heap.get? C=some (excClassObj nm q C N bs bm hdct sn sub ab col dd k0 k1 k2 k3 k5 newId)/\s₁.heap.get? e=some oe/\oe.cls= .ref C/\oe.data= .fields vs/\vs[1]? =some .none/\E (.ref e) s₁) E s):wpAny M A (raiseStmt env (some x) none) Q E s:=by
 have hcB:(Value.ref C::bm).contains (.type "BaseException")=true:=by rw[List.contains_cons,hbase,Bool.or_true]
 unfold raiseStmt
 refine yD (zO h (fun v s₁ h₁=>?_) fun _ _ z=>z)
 obtain⟨e,oe,vs,rfl,hC,he,hc,hd,h1,hE⟩:=h₁
 obtain⟨hp,g,d,tk,os⟩:=s₁
 obtain⟨c0,dct,dt,sl⟩:=oe
 dsimp only at hc hd he hC
 subst hc hd
 refine yD (zl ?_)
 refine yD (zah ?_)
 unfold excFromValue isExcClass
 refine yD (yD ?_)
 unfold isType
 refine yD (zaO he (zl ?_))
 refine zH rfl (zl (zH rfl ?_))
 unfold isInstance typeOf
 refine yD (yD (yD (zaO he (zl ?_))))
 refine wpAny_isSubtype_exc hC ?_
 rw[hcB]
 refine zaR rfl (zl ?_)
 refine yD (yD (zaO he (zl ?_)))
 refine zH rfl ?_
 unfold raisedInstance
 refine yD (yD (yD (zaO he (zl ?_))))
 refine yD (yD (zaO hC (zl ?_)))
 refine zaR rfl (zl ?_)
 refine yD ?_
 unfold setFlight
 refine yD (zam he rfl h1 ?_)
 exact zH rfl (zl (wpAny_raiseNew_none hh hE))
end
section
variable {prog:Program}{w:World}{A:Around}{E:Value->Shared->Prop}{h:Heap}{g:Array GenState}{d:Drawn}{t:Nat}{os:OsState}{nm q:Str}{C N:Addr}{bs bm bmB:List Value}{hdct:Bool}{sn:List Str}{sub:List Value}{ab:Bool}{col:Option Bool}{dd:Option Addr}{k0 k1 k2 k3 k5:Option Value}{B newId initId:String}{rest:List Value}{fI:Addr}{oI:Obj}
theorem q3K {Q:PySem.Fin->Shared->Prop}(F:ExcBaseFacts B newId initId bmB)(T:OwnTail h bmB bm)(hC:h.get? C=some (excClassObj nm q C N bs bm hdct sn sub ab col dd k0 k1 k2 k3 k5 newId))(hi:PySem.W.Looks (model prog w) h (typeLookup (.ref C) "__init__") (some (.ref fI)))(hfI:h.get? fI=some oI)(hfc:oI.cls= .type "function")
  (hq:∀(h':Heap) (e:Addr),h.MadeExcOf h' e (.ref C) rest->wpAny (model prog w) A (call (.ref fI) (.ref e::rest)) (fun r s'=>r= .none/\Q (.done (.ret (.ref e))) s') E {heap:=h',gens:=g,drawn:=d,toks:=t,os:=os})(hrest:rest.length<=sizeLine):
  wpAny (model prog w) A (Builtin.«type.__call__» {pos:= .ref C::rest}) Q E {heap:=h,gens:=g,drawn:=d,toks:=t,os:=os}:=by
 unfold Builtin.«type.__call__»
 refine zH rfl ?_
 refine yD ?_
 unfold mroOf
 refine yD (yD (wpAny_load' hC (zl (zl ?_))))
 refine zH rfl ?_
 refine yD (wpAny_madeBy_exc hC (yD (zl ?_)))
 refine yD (zah (zbr (codeAny_call_builtin_code (Code.quiet_builtin {pos:= .ref C::rest} F.quiet) (wpAny_check_new_subT F T hC (codeAny_exc_new_subT F T hC ?_ hrest)))))
 have kp:∀b o,h.get? b=some o->((h.push {cls:= .type "tuple",data:= .seq rest.toArray}).push {cls:= .ref C,data:= .fields #[.ref h.objs.size,.none,.none,.none,.bool false,.none]}).get? b=some o:=fun b o e=>zm _ (zm _ e)
 have hget:((h.push {cls:= .type "tuple",data:= .seq rest.toArray}).push {cls:= .ref C,data:= .fields #[.ref h.objs.size,.none,.none,.none,.bool false,.none]}).get? (h.objs.size+1)=some {cls:= .ref C,data:= .fields #[.ref h.objs.size,.none,.none,.none,.bool false,.none]}:=Heap.get?_push_at (by simp) rfl
 have hcC:(Value.ref C::bm).contains (.ref C)=true:=by simp
 unfold isInstance typeOf
 refine yD (yD (yD (zaO hget (zl ?_))))
 refine wpAny_isSubtype_exc (kp _ _ hC) ?_
 rw[hcC]
 refine zH rfl ?_
 refine yD (zah ?_)
 unfold callSpecial?
 refine yD ?_
 unfold specialOf
 refine yD ?_
 unfold typeOf
 refine yD (zaO hget (zl ?_))
 refine(hi.keeps kp).at ?_
 refine zah (yD ?_)
 unfold bindSpecial
 refine yD (zbI ⟨oI,kp _ _ hfI,hfc⟩ ?_)
 rw[zt (by decide)]
 refine zl (yD (zO (hq _ _ ⟨kp,zbH (zaS _),h.objs.size,hget,zbH (zn _),zm _ (Heap.get?_push_at rfl rfl)⟩) (fun r s' hr=>?_) fun _ _ z=>z))
 obtain⟨rfl,hQ⟩:=hr
 exact zl (zH rfl (zl hQ))
theorem q7O {Q:Value->Shared->Prop}(F:ExcBaseFacts B newId initId bmB)(T:OwnTail h bmB bm)(hC:h.get? C=some (excClassObj nm q C N bs bm hdct sn sub ab col dd k0 k1 k2 k3 k5 newId))(hi:PySem.W.Looks (model prog w) h (typeLookup (.ref C) "__init__") (some (.ref fI)))(hfI:h.get? fI=some oI)(hfc:oI.cls= .type "function")
  (hq:∀(h':Heap) (e:Addr),h.MadeExcOf h' e (.ref C) rest->wpAny (model prog w) (A.under (Code.builtin "type.__call__" {pos:= .ref C::rest})) (call (.ref fI) (.ref e::rest)) (fun r s'=>r= .none/\Q (.ref e) s') E {heap:=h',gens:=g,drawn:=d,toks:=t,os:=os})(hrest:rest.length<=sizeLine):
  wpAny (model prog w) A (call (.ref C) rest) Q E {heap:=h,gens:=g,drawn:=d,toks:=t,os:=os}:=by
 have f1:=tc_lookup
 have f2:=tc_bind (.ref C)
 have hT:({heap:=h,gens:=g,drawn:=d,toks:=t,os:=os}:Shared).TypeIs (.ref C) "type":=⟨_,hC,rfl⟩
 refine zbr (codeAny_of_tree ?_)
 refine yD (wpAny_load' hC ?_)
 refine yD (zbN hT f1 ?_)
 refine yD (wpAny_of_eq f2 ?_)
 refine yD (zl ?_)
 refine zaR rfl ?_
 refine zl ⟨rfl,?_⟩
 exact codeAny_call_builtin_at (Code.quiet_builtin _ (by walk_at "k")) entry_typeCall (wpAny_check_type_call_sub hC (q3K F T hC hi hfI hfc (fun h' e hm=>hq h' e hm) hrest))
end
def q1J (h:Heap)(e:Addr)(od:Option Addr):Prop:=∃o,h.get? e=some o/\o.dict=od
section
variable {M:Model}{A:Around}{E:Value->Shared->Prop}{s:Shared}{base:Heap}{env:Env}{outer:List Env}{L e:Addr}{oe:Obj}{vs:Array Value}{cls head a0:Value}{hadNext:Bool}{od:Option Addr}{Q:Unit->Shared->Prop}
theorem qbi (hfr:A.frames=some (env::outer))(hl:s.heap.FunFrames base (env::outer))(hf:env.frame=some L)(he:s.heap.get? e=some oe)(hkb:base.StaysIn s.heap)(hen:base.get? e=none)(hd:oe.data= .fields vs)(hsz:1<vs.size)(h0:vs[0]? =some a0)
  (h:∀h',base.NotedW (env::outer) e oe.cls a0 (rawInt ↑L) s.heap h'->q1J h' e oe.dict->Q () {s with heap:=h'}):
  wpAny M A (do
   let a<-PySem.frameOf env
   let pl<-entryPlaceOf L hadNext
   let b<-EntryCells.newEntry head a Value.none (rawInt ↑L) Value.none pl
   setField (Value.ref e) 1 b) Q E s:=by
 have hene:e∉List.filterMap (fun x=>x.frame) (env::outer):=fun hm=>by
  obtain⟨_,o,ho,hnf⟩:=Heap.FunFrames.mem hl hm
  rw[he] at ho
  cases ho
  exact hnf vs hd
 refine yD (wpAny_frameOf_fun hfr hl hf fun h₁ hs₁=>?_)
 refine yD (wpAny_entryPlaceOf fun pl hpl=>?_)
 refine yD ?_
 refine zak ?_ (IsPlace.sizeOk5 hpl head (Value.ref L) Value.none (rawInt ↑L) Value.none)
 have he₁:h₁.get? e=some oe:=(hs₁.2.1 e hene).trans he
 have kb₁:base.StaysIn h₁:=fun b o hbo=>(hs₁.2.1 b fun hm=>by rw[(Heap.FunFrames.mem hl hm).1] at hbo;cases hbo).trans (hkb b o hbo)
 generalize hT:([head,Value.ref L,Value.none,rawInt ↑L,Value.none]++if pl.isEmpty=true then List.replicate 6 Value.none else pl).toArray=ts
 have ht3:ts[3]? =some (rawInt ↑L):=by rw[<-hT];simp
 have he₂:(h₁.push {cls:= .type "traceback",data:= .fields ts}).get? e=some oe:=zm _ he₁
 refine zaD he₂ hd hsz ?_
 have hTe:h₁.objs.size≠e:=zck (zv he₁)
 have hd₃:=zaq hd fun x=>x.setIfInBounds 1 (Value.ref h₁.objs.size)
 have he₃:=zaa (Obj.mapFields fun x=>x.setIfInBounds 1 (Value.ref h₁.objs.size)) he₂ (zay hd₃)
 have keep:∀b o,b≠e->h₁.get? b=some o->((h₁.push {cls:= .type "traceback",data:= .fields ts}).update e (Obj.mapFields fun x=>x.setIfInBounds 1 (Value.ref h₁.objs.size))).get? b=some o:=fun b o hbe hb=>by
  rw[zT _ _ (Ne.symm hbe)]
  exact zm _ hb
 have hT₃:((h₁.push {cls:= .type "traceback",data:= .fields ts}).update e (Obj.mapFields fun x=>x.setIfInBounds 1 (Value.ref h₁.objs.size))).get? h₁.objs.size=some {cls:= .type "traceback",data:= .fields ts}:=
  (zT _ _ (Ne.symm hTe)).trans (zB h₁ rfl)
 have noRecord:∀b o,s.heap.get? b=some o->(∀vs,o.data≠ .fields vs)->b≠e:=fun b o hb hnf q=>by
  subst q
  rw[he] at hb
  cases hb
  exact hnf vs hd
 refine h _ ⟨fun b o hbo=>keep b o (fun q=>by subst q;rw[hen] at hbo;cases hbo) (kb₁ b o hbo),zaQ (fun b o hb hnf=>?_) hl,⟨_,_,_,_,_,he₃,⟨zcc oe _,?_⟩,hd₃,?_,Heap.StaysIn.fresh kb₁,hTe,hT₃,rfl,ht3⟩,fun b o hb hnf=>?_⟩ ⟨_,he₃,?_⟩
 ·obtain ⟨sl,hs⟩:=hs₁.2.2 b o hb
  exact⟨_,keep b _ (noRecord b o hb hnf) hs,rfl⟩
 ·rw [Array.getElem?_setIfInBounds_ne (by decide)]
  exact h0
 ·rw [getElem?_pos _ 1 (by simpa using hsz)]
  simp
 ·obtain ⟨sl,hs⟩:=hs₁.2.2 b o hb
  exact⟨sl,keep b _ (noRecord b o hb hnf) hs⟩
 ·obtain ⟨c0,dct,dt,sl⟩:=oe
  dsimp only at hd
  subst hd
  rfl
theorem qbd {l:List Env}(held:base.HeldW l e cls a0 L s.heap)(hD:q1J s.heap e od)(h:∀h',base.FlyingW l e cls a0 h'->q1J h' e od->s.heap.UpToSlots h'->Q () {s with heap:=h'}):wpAny M A (setFlight (.ref e) none) Q E s:=by
 obtain⟨st,hen,ff,oe,vs,T,oT,ts,j1,j2,j3,j4,j5,j6,j7,j8,j9⟩:=held
 obtain⟨o2,q1,q2⟩:=hD
 rw[j1] at q1
 cases q1
 unfold setFlight
 refine yD (zam j1 j3 j4 ?_)
 refine zaR rfl ?_
 have h3:3<ts.size:=by
  have:=(zav.mp j9).1
  exact this
 refine zaD j7 j8 h3 ?_
 have hd₃:=zaq j8 fun x=>x.setIfInBounds 3 Value.none
 have hT₃:=zaa (Obj.mapFields fun x=>x.setIfInBounds 3 Value.none) j7 (zay hd₃)
 have keep:∀b o,b≠T->s.heap.get? b=some o->(s.heap.update T (Obj.mapFields fun x=>x.setIfInBounds 3 Value.none)).get? b=some o:=fun b o hb q=>by
  rw[zT _ _ (Ne.symm hb)]
  exact q
 have noT:∀b o,s.heap.get? b=some o->(∀vs,o.data≠ .fields vs)->b≠T:=fun b o hb hnf q=>by
  subst q
  rw[j7] at hb
  cases hb
  exact hnf ts j8
 refine h _ ⟨fun b o hb=>keep b o (fun q=>by subst q;rw[j5] at hb;cases hb) (st b o hb),hen,zaQ (fun b o hb hnf=>⟨o,keep b o (noT b o hb hnf) hb,rfl⟩) ff,oe,vs,T,_,_,keep _ _ (Ne.symm j6) j1,j2,j3,j4,j5,j6,hT₃,hd₃,?_⟩ ⟨_,keep _ _ (Ne.symm j6) j1,q2⟩ fun b o hb hnf=>⟨o.slots,keep b o (noT b o hb hnf) hb⟩
 rw[getElem?_pos _ 3 (by simpa using h3)]
 simp
theorem q69 {l:List Env}(f:base.FlyingW l e cls a0 s.heap)(hD:q1J s.heap e od)(h:∀h',base.FlyingW l e cls a0 h'->q1J h' e od->s.heap.UpToSlots h'->Q () {s with heap:=h'}):wpAny M A (setFlight (.ref e) none) Q E s:=by
 obtain⟨st,hen,ff,oe,vs,T,oT,ts,j1,j2,j3,j4,j5,j6,j7,j8,j9⟩:=f
 obtain⟨o2,q1,q2⟩:=hD
 rw[j1] at q1
 cases q1
 unfold setFlight
 refine yD (zam j1 j3 j4 ?_)
 refine zaR rfl ?_
 have h3:3<ts.size:=(zav.mp j9).1
 refine zaD j7 j8 h3 ?_
 have hd₃:=zaq j8 fun x=>x.setIfInBounds 3 Value.none
 have hT₃:=zaa (Obj.mapFields fun x=>x.setIfInBounds 3 Value.none) j7 (zay hd₃)
 have keep:∀b o,b≠T->s.heap.get? b=some o->(s.heap.update T (Obj.mapFields fun x=>x.setIfInBounds 3 Value.none)).get? b=some o:=fun b o hb q=>by
  rw[zT _ _ (Ne.symm hb)]
  exact q
 have noT:∀b o,s.heap.get? b=some o->(∀vs,o.data≠ .fields vs)->b≠T:=fun b o hb hnf q=>by
  subst q
  rw[j7] at hb
  cases hb
  exact hnf ts j8
 refine h _ ⟨fun b o hb=>keep b o (fun q=>by subst q;rw[j5] at hb;cases hb) (st b o hb),hen,zaQ (fun b o hb hnf=>⟨o,keep b o (noT b o hb hnf) hb,rfl⟩) ff,oe,vs,T,_,_,keep _ _ (Ne.symm j6) j1,j2,j3,j4,j5,j6,hT₃,hd₃,?_⟩ ⟨_,keep _ _ (Ne.symm j6) j1,q2⟩ fun b o hb hnf=>⟨o.slots,keep b o (noT b o hb hnf) hb⟩
 rw[getElem?_pos _ 3 (by simpa using h3)]
 simp
theorem looksX (hfr:A.frames=some (env::outer))(hf:env.frame=some L)(fly:base.FlyingW (env::outer) e cls a0 s.heap)(hD:q1J s.heap e od)
  (h:∀h',base.HeldW (env::outer) e cls a0 L h'->q1J h' e od->s.heap.UpToSlots h'->Q () {s with heap:=h'}):wpAny M A (noteFrame (.ref e) env) Q E s:=by
 obtain⟨st,hen,ff,oe,vs,T,oT,ts,j1,j2,j3,j4,j5,j6,j7,j8,j9⟩:=fly
 obtain⟨o2,q1,q2⟩:=hD
 rw[j1] at q1
 cases q1
 obtain⟨j2,j2'⟩:=j2
 subst j2
 have h3:3<ts.size:=(zav.mp j9).1
 have h1:1<vs.size:=(zav.mp j4).1
 unfold noteFrame
 rw[hf]
 refine yD (zam j1 j3 j4 ?_)
 refine zaR rfl ?_
 refine yD (zam j7 j8 j9 ?_)
 refine zH (by simp[rawInt]) ?_
 refine yD (zaD j7 j8 h3 ?_)
 have hd₃:=zaq j8 fun x=>x.setIfInBounds 3 Value.none
 have hT₃:=zaa (Obj.mapFields fun x=>x.setIfInBounds 3 Value.none) j7 (zay hd₃)
 have keep:∀b o,b≠T->s.heap.get? b=some o->(s.heap.update T (Obj.mapFields fun x=>x.setIfInBounds 3 Value.none)).get? b=some o:=fun b o hb q=>by
  rw[zT _ _ (Ne.symm hb)]
  exact q
 have noT:∀b o,s.heap.get? b=some o->(∀vs,o.data≠ .fields vs)->b≠T:=fun b o hb hnf q=>by
  subst q
  rw[j7] at hb
  cases hb
  exact hnf ts j8
 refine qbi hfr (zaQ (fun b o hb hnf=>⟨o,keep b o (noT b o hb hnf) hb,rfl⟩) ff) hf (keep _ _ (Ne.symm j6) j1) (fun b o hb=>keep b o (fun q=>by subst q;rw[j5] at hb;cases hb) (st b o hb)) hen j3 h1 j2' fun h' N D=>?_
 obtain⟨n1,n2,n3,n4⟩:=N
 exact h h' ⟨n1,hen,n2,n3⟩ (q2▸D) fun b o hb hnf=>n4 b o (keep b o (noT b o hb hnf) hb) hnf
theorem qaA (hfr:A.frames=some (env::outer))(hf:env.frame=some L)(st:base.StaysIn s.heap)(ff:s.heap.FunFrames base (env::outer))(he:s.heap.get? e=some oe)(hen:base.get? e=none)(hd:oe.data= .fields vs)(h1:vs[1]? =some .none)(h0:vs[0]? =some a0)
  (h:∀h',base.FlyingW outer e oe.cls a0 h'->q1J h' e oe.dict->s.heap.UpToSlots h'->Q () {s with heap:=h'}):wpAny M A (leaving env (.ref e)) Q E s:=by
 unfold leaving
 refine yD ?_
 unfold noteFrame
 rw[hf]
 refine yD (zam he hd h1 ?_)
 refine zH rfl ?_
 refine qbi hfr ff hf he st hen hd (zav.mp h1).1 h0 fun h' N D=>?_
 obtain⟨n1,n2,n3,n4⟩:=N
 refine qbd (L:=L) ⟨n1,hen,n2,n3⟩ D fun h2 f2 D2 u2=>h h2 ⟨f2.1,f2.2.1,f2.2.2.1.2.2,f2.2.2.2⟩ D2 (Heap.UpToSlots.trans n4 u2)
end
abbrev q3b (C:Addr)(od:Option Addr)(t:Addr)(sl:Array (Option Value)):Obj:={cls:= .ref C,dict:=od,data:= .fields #[.ref t,.none,.none,.none,.bool false,.none],slots:=sl}
section
variable {prog:Program}{w:World}{A:Around}{E:Value->Shared->Prop}{h:Heap}{g:Array GenState}{d:Drawn}{tk:Nat}{os:OsState}{nm q:Str}{C N e t0:Addr}{bs bm bmB:List Value}{hdct:Bool}{sn:List Str}{sub:List Value}{ab:Bool}{col:Option Bool}{dd od:Option Addr}{k0 k1 k2 k3 k5:Option Value}{B newId initId:String}{sl:Array (Option Value)}{rest:List Value}
theorem q4k {Q:Value->Shared->Prop}(F:ExcBaseFacts B newId initId bmB)(T:OwnTail h bmB bm)(hC:h.get? C=some (excClassObj nm q C N bs bm hdct sn sub ab col dd k0 k1 k2 k3 k5 newId))(he:h.get? e=some (q3b C od t0 sl))(hrest:rest.length<=sizeLine)
  (hq:∀(h':Heap) (t':Addr),(∀b o,b≠e->h.get? b=some o->h'.get? b=some o)->h'.get? e=some (q3b C od t' sl)->Q .none {heap:=h',gens:=g,drawn:=d,toks:=tk,os:=os}):
  wpAny (model prog w) A (call (.builtin initId) (.ref e::rest)) Q E {heap:=h,gens:=g,drawn:=d,toks:=tk,os:=os}:=by
 refine zbr (codeAny_call_builtin F.init.plain F.initEntry (wpAny_check_init_subT F T hC he rfl ?_))
 unfold Builtin.«BaseException.__init__»
 refine zH rfl ?_
 refine yD ?_
 unfold newTuple
 refine zH (by simp;omega) ?_
 unfold newObjAsIs
 refine yD (wpAny_alloc' (zl ?_))
 have he₂:(h.push {cls:= .type "tuple",data:= .seq rest.toArray}).get? e=some (q3b C od t0 sl):=zm _ he
 refine yD ?_
 unfold Builtin.BaseException.bexcPut
 refine yD (zam he₂ rfl rfl ?_)
 refine yD (zaD he₂ rfl (by simp) ?_)
 refine wpAny_letGo (zl ?_)
 have he₃:=zaa (Obj.mapFields fun x=>x.setIfInBounds 0 (Value.ref h.objs.size)) he₂ rfl
 refine hq _ h.objs.size (fun b o hb q=>?_) he₃
 show((h.push _).update e _).get? b=some o
 rw[zT _ _ (Ne.symm hb)]
 exact zm _ q
end
section
variable {P:Program}{w:World}{H:Hp}{h:Heap}{a:Addr}{o:HO}
theorem q06.there (x:q06 P w H h a o):∃u,h.get? a=some u:=by
 cases o with
 |lst xs=>obtain⟨_,_,_,_,e⟩:=x;exact⟨_,e⟩
 |tup xs=>obtain⟨_,_,_,o,e,_⟩:=x;exact⟨_,e⟩
 |dK kvs=>obtain⟨_,_,_,_,o,_,_,e,_⟩:=x;exact⟨_,e⟩
 |dT kvs=>obtain⟨_,_,_,_,o,_,_,e,_⟩:=x;exact⟨_,e⟩
 |set S n=>obtain⟨o,_,_,_,e,_⟩:=x;exact⟨_,e⟩
 |ins C dx fs=>obtain⟨_,_,_,e,_⟩:=x;exact⟨_,e⟩
 |own y=>obtain⟨_,e⟩:=x;exact⟨_,e⟩
 |xd fs=>obtain⟨_,⟨_,_,_,e,_⟩,_⟩:=x;exact⟨_,e⟩
 |rng lo hi=>obtain⟨_,_,_,e⟩:=x;exact⟨_,e⟩
 |frz ob u=>obtain⟨e,_⟩:=x;exact⟨_,e⟩
 |tbl ps=>exact⟨_,x⟩
 |met f y=>exact⟨_,x⟩
 |ext φ=>obtain⟨_,⟨_,e⟩,_⟩:=x;exact⟨_,e⟩
theorem HOk.none_of (x:HOk P w H h)(e:h.get? a=none):H a=none:=by
 cases q:H a with
 |none=>rfl
 |some o=>obtain⟨u,eu⟩:=(x a o q).there;rw[e] at eu;cases eu
end
section
variable {X:Cx}{pins:List (Addr×Obj)}{σ:St}{H:Hp}{s:Shared}
theorem Inv.frame_data (I:Inv X pins σ H s){b:Addr}(hb:b∈frs X.stack):∃o,s.heap.get? b=some o/\∀vs,o.data≠ .fields vs:=(I.stack.mem hb).2
theorem Inv.noted {h5:Heap}{as:List Addr}(I:Inv X pins σ H s)(up:s.heap.UpToSlots h5)(keep:∀b o,s.heap.get? b=some o->b∉as->b∉frs X.stack->h5.get? b=some o)
  (hf:∀b∈as,∀o,s.heap.get? b=some o->∃vs,o.data= .fields vs)(h0:∀b∈as,X.s₀.heap.get? b=none)(hH:∀b∈as,H b=none)(hp:∀b∈as,∀p∈X.pn++pins,p.1≠b):Inv X pins σ H {s with heap:=h5}:=by
 have n0:∀b o,X.s₀.heap.get? b=some o->b∉as:=fun b o e hb=>by rw[h0 b hb] at e;cases e
 have nl:∀b o,X.s₀.heap.get? b=some o->b∉X.fs->b∉frs X.stack:=fun b o e hb hs=>by
  rcases zG.mp (I.stkSub b hs) with z|z
  ·rw [z] at e
   exact absurd (zv e) (Nat.not_lt.mpr I.ok.above)
  ·exact hb z
 obtain⟨m,hn,hl⟩:=id I.loc
 refine⟨I.ok,I.os,I.bare,⟨fun b o e n hb hx=>?_,fun b o e n hb hx=>?_,I.base.free,fun b o e hx=>?_,I.base.tups,I.base.frzs,I.base.tbls⟩,⟨m,up.ns hn,fun i x v e1 e2 e3=>?_⟩,fun x c e=>?_,I.free,I.freeC,fun p hpp=>?_,fun b ob e=>?_,I.len⟩
 ·exact keep b o (I.base.keep b o e n hb hx) (n0 b o e) (nl b o e hb)
 ·obtain ⟨sl,e1⟩:=I.base.slot b o e n hb hx
  have hbs:b∈frs X.stack:=by
   rcases I.ok.stk with z|⟨z,_⟩
   ·rw [z];exact hb
   ·rw [z]
    obtain⟨env',h1,h2⟩:=zaT.mp hb
    exact zaT.mpr ⟨env',zE _ h1,h2⟩
  obtain⟨o2,e2,d2⟩:=I.frame_data hbs
  rw[e1] at e2
  cases e2
  obtain⟨sl2,e3⟩:=up b _ e1 d2
  exact⟨sl2,e3⟩
 ·obtain ⟨o',e1⟩:=I.base.there b o e hx
  by_cases hb:b∈frs X.stack
  ·obtain ⟨o2,e2,d2⟩:=I.frame_data hb
   obtain⟨sl2,e3⟩:=up b _ e2 d2
   exact⟨_,e3⟩
  ·exact ⟨_,keep b _ e1 (n0 b o e) hb⟩
 ·obtain ⟨u,r,l⟩:=hl i x v e1 e2 e3
  refine⟨u,r,?_⟩
  rcases l with l|⟨k1,c,k2,oc,k3,k4⟩
  ·exact .inl l
  ·obtain ⟨sl,k5⟩:=up c oc k3 (by intro vs z;rw[k4] at z;cases z)
   exact .inr ⟨k1,c,k2,_,k5,k4⟩
 ·obtain ⟨v,oc,k3,k4⟩:=I.cell x c e
  obtain⟨sl,k5⟩:=up c oc k3 (by intro vs z;rw[k4] at z;cases z)
  exact⟨v,_,k5,k4⟩
 ·obtain ⟨e,n,ne,nf,d⟩:=I.pin p hpp
  refine⟨keep _ _ e (fun hb=>hp _ hb p hpp rfl) (fun hb=>?_),n,ne,nf,d⟩
  rcases zG.mp (I.stkSub _ hb) with z|z
  ·exact ne z
  ·exact nf z
 ·refine (I.hok b ob e).stay (fun c u hc q=>keep c u q (fun hb=>?_) (fun hb=>?_)) (fun _ q=>q) fun _ _ q=>q
  ·have:=hH c hb
   rcases hc with rfl|hc
   ·rw [this] at e;cases e
   ·rw [this] at hc;cases hc
  ·have:=I.stkFree c hb
   rcases hc with rfl|hc
   ·rw [this] at e;cases e
   ·rw [this] at hc;cases hc
end
structure Fly (h0:Heap)(a:Addr)(cls:Value)(od:Option Addr)(H:Hp)(h:Heap):Prop where
 ex:∃oe vs T oT ts a0,h.get? a=some oe/\(oe.cls=cls/\vs[0]? =some a0)/\oe.data= .fields vs/\vs[1]? =some (.ref T)/\T≠a/\h.get? T=some oT/\oT.data= .fields ts/\ts[3]? =some .none/\h0.get? T=none/\H T=none
 new:h0.get? a=none
 free:H a=none
 dict:q1J h a od
def CXf (P:Program)(w:World):CXT:=fun outer H s E e s'=>∃a cls od H',e= .ref a/\s'.os=s.os/\AllBare s'.gens/\Un (frs outer) [] H H' s.heap s'.heap/\HOk P w H' s'.heap/\Fly s.heap a cls od H' s'.heap/\E cls od H'
section
variable {X:Cx}{pins:List (Addr×Obj)}{σ:St}{H H':Hp}{s s':Shared}{E:XK}
theorem qbg (l:List Env):∀env∈l,∀a,env.frame=some a->a∈frs l:=fun env he a ha=>zaT.mpr ⟨env,he,ha⟩
theorem Inv.zero (I:Inv X pins σ H s){b:Addr}(e:s.heap.get? b=none)(hx:X.ex=[]):X.s₀.heap.get? b=none:=by
 cases q:X.s₀.heap.get? b with
 |none=>rfl
 |some o=>obtain⟨o',e'⟩:=I.base.there b o q (by rw[hx];simp);rw[e] at e';cases e'
end
section
variable {P:Program}{w:World}{K:W.Frag}{mg:Str->Option Value}{base:Heap}{N:List Str}{qual:Str}{scope:Scope}{f:Addr}{cd:Value}{A:Around}{outer:List Env}{s0:Shared}{H0:Hp}{E:XK}
theorem q8j {pins:List (Addr×Obj)}{σ:St}{H:Hp}{s:Shared}{e:Addr}{oe:Obj}{vs:Array Value}{a0:Value}(I:Inv (cxOf (CXf P w) P w K mg base N qual scope f cd A outer s0 H0 E) pins σ H s)
  (he:s.heap.get? e=some oe)(hd:oe.data= .fields vs)(h1:vs[1]? =some .none)(h0:vs[0]? =some a0)(new:s0.heap.get? e=none)(free:H e=none)(hpn:∀p∈(cxOf (CXf P w) P w K mg base N qual scope f cd A outer s0 H0 E).pn++pins,p.1≠e)(hE:E oe.cls oe.dict H):
  (cxOf (CXf P w) P w K mg base N qual scope f cd A outer s0 H0 E).xe (.ref e) s:=by
 have st:(PySem.W.hideAll s.heap (e::frs (envOfC qual scope s0.heap.objs.size f cd::outer))).StaysIn s.heap:=fun b o q=>zb0 _ q
 show wpAny _ _ (leaving _ (.ref e)) _ _ _
 refine qaA (base:=PySem.W.hideAll s.heap (e::frs (envOfC qual scope s0.heap.objs.size f cd::outer))) I.ok.frames rfl st (PySem.W.funFrames_hide I.stack (fun env he b hb=>zE _ (qbg _ env he b hb))) he (zbj _ zY) hd h1 h0 fun h2 fl D2 up=>?_
 obtain⟨f1,f2,f3,oe',vs',T,oT,ts,k1,k2,k3,k4,k5,k6,k7,k8,k9⟩:=fl
 have keep:∀b o,s.heap.get? b=some o->b∉([e]:List Addr)->b∉frs (envOfC qual scope s0.heap.objs.size f cd::outer)->h2.get? b=some o:=fun b o q hb hc=>f1 b o (za7 _ q fun z=>by
  rcases zG.mp z with z|z
  ·exact hb (by rw[z];simp)
  ·exact hc z)
 have one:∀{p:Addr->Prop},p e->∀b∈([e]:List Addr),p b:=fun h1 b hb=>by rw[zA.mp hb];exact h1
 have J:=I.noted (as:=[e]) up keep (one fun o q=>by rw[he] at q;cases q;exact⟨_,hd⟩) (one new) (one free) (one fun p hp=>hpn p hp)
 have hT:s.heap.get? T=none:=by
  cases q:s.heap.get? T with
  |none=>rfl
  |some o=>
   by_cases hb:T∈frs (envOfC qual scope s0.heap.objs.size f cd::outer)
   ·obtain ⟨o2,e2,d2⟩:=I.frame_data hb
    obtain⟨sl,e3⟩:=up T o2 e2 d2
    rw[k7] at e3
    cases e3
    exact absurd k8 (d2 ts)
   ·have:=za7 (l:=e::frs (envOfC qual scope s0.heap.objs.size f cd::outer)) q (fun z=>by
     rcases zG.mp z with z|z
     ·exact k6 z
     ·exact hb z)
    rw[k5] at this;cases this
 exact⟨e,oe.cls,oe.dict,H,rfl,J.os,J.bare,J.base,J.hok,⟨⟨oe',vs',T,oT,ts,_,k1,k2,k3,k4,k6,k7,k8,k9,I.zero hT rfl,I.hok.none_of hT⟩,new,free,D2⟩,hE⟩
end
theorem qcF {K:W.Frag}{h:Heap}{C:Addr}{bmB:List Value}{newId:String}(X:K.In h)(q:PySem.W.excIn K C bmB newId=true):
  ∃bm N nm qn bs hd sn sub ab col dd k0 k1 k2 k3 k5 mN,h.get? C=some (excClassObj nm qn C N bs bm hd sn sub ab col dd k0 k1 k2 k3 k5 newId)/\h.Ns N mN/\mN "__init__"=none/\OwnTail h bmB bm:=by
 unfold PySem.W.excIn at q
 split at q
 case h_2=>cases q
 case h_1 dd cd sl ho=>
  split at q
  case h_2=>cases q
  case h_1 C' bm k0 k1 k2 k3 n k5 hm hs=>
   rw[zac,zac,zac,zac,zac] at q
   obtain⟨⟨⟨⟨⟨q1,q2⟩,q3⟩,q4⟩,q5⟩,q6⟩:=q
   have e1:C'=C:=by simpa using q1
   have e2:n=newId:=by simpa using q2
   have e3:cd.hasDel=false:=by simpa using q3
   have e6:PySem.W.nsIn K cd.ns "__init__"=some none:=by simpa using q6
   obtain⟨a1,a2,a3,a4,a5,a6,a7,a8,a9,a10,a11⟩:=cd
   dsimp only at hm e3 e6 q4 q5
   have esl:sl= #[k0,k1,k2,k3,some (.builtin n),k5]:=by
    cases sl
    rename_i l
    dsimp only at hs
    rw[hs]
   subst e1 e2 esl hm e3
   exact⟨bm,a4,a1,a5,a2,a6,a7,a8,a9,a10,dd,k0,k1,k2,k3,k5,_,X _ _ ho,.of_isNs (PySem.W.isNs_of_in X q5),PySem.W.nsMap_none_of_in X q5 e6,PySem.W.tail_of_in X q4⟩
structure ExcC (K:W.Frag)(C:Addr):Prop where
 ex:∃(newId initId:String) (bmB:List Value),ExcBaseFacts "ValueError" newId initId bmB/\PySem.W.excIn K C bmB newId=true/\bmB.contains (.type "BaseException")=true
structure FlyX (X:Cx)(pins:List (Addr×Obj))(a:Addr)(cls:Value)(od:Option Addr)(H:Hp)(h:Heap):Prop where
 ex:∃oe vs T oT ts a0,h.get? a=some oe/\(oe.cls=cls/\vs[0]? =some a0)/\oe.data= .fields vs/\vs[1]? =some (.ref T)/\T≠a/\h.get? T=some oT/\oT.data= .fields ts/\ts[3]? =some .none/\X.s₀.heap.get? T=none/\H T=none/\∀p∈X.pn++pins,p.1≠T
 new:X.s₀.heap.get? a=none
 free:H a=none
 pn:∀p∈X.pn++pins,p.1≠a
 dict:q1J h a od
def XP (X:Cx)(pins:List (Addr×Obj))(σ:St)(Ex:Value->Option Addr->Hp->Prop)(e:Value)(s':Shared):Prop:=∃a cls od H',e= .ref a/\Inv X pins σ H' s'/\FlyX X pins a cls od H' s'.heap/\Ex cls od H'
theorem xp_of {X:Cx}{pins:List (Addr×Obj)}{σ:St}{H:Hp}{s s':Shared}{E:XK}{e:Value}(I:Inv X pins σ H s)(hx:X.ex=[])(h:CXf X.prog X.w X.stack H s E e s'):XP X pins σ E e s':=by
 obtain⟨a,cls,od,H',rfl,os,bare,un,hok,fly,hE⟩:=h
 have J:Inv X pins σ H' s':=I.call' os un hok bare fun b z=>absurd z (by simp)
 obtain⟨oe,vs,T,oT,ts,a0,k1,k2,k3,k4,k6,k7,k8,k9,hT0,hTH⟩:=fly.ex
 exact⟨a,cls,od,H',rfl,J,⟨⟨oe,vs,T,oT,ts,a0,k1,k2,k3,k4,k6,k7,k8,k9,I.zero hT0 hx,hTH,fun p hp z=>by have:=(I.pin p hp).1;rw[z,hT0] at this;cases this⟩,I.zero fly.new hx,fly.free,(fun p hp z=>by have:=(I.pin p hp).1;rw[z,fly.new] at this;cases this),fly.dict⟩,hE⟩
abbrev TEx:=St->Hp->VK->(Value->Option Addr->Hp->Prop)->Prop
def PEx (X:Cx)(e:Expr)(t:TEx):Prop:=
 ∀(pins:List (Addr×Obj)) (s:Shared) (σ:St) (H:Hp) (Q:VK) (Ex:Value->Option Addr->Hp->Prop),Inv X pins σ H s->t σ H Q Ex->wpAny (model X.prog X.w) X.A (eval e X.env) (EP X pins σ Q) (XP X pins σ Ex) s
abbrev TSx:=Ends->(St->Value->Option Addr->Hp->Prop)->St->Hp->Prop
def XS (X:Cx)(pins:List (Addr×Obj))(Ex:St->Value->Option Addr->Hp->Prop)(e:Value)(s':Shared):Prop:=∃σ,XP X pins σ (Ex σ) e s'
def PSx (X:Cx)(st:Stmt)(t:TSx):Prop:=
 ∀(pins:List (Addr×Obj)) (s:Shared) (σ:St) (H:Hp) (D:Ends) (Ex:St->Value->Option Addr->Hp->Prop),Inv X pins σ H s->t D Ex σ H->wpAny (model X.prog X.w) X.A (exec st X.env) (SP X pins D) (XS X pins Ex) s
def PSsx (X:Cx)(st:List Stmt)(t:TSx):Prop:=
 ∀(pins:List (Addr×Obj)) (s:Shared) (σ:St) (H:Hp) (D:Ends) (Ex:St->Value->Option Addr->Hp->Prop),Inv X pins σ H s->t D Ex σ H->wpAny (model X.prog X.w) X.A (execs st X.env) (SP X pins D) (XS X pins Ex) s
def qbr (sp:Sp)(dvs:List V)(t:TA):TEx:=fun σ H Q Ex=>t σ H fun vs H1=>sp (vs++dvs) H1 Q Ex
def xSet (i:Nat)(te:TEx):TSx:=fun D Ex σ H=>te σ H (fun v H1=>D.nx (σ.set i (some v)) H1) (Ex σ)
section
variable {X:Cx}{k:Nat}{f:Addr}{fd:FuncData}{ps:List Str}{sp:Sp}{dvs:List V}{ds:List Value}{x:Str}{p pos:Pos}{e:Expr}{es:List Expr}{t:TA}
theorem qbF {pins:List (Addr×Obj)}{σ:St}{H:Hp}{s:Shared}{Q:VK}{E:XK}{us:List Value}{vs:List V}(F:FnOk X.prog X.w X.K X.mg X.base (CXf X.prog X.w) k f fd ps sp)(hr:Room k X.A)(hb:q1q X.K fd ps ds)(hd:Vals dvs ds)(hx:X.ex=[])
  (I:Inv X pins σ H s)(r:Vals vs us)(h:sp (vs++dvs) H Q E):wpAny (model X.prog X.w) X.A (call (.ref f) us) (EP X pins σ Q) (XP X pins σ E) s:=by
 have r2:Vals (vs++dvs) (us++ds):=r.append hd
 have hl:(us++ds).length=ps.length:=by rw[<-r2.length];exact F.len _ _ _ _ h
 refine zbr (zbn (F.run X.A X.stack s H ⟨us,[]⟩ (us++ds) (vs++dvs) Q E hr I.env0 (hb s us I.kIn hl) r2 h) fun r s' hq=>?_)
 cases r with
 |error e=>exact xp_of I hx hq
 |ok fl=>
  cases fl with
  |ret u=>exact I.after hq
  |next=>exact False.elim hq
  |brk=>exact False.elim hq
  |cont=>exact False.elim hq
theorem qa8 (F:FnOk X.prog X.w X.K X.mg X.base (CXf X.prog X.w) k f fd ps sp)(hr:Room k X.A)(hg:Gl X x)(hm:X.mg x=some (.ref f))(hk:PySem.W.keepIn X.K (.ref f)=true)(hb:q1q X.K fd ps ds)(hd:Vals dvs ds)(hx:X.ex=[])
  (ha:PA X.nox (e::es) t)(hdb:(x==("__debug__":Str))=false:=by decide)(he:starEach (e::es) X.env=(false,eval e X.env)::starEach es X.env:=by rfl)(hpl:(backTo pos (starEach es X.env)).any (·.1)=false:=by rfl):
  PEx X (.Call (.Name x p) (e::es) [] pos) (qbr sp dvs t):=by
 intro pins s σ H Q Ex I h
 refine zap (q2d I hg hm ?_ hdb)
 refine zaU (h₀:=X.base) I.ok.mod.kin hk (zO (ha pos pins s σ H _ (I.wish _) h) (fun us s1 ⟨vs,H1,I1,r,q⟩=>⟨I1.kIn,?_⟩) fun _ _ z=>False.elim z) he hpl
 exact qbF F hr hb hd hx I1.unwish r q
theorem qbS {i:Nat}{te:TEx}{pos':Pos}(hN:X.N.Nodup)(hi:X.N[i]? =some x)(hx:Loc X.env.scope x)(he:PEx X e te)(hs:swapsWith e (some (.Name x pos')) pos.line X.env=pure false:=by rfl)(hf:X.fn x=true\/X.env.scope.names.lookup x=some .local:=by first|exact .inl rfl|exact .inr rfl|assumption):
  PSx X (.Assign [.Name x pos'] e pos) (xSet i te):=by
 intro pins s σ H D Ex I h
 refine wpAny_Assign_Name (zO (he pins s σ H _ _ I h) (fun v s1 ⟨y,H1,I1,r1,q1⟩=>?_) fun _ _ z=>⟨σ,z⟩) hs
 exact q4C I1 hN hi hx r1 (fun s2 I2=>⟨_,H1,I2,q1⟩) hf
theorem qa1 {st:Stmt}{t:TSx}(h1:PSx X st t):PSsx X [st] t:=by
 intro pins s σ H D Ex I h
 refine zbB (thn (h1 pins s σ H D Ex I h) fun f s1 q=>?_)
 cases f with
 |next=>exact zaM q
 |ret v=>exact q
 |brk=>exact q
 |cont=>exact q
end
abbrev Cx.marked (X:Cx)(v:Value):Cx:={X with A:=X.A.mark (some v),calm:=false,xe:=fun _ _=>False}
section
variable {X:Cx}{pins:List (Addr×Obj)}{σ:St}{H:Hp}{s:Shared}{v:Value}
theorem Cx.Ok.marked (ok:X.Ok)(v:Value):(X.marked v).Ok:=
 ⟨ok.mod,ok.kind,ok.glob,ok.blt,ok.above,ok.inj,ok.has,ok.cab,fun z=>Bool.noConfusion z,ok.frames,ok.stk,ok.exf,ok.bs,ok.bsz,ok.noex,ok.exfs,ok.funs,ok.frf⟩
theorem Inv.marked (I:Inv X pins σ H s)(v:Value):Inv (X.marked v) pins σ H s:=⟨I.ok.marked v,I.os,I.bare,I.base,I.loc,I.cell,I.free,I.freeC,I.pin,I.hok,I.len⟩
theorem Inv.unmarked (ok:X.Ok)(I:Inv (X.marked v) pins σ H s):Inv X pins σ H s:=⟨ok,I.os,I.bare,I.base,I.loc,I.cell,I.free,I.freeC,I.pin,I.hok,I.len⟩
theorem SP.unmarked {D:Ends}{f:Flow}{s':Shared}(ok:X.Ok)(h:SP (X.marked v) pins D f s'):SP X pins D f s':=by
 cases f with
 |next=>obtain⟨σ',H',I,q⟩:=h;exact⟨σ',H',I.unmarked ok,q⟩
 |brk=>obtain⟨σ',H',I,q⟩:=h;exact⟨σ',H',I.unmarked ok,q⟩
 |cont=>obtain⟨σ',H',I,q⟩:=h;exact⟨σ',H',I.unmarked ok,q⟩
 |ret u=>obtain⟨v,σ',H',I,r,q⟩:=h;exact⟨v,σ',H',I.unmarked ok,r,q⟩
end
def q5j:List TE->Nat->TE
 |[],n=>fun _ H Q=>∀z:Str,z.length=n->Q (.str z) H
 |t::ts,n=>fun σ H Q=>t σ H fun x H1=>∃z:Str,x= .str z/\n+z.length<=sizeLine/\q5j ts (n+z.length) σ H1 Q
section
variable {X:Cx}{pos:Pos}{e:Expr}{te:TE}
theorem q8W:∀{es:List Expr} {ts:List TE},Paired (PE X) es ts->∀(acc:Str) (pins:List (Addr×Obj)) (s:Shared) (σ:St) (H:Hp) (Q:VK),acc.length<=sizeLine->Inv X pins σ H s->q5j ts acc.length σ H Q->wpAny (model X.prog X.w) X.A (joinParts acc (evalEach es X.env)) (EP X pins σ Q) X.xe s
 |_,_,.nil,acc,pins,s,σ,H,Q,hz,I,h=>joinParts_nilE (joinParts_nil ⟨.str acc,H,I.tok _,⟨_,rfl⟩,h acc rfl⟩ hz)
 |_,_,.cons p r,acc,pins,s,σ,H,Q,hz,I,h=>by
  refine joinParts_consE (joinParts_cons (thn (p pins s σ H _ I h) fun v s1 ⟨x,H1,I1,rx,z,ez,hl,q⟩=>?_))
  subst ez
  obtain⟨t,rfl⟩:=rx
  have el:(acc++z).length=acc.length+z.length:=q6v acc z
  exact⟨by rw[el];exact hl,q8W r (acc++z) pins s1 σ H1 Q (by rw[el];exact hl) I1 (by rw[el];exact q)⟩
theorem q9d:Str.empty.length=0:=by decide
theorem qc1 {a b:Expr}{es:List Expr}{ts:List TE}(h:Paired (PE X) (a::b::es) ts):PE X (.JoinedStr (a::b::es) pos) (q5j ts 0):=by
 intro pins s σ H Q I hw
 refine JoinedStr_many (q8W h Str.empty pins s σ H Q (by decide) I ?_)
 rw[q9d]
 exact hw
end
def q53:V->Prop
 | .int i=>i.natAbs.log2<1920
 | .str y=>(reprText y).length<=2000
 | .bl _=>True
 | .non=>True
 |_=>False
theorem q8d {h:Heap}{x:V}{u:Value}(r:RelV x u)(hx:q53 x):∃d,Reads h u d []/\d.showable=true/\d.hasDict=false/\d.shown.length<=2000/\d.depth=0:=by
 cases x with
 |non=>cases r;exact⟨.none,.none,rfl,rfl,by walk_at "k",rfl⟩
 |bl b=>cases r;exact⟨.bool b,.bool b,rfl,rfl,by cases b<;>walk_at "k",rfl⟩
 |int i=>
  obtain⟨t,rfl⟩:=r
  exact⟨.int i,.int i t,by simp[PyData.showable];exact hx,rfl,by have:=qcw hx;show(Str.ofString (toString i)).length<=2000;omega,rfl⟩
 |str y=>
  obtain⟨t,rfl⟩:=r
  exact⟨.str y,.str y t,rfl,rfl,hx,rfl⟩
 |byt b=>exact hx.elim
 |flt b=>exact hx.elim
 |ref a=>exact hx.elim
 |ty n=>exact hx.elim
theorem q5p {h:Heap}:∀{xs:List V} {us:List Value},Vals xs us->(∀x∈xs,q53 x)->∃ds,ReadsAll h us ds []/\PyData.showableAll ds=true/\PyData.hasDictAll ds=false/\piled (PyData.shownAll ds)<=2002*xs.length/\(PyData.shownAll ds).length=xs.length/\PyData.depthAll ds=0
 |_,_,.nil,_=>⟨[],.nil,rfl,rfl,by simp[PyData.shownAll,piled],rfl,rfl⟩
 |_,_,.cons (a:=x) r t,hx=>by
  obtain⟨d,k1,k2,k3,k4,k5⟩:=q8d (h:=h) r (hx x zY)
  obtain⟨ds,j1,j2,j3,j4,j5,j6⟩:=q5p (h:=h) t fun y hy=>hx y (zE _ hy)
  refine⟨d::ds,ReadsAll.cons k1 j1,?_,?_,?_,?_,?_⟩
  ·show (d.showable&&PyData.showableAll ds)=true
   rw[k2,j2];rfl
  ·show (d.hasDict||PyData.hasDictAll ds)=false
   rw[k3,j3];rfl
  ·show piled (d.shown::PyData.shownAll ds)<=_
   rw[piled_cons,zaf]
   omega
  ·show (d.shown::PyData.shownAll ds).length=_
   rw[zaf,j5,zaf]
  ·show max d.depth (PyData.depthAll ds)=0
   rw[k5,j6];rfl
theorem q4A {ts:List Str}:(tupleText ts).length<=piled ts+4:=by
 unfold tupleText
 rw[q6v,q6v]
 have h1:((("(":String):Str)).length=1:=by walk_at "k"
 have h2:∀b:Bool,((((if b=true then ",)" else ")"):String):Str)).length<=2:=by intro b;cases b<;>walk_at "k"
 have h3:=h2 (ts.length==1)
 cases ts with
 |nil=>
  have e:(Str.join ((", ":String):Str) []).length=0:=by walk_at "k"
  rw[e]
  omega
 |cons x r=>
  have:=join_length_add (x::r) (by simp)
  omega
section
variable {X:Cx}{pos:Pos}{e:Expr}{te:TE}
def tFt (te:TE):TE:=fun σ H Q=>te σ H fun x H1=>∃p xs,x= .ref p/\H1 p=some (.tup xs)/\xs.length<=20/\(∀y∈xs,q53 y)/\∀z:Str,z.length<=50000->Q (.str z) H1
theorem pe_ft (hg:X.A.guards=some [])(hu:X.A.units+8<cLine)(he:PE X e te):PE X (.FormattedValue e 114 none pos) (tFt te):=by
 intro pins s σ H Q I h
 refine wpAny_FormattedValue_repr (thn (he pins s σ H _ I h) fun v s1 ⟨x,H1,I1,rx,p,xs,ep,hp,hl,hx,q⟩=>?_)
 subst ep
 cases rx
 obtain⟨_,its,r,o,ho,hc,n,hd⟩:=(show q06 X.prog X.w H1 s1.heap p (.tup xs) from I1.hok p _ hp)
 obtain⟨ds,j1,j2,j3,j4,j5,j6⟩:=q5p (h:=s1.heap) r hx
 have big:=qF
 have hz:(PyData.shown (.tuple ds)).length<=50000:=by
  show(tupleText (PyData.shownAll ds)).length<=50000
  have:=q4A (ts:=PyData.shownAll ds)
  omega
 refine pyReprObj_of_reads (h₀:=s1.heap) (d:= .tuple ds) (as:=[]) (.tuple ho hc hd (by simpa using j1)) (by show PyData.showableAll ds=true;exact j2) (fun z=>by rw[show PyData.hasDict (.tuple ds)=PyData.hasDictAll ds from rfl,j3] at z;cases z) hg
  (by show X.A.units+(PyData.depthAll ds+1)<cLine;rw[j6];omega) (fun _ _ z=>z) (fun h' u tk hk=>?_) (by omega)
 exact formatField_str (fun t' tk'=>⟨.str _,H1,(I1.kept (t':=tk') hk),⟨_,rfl⟩,q _ hz⟩) (by omega)
end
structure Caught (X:Cx)(pins:List (Addr×Obj))(a:Addr)(cls:Value)(od:Option Addr)(σ:St)(H:Hp)(s:Shared):Prop where
 inv:Inv X pins σ H s
 fly:FlyX X pins a cls od H s.heap
section
variable {X:Cx}{pins:List (Addr×Obj)}{a:Addr}{cls:Value}{od:Option Addr}{σ:St}{H:Hp}{s:Shared}{h':Heap}
theorem Caught.opened (c:Caught X pins a cls od σ H s)(hx:X.ex=[]):∃base a0,Heap.FlyingW base X.stack a cls a0 s.heap/\∀h5,Heap.FlyingW base X.stack a cls a0 h5->q1J h5 a od->s.heap.UpToSlots h5->Caught X pins a cls od σ H {s with heap:=h5}:=by
 obtain⟨J,fl⟩:=c
 obtain⟨oe,vs,T,oT,ts',a0,j1,j2,j3,j4,j6,j7,j8,j9,hT0,hTH,hTp⟩:=fl.ex
 have st:(PySem.W.hideAll s.heap (a::T::frs X.stack)).StaysIn s.heap:=fun b o w=>zb0 _ w
 have two:∀{p:Addr->Prop},p a->p T->∀b∈([a,T]:List Addr),p b:=fun h1 h2 b hb=>by
  rcases zG.mp hb with rfl|hb
  ·exact h1
  ·rw [zA.mp hb];exact h2
 have ff:=PySem.W.funFrames_hide (as:=a::T::frs X.stack) J.stack (fun env he b hb=>zE _ (zE _ (qbg _ env he b hb)))
 refine⟨_,a0,⟨st,zbj _ zY,ff,oe,vs,T,oT,ts',j1,j2,j3,j4,zbj _ (zE _ zY),j6,j7,j8,j9⟩,fun h5 f D5 up=>?_⟩
 obtain⟨f1,f2,f3,oe2,vs2,T2,oT2,ts2,i1,i2,i3,i4,i5,i6,i7,i8,i9⟩:=f
 have Z:Inv X pins σ H {s with heap:=h5}:=by
  refine J.noted (as:=[a,T]) up (fun b o w hb hc=>f1 b o (za7 _ w fun y=>?_)) (two (fun o w=>by rw[j1] at w;cases w;exact⟨_,j3⟩) (fun o w=>by rw[j7] at w;cases w;exact⟨_,j8⟩)) (two fl.new hT0) (two fl.free hTH) (two fl.pn hTp)
  rcases zG.mp y with y|y
  ·exact hb (by rw[y];simp)
  ·rcases zG.mp y with y|y
   ·exact hb (by rw[y];simp)
   ·exact hc y
 have hT2:X.s₀.heap.get? T2=none/\H T2=none/\∀p∈X.pn++pins,p.1≠T2:=by
  by_cases eT:T2=T
  ·rw [eT];exact⟨hT0,hTH,hTp⟩
  have hn:s.heap.get? T2=none:=by
   cases q:s.heap.get? T2 with
   |none=>rfl
   |some o=>
    by_cases hb:T2∈frs X.stack
    ·obtain ⟨o2,e2,d2⟩:=J.frame_data hb
     obtain⟨sl,e3⟩:=up T2 o2 e2 d2
     rw[i7] at e3
     cases e3
     exact absurd i8 (d2 ts2)
    ·have:=za7 (l:=a::T::frs X.stack) q (fun z=>by
      rcases zG.mp z with z|z
      ·exact i6 z
      ·rcases zG.mp z with z|z
       ·exact eT z
       ·exact hb z)
     rw[i5] at this;cases this
  exact⟨J.zero hn hx,J.hok.none_of hn,fun p hp z=>by have:=(J.pin p hp).1;rw[z,hn] at this;cases this⟩
 exact⟨Z,⟨⟨oe2,vs2,T2,oT2,ts2,a0,i1,i2,i3,i4,i6,i7,i8,i9,hT2.1,hT2.2.1,hT2.2.2⟩,fl.new,fl.free,fl.pn,D5⟩⟩
theorem Caught.type {M:Model}(c:Caught X pins a cls od σ H s):PySem.W.Looks M s.heap (typeOf (.ref a)) cls:=by
 obtain⟨oe,vs,T,oT,ts',a0,j1,j2,_⟩:=c.fly.ex
 exact j2.1▸(PySem.W.Looks.ld j1).andThen .now
end
abbrev TH:=Value->Option Addr->TS
def PH (X:Cx)(hs:List ExceptHandler)(t:TH):Prop:=
 ∀(pins:List (Addr×Obj)) (s:Shared) (σ:St) (H:Hp) (D:Ends) (a:Addr) (cls:Value) (od:Option Addr),Caught X pins a cls od σ H s->t cls od D σ H->wpAny (model X.prog X.w) X.A (handleBy (.ref a) X.env hs) (SP X pins D) X.xe s
structure CalX (P:Program)(w:World)(K:W.Frag)(mg:Str->Option Value)(base:Heap)(k:Nat)(x:Str)(ps:List Str)(sp:Sp):Prop where
 ex:∃f fd,FnOk P w K mg base (CXf P w) k f fd ps sp/\mg x=some (.ref f)/\PySem.W.keepIn K (.ref f)=true/\q1q K fd ps []
section
variable {P:Program}{w:World}{K:W.Frag}{mg:Str->Option Value}{base:Heap}
theorem Laid.calX {x:Str}{st:Stmt}{N ps:List Str}{k:Nat}{sp:Sp}(L:Laid K mg x st ps)(S:FnScope N ps (qh st))(len:∀vs H Q E,sp vs H Q E->vs.length=ps.length)
  (hbody:∀(f:Addr) (cdv:Value) (A:Around) (outer:List Env) (s:Shared) (H:Hp) (vs:List V) (Q:VK) (E:XK),Room k (A.deeper (envOfC x (qh st) s.heap.objs.size f cdv))->sp vs H Q E->
   ∃t,PSs (cxOf (CXf P w) P w K mg base N x (qh st) f cdv A outer s H E) (q0c st) t/\t {nx:=fun _ H'=>Q .non H',rt:=Q} (start N vs) H):CalX P w K mg base (k+1) x ps sp:=by
 obtain⟨f,fd,F,m,b⟩:=L.ex
 refine⟨f,fd,?_,m,F.kp,b⟩
 obtain⟨oc,od,kV,doc,pm,an,cdv,ct,osl,rfl,lk,hcd⟩:=F.ex
 exact fn_of lk hcd S len fun A outer s H vs Q E hr hsp=>hbody f cdv A outer s H vs Q E hr hsp
end
section
variable {X:Cx}{k k':Nat}{x:Str}{ps:List Str}{sp:Sp}{p pos:Pos}{e:Expr}{es:List Expr}{t:TA}{E:XK}{st:Stmt}{ds ds':List Value}{dvs:List V}
theorem qa9 (c:CalX X.prog X.w X.K X.mg X.base k x ps sp)(hX:X.ex=[])(hr:Room k' X.A)(hk:k<=k')(hg:Gl X x)(ha:PA X.nox (e::es) t)(hdb:(x==("__debug__":Str))=false:=by decide)(he:starEach (e::es) X.env=(false,eval e X.env)::starEach es X.env:=by rfl)
  (hpl:(backTo pos (starEach es X.env)).any (·.1)=false:=by rfl):PEx X (.Call (.Name x p) (e::es) [] pos) (qbr sp [] t):=by
 obtain⟨f,fd,F,m,kp,b⟩:=c.ex
 exact qa8 F (hr.mono hk) hg m kp b .nil hX ha hdb he hpl
end
def q8x:Expr->Bool
 | .Starred .. =>false
 |_=>true
theorem q1z {e:Expr}{es:List Expr}{env:Env}(h:q8x e=true):starEach (e::es) env=(false,eval e env)::starEach es env:=by
 cases e<;>first|rfl|cases h
theorem pa_c {X:Cx}{e:Expr}{es:List Expr}{te:TE}{t:TA}(ha:PE X e te)(hr:PA X es t)(h:q8x e=true:=by rfl):PA X (e::es) (qbx te t):=qa ha hr (q1z h)
end L2
namespace L2
open PySem PySem.Spec PySem.Calls PyProof.Rows PySem.W Builtin Builtin.ObjectAttr Builtin.Getset_descriptor
structure ExcT (K:W.Frag)(C:Addr):Prop where
 ga:PySem.W.findIn K (.ref C) "__getattribute__"=some (some (.builtin "BaseException.__getattribute__"))
 gh:PySem.W.findIn K (.ref C) "__getattr__"=some none
 ca:PySem.W.findIn K (.ref C) "__class__"=some (some (.builtin "object.__class__"))
 mo:PySem.W.mroIn K C (.type "object")=some true
 mb:PySem.W.mroIn K C (.type "BaseException")=some true
end L2
namespace L2
open PySem PySem.Spec PySem.Calls PyProof.Rows PySem.W Builtin Builtin.ObjectAttr
def q3U:List Value->Bool
 |[]=>false
 | .ref _::l=>q3U l
 | .type n::l=>(n=="object"&&l.isEmpty)||((n=="ValueError"||n=="Exception"||n=="BaseException")&&q3U l)
 |_::_=>false
structure ExcF (K:W.Frag)(C:Addr):Prop where
 sa:PySem.W.findIn K (.ref C) "__setattr__"=some (some (.builtin "object.__setattr__"))
 cd:(PySem.W.clsIn K C).any (fun cd=>cd.hasDict&&q3U cd.mro)=true
section
variable {prog:Program}{w:World}{A:Around}{E:Value->Shared->Prop}{h:Heap}{g:Array GenState}{d:PySem.Drawn}{t:Nat}{os:OsState}{K:W.Frag}{x C:Addr}{ox:Obj}{od:Option Obj}
theorem own_sa (n:String)(h:(n=="ValueError"||n=="Exception"||n=="BaseException")=true):builtinOwn n "__setattr__"=none/\(n=="_thread._local")=false/\(n=="_pickle.Pickler"||n=="_pickle.Unpickler")=false:=by
 simp only[Bool.or_eq_true,beq_iff_eq] at h
 rcases h with(rfl|rfl)|rfl<;>walk_at "k"
theorem own_so:∃v,builtinOwn "object" "__setattr__"=some v/\isObjects "object" ("__setattr__":Str).toString=true:=by
 refine⟨_,rfl,by walk_at "k"⟩
theorem q8i {M:Model}{s:Shared}{Q:Unit->Shared->Prop}{self:Value}(X:K.In s.heap)(LT:Looks M s.heap (typeOf self) (.ref C)){cd:ClassData}(hc:clsIn K C=some cd)(hm:q3U cd.mro=true)(hq:Q () s):wpAny M A (refuseIfOverridden self "__setattr__") Q E s:=by
 unfold refuseIfOverridden
 refine yD (LT.here ?_)
 have LM:Looks M s.heap (mroOf (.ref C)) cd.mro:=(looks_clsIn X hc).andThen .now
 refine yD (LM.here ?_)
 refine yD ?_
 generalize cd.mro=l at hm
 induction l with
 |nil=>cases hm
 |cons v l ih=>
  rw[zcq]
  cases v with
  |ref a=>exact yD (zl (ih hm))
  |type n=>
   unfold q3U at hm
   rw[Bool.or_eq_true] at hm
   rcases hm with hm|hm
   ·rw [zac] at hm
    obtain⟨h1,h2⟩:=hm
    obtain rfl:n="object":=by simpa using h1
    obtain⟨v,e1,e2⟩:=own_so
    refine yD ?_
    refine zH (by walk_at "k") (zH (by walk_at "k") ?_)
    rw[show classOwn (.type "object") "__setattr__"=pure (builtinOwn "object" "__setattr__") from rfl,e1]
    refine yD (zl ?_)
    refine zaR rfl ?_
    rw[e2]
    exact zH rfl (zl (zl (zl hq)))
   ·rw [zac] at hm
    obtain⟨e1,e2,e3⟩:=own_sa n hm.1
    refine yD ?_
    dsimp only
    rw[e2,e3]
    refine zH rfl (zH rfl ?_)
    rw[show classOwn (.type n) "__setattr__"=pure (builtinOwn n "__setattr__") from rfl,e1]
    exact yD (zl (zH rfl (zl (ih hm.2))))
  |_=>cases hm
theorem q6Q {Q:Fin->Shared->Prop}{dx:Addr}{mA:Str->Option Value}{name:Str}{v:Value}{tk:Tok}{ns:List Str}{s:Shared}(hn:s.heap.Ns1 dx mA)(hw:PySem.Within mA ns)(hsz:ns.length<=1000)
  (hq:∀h',(h'.Ns1 dx fun y=>if y=name then some v else mA y)->Heap.SameBut dx s.heap h'->Q (.done (.ret .none)) {s with heap:=h',toks:=s.toks+1}):wpAny (model prog w) A (storeInDict dx (.str name tk) name v) Q E s:=by
 unfold storeInDict
 refine yD (zl (yD ?_))
 refine wpAny_nsSet1 hn fun h' hn2 hs2=>?_
 obtain⟨oD,esD,epD,hoD,hdD,hcD⟩:=hn2.count (PySem.Within.cons name v hw)
 refine yD (wpAny_lookBehind hoD (by rw[hdD];exact pastItsLine_dict (zab hcD (by rw[zaf];have:=qF;omega))) ?_)
 exact zl (hq h' hn2 hs2)
theorem q9a {name:Str}{v:Value}{Q:Unit->Shared->Prop}{s:Shared}(X:K.In s.heap)(I:InstAt s.heap x ox C od)(q:ExcF K C)(qt:ExcT K C)(hf:PySem.W.findIn K (.ref C) name=some none)
  (h:∀s',s'.heap=s.heap->s'.gens=s.gens->s'.os=s.os->wpAny (model prog w) A.in1 (do
   let __do_lift<-ownDictForStores (.ref x)
   match __do_lift with
    |some d=>storeInDict d (.str name s.toks) name v
    |none=>noDictFor (.ref x) (.ref C) name false) (fun fin s2=>match fin with
     | .done (.ret _)=>Q () s2
     |_=>False) E s'):wpAny (model prog w) A (setAttr (.ref x) name v) Q E s:=by
 obtain⟨cd,hc,hg⟩:=any_some q.cd
 rw[zac] at hg
 have SF:=F.store_object
 refine PySem.W.set_plain X I q.sa ?_
 have LT:=I.type (M:=model prog w)
 have sub:Looks (model prog w) s.heap (isInstance (.ref x) (.type "object")) true:=LT.andThen (looks_mroIn X qt.mo)
 have sk:=SF.kind
 have ss:=SF.split
 have sa:=SF.args (.ref x) (.str name s.toks) v
 refine codeAny_call_builtin SF.slot.plain SF.entry ?_
 refine PySem.W.check_slot (s:={s with toks:=s.toks+1}) (i:="object.__setattr__") (owner:="object") (n:="__setattr__") (self:= .ref x) (rest:=[.str name s.toks,v]) (kw:=[]) sk ss sub sa ?_
 unfold Builtin.«object.__setattr__»
 refine zH rfl ?_
 refine yD (q8i (s:={s with toks:=s.toks+1}) X LT hc hg.2 ?_)
 refine yD (zl ?_)
 refine yD (LT.here (s:={s with toks:=s.toks+1}) ?_)
 refine yD ((looks_findIn X hf).here (s:={s with toks:=s.toks+1}) ?_)
 refine yD (zl ?_)
 unfold storeInOwnDict
 refine yD (zl ?_)
 refine zH rfl ?_
 refine zO (h {s with toks:=s.toks+1} rfl rfl rfl) (fun fin s2 z=>?_) fun _ _ z=>z
 cases fin with
 |done f=>cases f<;>first|exact z|exact z.elim
 |again c=>exact z.elim
end
end L2
namespace L2
open PySem PySem.Spec PySem.Calls PyProof.Rows PySem.W Builtin Builtin.ObjectAttr
def ExcO (e C:Addr)(od:Option Addr):HO:= .ext fun h=>∃t sl,h.get? e=some (q3b C od t sl)
def XdO (d:Addr)(fs:List (Str×V)):HO:= .ext fun h=>fs.length<=900/\∃mA,h.Ns1 d mA/\(∀f,RelO (fs.lookup f) (mA f))/\PySem.Within mA (fs.map (·.1))
section
variable {P:Program}{w:World}{H:Hp}{h:Heap}{e C d:Addr}{od:Option Addr}{fs:List (Str×V)}
theorem q6A {t:Addr}{sl:Array (Option Value)}(q:h.get? e=some (q3b C od t sl)):q06 P w H h e (ExcO e C od):=⟨⟨t,sl,q⟩,⟨_,q⟩,fun _ _ ⟨t,sl,q⟩ k=>⟨t,sl,k _ q⟩⟩
theorem q7V {mA:Str->Option Value}(hl:fs.length<=900)(n:h.Ns1 d mA)(r:∀f,RelO (fs.lookup f) (mA f))(wi:PySem.Within mA (fs.map (·.1))):q06 P w H h d (XdO d fs):=
 ⟨⟨hl,mA,n,r,wi⟩,let ⟨o,_,_,q,_⟩:=n;⟨o,q⟩,fun _ _ ⟨hl,mA,⟨o,es,ep,q,z⟩,r⟩ k=>⟨hl,mA,⟨o,es,ep,k _ q,z⟩,r⟩⟩
end
section
variable {X:Cx}{pins:List (Addr×Obj)}{σ:St}{H:Hp}{s:Shared}{e C d:Addr}{fs:List (Str×V)}{f:Str}{y:V}{u:Value}{A:Around}{E:Value->Shared->Prop}{Q:Unit->Shared->Prop}
theorem q7T (I:Inv X pins σ H s)(e1:H e=some (ExcO e C (some d)))(e2:H d=some (XdO d fs))(q:ExcF X.K C)(qt:ExcT X.K C)(hf:PySem.W.findIn X.K (.ref C) f=some none)(hl:fs.length<900)(ry:RelV y u)
  (h:∀s',Inv X pins σ (upd H d (XdO d (putF f y fs))) s'->Q () s'):wpAny (model X.prog X.w) A (setAttr (.ref e) f u) Q E s:=by
 obtain⟨⟨t,sl,ho⟩,_,_⟩:=(show q06 X.prog X.w H s.heap e (ExcO e C (some d)) from I.hok e _ e1)
 obtain⟨⟨_,mA,hn,r,wi⟩,_,_⟩:=(show q06 X.prog X.w H s.heap d (XdO d fs) from I.hok d _ e2)
 obtain⟨od,es,ep,hd,hr⟩:=id hn
 obtain⟨cd,hc,hg⟩:=any_some q.cd
 rw[zac] at hg
 refine q9a (ox:=q3b C (some d) t sl) (od:=some od) I.kIn ⟨ho,rfl,rfl,hd⟩ q qt hf fun s' z1 z2 z3=>?_
 unfold ownDictForStores instanceDict
 refine yD (yD (zct (by rw[z1];exact ho) ?_))
 refine yD ((looks_clsIn (by rw[z1];exact I.kIn) hc).here ?_)
 rw[hg.1]
 refine zH rfl (zl ?_)
 refine q6Q (ns:=fs.map (·.1)) (by rw[z1];exact hn) wi (by rw[yC];omega) fun h' hn2 hs2=>?_
 obtain⟨hp,g,dd,tk,os⟩:=s
 obtain⟨hp',g',dd',tk',os'⟩:=s'
 dsimp only at z1 z2 z3
 subst z1 z2 z3
 refine h _ ?_
 have J:Inv X pins σ (upd H d (XdO d (putF f y fs))) {heap:=h',gens:=g',drawn:=dd,toks:=tk'+1,os:=os'}:=by
  refine I.write (x:=d) (e:=d) (by rw[e2];exact True.intro) (.inl rfl) (fun b q hb z=>(hs2.2 b hb).trans z) (let ⟨o,_,_,q,_⟩:=hn2;⟨o,q⟩) ?_
  refine q7V (by have:=q2R f y fs;omega) hn2 (fun g=>?_) fun g hg=>?_
  ·rw [qQ]
   by_cases q:g=f
   ·rw [zt q,zt q];exact ry
   ·rw [zo q,zo q];exact r g
  ·by_cases q:g=f
   ·rw [q];exact(q2p f y fs).1
   ·refine (q2p f y fs).2 g (wi g fun z=>hg ?_)
    rw[zo q];exact z
 exact⟨J.ok,J.os,J.bare,J.base,J.loc,J.cell,J.free,J.freeC,J.pin,J.hok,J.len⟩
theorem q7g (I:Inv X pins σ H s)(e1:H e=some (ExcO e C none))(q:ExcF X.K C)(qt:ExcT X.K C)(hf:PySem.W.findIn X.K (.ref C) f=some none)(ry:RelV y u)
  (h:∀d s',H d=none->d≠e->Inv X pins σ (upd (upd (upd H d (XdO d [])) e (ExcO e C (some d))) d (XdO d [(f,y)])) s'->Q () s'):wpAny (model X.prog X.w) A (setAttr (.ref e) f u) Q E s:=by
 obtain⟨⟨t,sl,ho⟩,_,_⟩:=(show q06 X.prog X.w H s.heap e (ExcO e C none) from I.hok e _ e1)
 obtain⟨cd,hc,hg⟩:=any_some q.cd
 rw[zac] at hg
 refine q9a (ox:=q3b C none t sl) (od:=none) I.kIn ⟨ho,rfl,rfl,True.intro⟩ q qt hf fun s' z1 z2 z3=>?_
 have hlt:e<s.heap.objs.size:=zv ho
 have hde:s.heap.objs.size≠e:=zck hlt
 have hdn:H s.heap.objs.size=none:=I.hok.fresh (zn _)
 unfold ownDictForStores instanceDict
 refine yD (yD (zct (by rw[z1];exact ho) ?_))
 refine yD ((looks_clsIn (by rw[z1];exact I.kIn) hc).here ?_)
 rw[hg.1]
 refine zH rfl ?_
 refine zH rfl ?_
 obtain⟨hp,g,dd,tk,os⟩:=s
 obtain⟨hp',g',dd',tk',os'⟩:=s'
 dsimp only at z1 z2 z3 ho hlt hde hdn
 subst z1 z2 z3
 refine yD (wpAny_alloc' ?_)
 have ho2:(hp'.push {cls:= .type "dict",data:= .dict #[]}).get? e=some (q3b C none t sl):=zm _ ho
 refine yD (wpAny_update' ho2 ?_)
 refine zl ?_
 have he3:((hp'.push {cls:= .type "dict",data:= .dict #[]}).update e fun o=>{cls:=o.cls,dict:=some hp'.objs.size,data:=o.data,slots:=o.slots}).get? e=some (q3b C (some hp'.objs.size) t sl):=zaa _ ho2 rfl
 have kp:∀b o,b≠e->(hp'.push {cls:= .type "dict",data:= .dict #[]}).get? b=some o->((hp'.push {cls:= .type "dict",data:= .dict #[]}).update e fun o=>{cls:=o.cls,dict:=some hp'.objs.size,data:=o.data,slots:=o.slots}).get? b=some o:=fun b o hb z=>by
  rw[zT _ _ (Ne.symm hb)]
  exact z
 have hd0:(hp'.push {cls:= .type "dict",data:= .dict #[]}).get? hp'.objs.size=some {cls:= .type "dict",data:= .dict #[]}:=zB hp' rfl
 have n1:(hp'.push {cls:= .type "dict",data:= .dict #[]}).Ns1 hp'.objs.size (fun _=>none):=Heap.Ns1.of_empty ⟨_,#[],_,hd0,rfl,(fun e he=>absurd he (by simp)),fun _=>rfl⟩
 have I1:Inv X pins σ (upd H hp'.objs.size (XdO hp'.objs.size [])) {heap:=hp'.push {cls:= .type "dict",data:= .dict #[]},gens:=g',drawn:=dd,toks:=tk',os:=os'}:=
  I.laid (a:=hp'.objs.size) (o:=XdO hp'.objs.size []) (fun b u q=>zm _ q) (zn _) (q7V (by simp) n1 (fun _=>True.intro) fun y hy=>absurd rfl hy)
 have e1':upd H hp'.objs.size (XdO hp'.objs.size []) e=some (ExcO e C none):=by rw[qq (Ne.symm hde)];exact e1
 have I2:Inv X pins σ (upd (upd H hp'.objs.size (XdO hp'.objs.size [])) e (ExcO e C (some hp'.objs.size))) {heap:=(hp'.push {cls:= .type "dict",data:= .dict #[]}).update e fun o=>{cls:=o.cls,dict:=some hp'.objs.size,data:=o.data,slots:=o.slots},gens:=g',drawn:=dd,toks:=tk',os:=os'}:=
  I1.write (x:=e) (e:=e) (by rw[e1'];exact True.intro) (.inl rfl) kp ⟨_,he3⟩ (q6A he3)
 have n2:=n1.at (h':=(hp'.push {cls:= .type "dict",data:= .dict #[]}).update e fun o=>{cls:=o.cls,dict:=some hp'.objs.size,data:=o.data,slots:=o.slots}) fun o q=>kp _ o hde q
 refine q6Q (ns:=[]) n2 (fun y hy=>absurd rfl hy) (by simp) fun h' hn2 hs2=>?_
 refine h hp'.objs.size _ hdn hde ?_
 have e2':upd (upd H hp'.objs.size (XdO hp'.objs.size [])) e (ExcO e C (some hp'.objs.size)) hp'.objs.size=some (XdO hp'.objs.size []):=by rw[qq hde,qe]
 have J:Inv X pins σ (upd (upd (upd H hp'.objs.size (XdO hp'.objs.size [])) e (ExcO e C (some hp'.objs.size))) hp'.objs.size (XdO hp'.objs.size [(f,y)])) {heap:=h',gens:=g',drawn:=dd,toks:=tk'+1,os:=os'}:=by
  refine I2.write (x:=hp'.objs.size) (e:=hp'.objs.size) (by rw[e2'];exact True.intro) (.inl rfl) (fun b q hb z=>(hs2.2 b hb).trans z) (let ⟨o,_,_,q,_⟩:=hn2;⟨o,q⟩) ?_
  refine q7V (by simp) hn2 (fun g=>?_) fun g hg=>?_
  ·by_cases q:g=f
   ·rw [zt q,q]
    show RelO (match f==f with|true=>some y|false=>none) (some u)
    rw[show(f==f)=true by simp]
    exact ry
   ·rw [zo q]
    show RelO (match g==f with|true=>some y|false=>none) none
    rw[show(g==f)=false by simpa using q]
    exact True.intro
  ·by_cases q:g=f
   ·rw [q];simp
   ·exact absurd (by rw[zo q]) hg
 exact⟨J.ok,J.os,J.bare,J.base,J.loc,J.cell,J.free,J.freeC,J.pin,J.hok,J.len⟩
end
def sFldX (K:W.Frag)(ta tv:TE)(f:Str):TS:=fun D σ H=>tv σ H fun y H1=>ta σ H1 fun x H2=>∃e C,x= .ref e/\ExcF K C/\ExcT K C/\PySem.W.findIn K (.ref C) f=some none/\
 ((H2 e=some (ExcO e C none)/\∀d,H2 d=none->d≠e->D.nx σ (upd (upd (upd H2 d (XdO d [])) e (ExcO e C (some d))) d (XdO d [(f,y)])))\/
  ∃d fs,H2 e=some (ExcO e C (some d))/\H2 d=some (XdO d fs)/\fs.length<900/\D.nx σ (upd H2 d (XdO d (putF f y fs))))
section
variable {X:Cx}{o value:Expr}{ta tv:TE}{f:Str}{pos pos':Pos}
theorem q8t (K:W.Frag)(ha:PE X o ta)(hv:PE X value tv)(hs:swapsWith value (some (.Attribute o f pos')) pos.line X.env=pure false)(hK:X.K=K:=by rfl):PS X (.Assign [.Attribute o f pos'] value pos) (sFldX K ta tv f):=by
 subst hK
 intro pins s σ H D I h
 refine plainObj_wpAny_Assign_Attribute (thn (hv pins s σ H _ I h) fun u s1 ⟨y,H1,I1,ry,q⟩=>thn (ha pins s1 σ H1 _ I1 q) fun ov s2 ⟨x,H2,I2,rx,e,C,ex,qf,qt,hf,q2⟩=>?_) hs
 subst ex
 obtain rfl:ov=Value.ref e:=rx
 rcases q2 with⟨e1,q2⟩|⟨d,fs,e1,e2,hl,q2⟩
 ·exact q7g I2 e1 qf qt hf ry fun d s3 hd hn I3=>⟨σ,_,I3,q2 d hd hn⟩
 ·exact q7T I2 e1 e2 qf qt hf hl ry fun s3 I3=>⟨σ,_,I3,q2⟩
end
structure BaseI (K:W.Frag)(D:Addr):Prop where
 rd:PySem.W.readsIn K D (.type "type")=true
 fc:PySem.W.findCls K (.ref D) (.type "type") "__init__"=some (.val (.builtin "ValueError.__init__"))
 sg:PySem.W.specialIn K (.ref D) "__getattribute__"=some (some (.builtin "type.__getattribute__"))
abbrev vmro:List Value:=[.type "ValueError",.type "Exception",.type "BaseException",.type "object"]
structure ExcL (K:W.Frag)(C D:Addr):Prop where
 c:∃dd n1 n2 n4 n5 n7 n8 n9 n10 k0 k1 k2 k3 k5,K.lookup C=some ⟨.type "type",dd,.cls ⟨n1,n2,[.ref C,.ref D,.type "ValueError",.type "Exception",.type "BaseException",.type "object"],n4,n5,true,n7,n8,n9,n10,false⟩,#[k0,k1,k2,k3,some (.builtin "ValueError.__new__"),k5]⟩
 d:∃dd n1 n2 n4 n5 n6 n7 n8 n9 n10 n11 sl,K.lookup D=some ⟨.type "type",dd,.cls ⟨n1,n2,[.ref D,.type "ValueError",.type "Exception",.type "BaseException",.type "object"],n4,n5,n6,n7,n8,n9,n10,n11⟩,sl⟩
 e:PySem.W.excIn K D vmro "ValueError.__new__"=true
def q7S (K:W.Frag)(C:Addr):Prop:=∃D,ExcL K C D
theorem ExcL.f {K:W.Frag}{C D:Addr}(l:ExcL K C D)(sa:PySem.W.findIn K (.ref C) "__setattr__"=some (some (.builtin "object.__setattr__"))):ExcF K C:=by
 refine⟨sa,?_⟩
 obtain⟨dd,n1,n2,n4,n5,n7,n8,n9,n10,k0,k1,k2,k3,k5,h⟩:=l.c
 unfold PySem.W.clsIn
 rw[h]
 rfl
theorem q4T {K:W.Frag}{h:Heap}{C:Addr}(X:K.In h)(q:q7S K C):
  ∃bm N nm qn bs hd sn sub ab col dd k0 k1 k2 k3 k5,h.get? C=some (excClassObj nm qn C N bs bm hd sn sub ab col dd k0 k1 k2 k3 k5 "ValueError.__new__")/\OwnTail h vmro bm:=by
 obtain⟨D,l⟩:=q
 obtain⟨dd,n1,n2,n4,n5,n7,n8,n9,n10,k0,k1,k2,k3,k5,hC⟩:=l.c
 obtain⟨dd',m1,m2,m4,m5,m6,m7,m8,m9,m10,m11,sl,hD⟩:=l.d
 obtain⟨bm,N,nm,qn,bs,hdd,sn,sub,ab,col,ddd,j0,j1,j2,j3,j5,mN,hD2,hN,hni,TL⟩:=qcF X l.e
 have e:=(X _ _ hD).symm.trans hD2
 have eb:bm=vmro:=by
  injection e with e
  injection e with _ _ e3 _
  injection e3 with e3
  injection e3 with _ _ e4
  injection e4 with _ e5
  exact e5.symm
 subst eb
 exact⟨.ref D::vmro,n4,n1,n5,n2,true,n7,n8,n9,n10,dd,k0,k1,k2,k3,k5,X _ _ hC,.own hD2 hN hni .base⟩
structure ExcI (K:W.Frag)(C f:Addr):Prop where
 cls:q7S K C
 init:PySem.W.findIn K (.ref C) "__init__"=some (some (.ref f))
 fn:PySem.W.isFn K (.ref f)=true
 kp:PySem.W.keepIn K (.ref C)=true
def tBI (K:W.Frag)(t:TA):TE:=fun σ H Q=>t σ H fun vs H1=>∃a C od rest,vs= .ref a::rest/\H1 a=some (ExcO a C od)/\q7S K C/\rest.length<=sizeLine/\Q .non H1
section
variable {X:Cx}{x:Str}{D:Addr}{e:Expr}{es:List Expr}{t:TA}{op apos pos:Pos}
theorem pe_bi {pl:Sem Bool}(K:W.Frag)(b:BaseI K D)(hg:Gl X x)(hm:X.mg x=some (.ref D))(ha:PA X (e::es) t)(hdb:(x==("__debug__":Str))=false:=by decide)
  (hst:starEach (e::es) X.env=(false,eval e X.env)::starEach es X.env:=by rfl)(hpl:(backTo pos (starEach es X.env)).any (·.1)=false:=by rfl)
  (ht:eval (.Call (.Attribute (.Name x op) "__init__" apos) (e::es) [] pos) X.env=(do
   let ov<-eval (.Name x op) X.env
   standAt apos.atName
   let (f,first)<-holding [ov] (getMethod ov "__init__" pl)
   callWith pos f first (backTo pos (starEach (e::es) X.env)) (backToKw pos (keywordEach [] X.env))):=by rfl)(hK:X.K=K:=by rfl):
  PE X (.Call (.Attribute (.Name x op) "__init__" apos) (e::es) [] pos) (tBI K t):=by
 subst hK
 intro pins s σ H Q I h
 refine zbf (pl:=pl) (q2d I hg hm ?_ hdb) ht
 refine PySem.W.method_cls I.kIn b.sg (PySem.W.cls_value I.kIn b.rd b.fc rfl ?_)
 have I1:=I.tok (s.toks+1)
 have hA:=ha pos pins _ σ H _ I1 h
 rw[hst] at hA ⊢
 refine zby (by show(false||(backTo pos (starEach es X.env)).any (·.1))=false;rw[hpl];rfl) (Calls.evalArgs_plain ?_)
 refine thn hA fun us s2 ⟨vs,H2,I2,r2,a,C,od,rest,ev,e1,q,hl,q2⟩=>?_
 subst ev
 cases r2 with
 |cons rx rr=>
  have rx':=(show _=Value.ref a from rx)
  subst rx'
  obtain⟨⟨t0,sl,ho⟩,_,_⟩:=(show q06 X.prog X.w H2 s2.heap a (ExcO a C od) from I2.hok a _ e1)
  obtain⟨bm,N,nm,qn,bs,hd,sn,sub,ab,col,dd,k0,k1,k2,k3,k5,hC,TL⟩:=q4T I2.kIn q
  obtain⟨hp,g,d,tk,os⟩:=s2
  refine q4k F.excBase_ValueError TL hC ho (by rw[<-rr.length];exact hl) fun h' t' kp he'=>?_
  refine⟨.non,H2,?_,rfl,q2⟩
  have J:Inv X pins σ (upd H2 a (ExcO a C od)) {heap:=h',gens:=g,drawn:=d,toks:=tk,os:=os}:=I2.write (x:=a) (e:=a) (by rw[e1];exact True.intro) (.inl rfl) (fun b u hb z=>kp b u hb z) ⟨_,he'⟩ (q6A he')
  have eq:upd H2 a (ExcO a C od)=H2:=by
   funext b
   by_cases hb:b=a
   ·rw [hb,qe,e1]
   ·rw [qq hb]
  rw[eq] at J
  exact J
end
def del (H:Hp)(e:Addr):Hp:=fun b=>if b=e then none else H b
theorem q4V {H:Hp}{e:Addr}:del H e e=none:=by unfold del;rw[if_pos rfl]
theorem q3c {H:Hp}{e b:Addr}(h:b≠e):del H e b=H b:=by unfold del;rw[if_neg h]
section
variable {X:Cx}{pins:List (Addr×Obj)}{σ:St}{H:Hp}{s:Shared}{h':Heap}
theorem Inv.laidN {a:Addr}{o:HO}{t':Nat}(I:Inv X pins σ H s)(k:∀b u,s.heap.get? b=some u->h'.get? b=some u)(new:s.heap.get? a=none)(ok:q06 X.prog X.w (upd H a o) h' a o):Inv X pins σ (upd H a o) {s with heap:=h',toks:=t'}:=by
 have hn:=I.hok.none_of new
 refine I.un ⟨fun b u q _ _ _=>k b u q,fun b u q _ _ _=>⟨u.slots,k b u q⟩,fun b u q n _=>?_,fun b u q _=>⟨u,k b u q⟩,fun b xs q=>?_,fun b u xs q=>?_,fun b ps q=>⟨#[],?_⟩⟩ fun b u e=>?_
 ·rw [qq (fun z=>by rw[z,new] at q;cases q)];exact n
 ·rw [qq (qv q hn)];exact q
 ·rw [qq (qv q hn)];exact q
 ·rw [qq (qv q hn),q];simp
 ·by_cases hb:b=a
  ·subst hb;rw[qe] at e;cases e;exact ok
  ·rw [qq hb] at e
   exact(I.hok b u e).stay (fun c v _ q=>k c v q) (fun c q=>by rw[qq (qv q hn)];exact q) fun c xs q=>by rw[qq (qv q hn)];exact q
theorem Inv.drop {a:Addr}{φ:Heap->Prop}(I:Inv X pins σ H s)(new:X.s₀.heap.get? a=none)(e:H a=some (.ext φ)):Inv X pins σ (del H a) s:=by
 have nt:∀{b:Addr} {xs:List V},H b=some (.tup xs)->b≠a:=fun {b xs} q z=>by subst z;rw[e] at q;cases q
 have no:∀{b c:Addr},H b=some (.own c)->b≠a:=fun {b c} q z=>by subst z;rw[e] at q;cases q
 have none':∀{b:Addr},H b=none->del H a b=none:=fun {b} q=>by
  by_cases z:b=a
  ·rw [z,q4V]
  ·rw [q3c z];exact q
 refine⟨I.ok,I.os,I.bare,⟨I.base.keep,I.base.slot,fun b o q n hx=>none' (I.base.free b o q n hx),I.base.there,fun b xs q=>?_,fun b o u q=>?_,fun b ps q=>?_⟩,I.loc,I.cell,none' I.free,fun x c q=>none' (I.freeC x c q),fun p hp=>?_,fun b o q=>?_,I.len⟩
 ·have:=I.base.tups b xs q
  rw[q3c (nt this)];exact this
 ·have:=I.base.frzs b o u q
  rw[q3c (fun z=>by subst z;rw[e] at this;cases this)];exact this
 ·obtain ⟨more,q2⟩:=I.base.tbls b ps q
  exact⟨more,by rw[q3c (fun z=>by subst z;rw[e] at q2;cases q2)];exact q2⟩
 ·obtain ⟨q,n,r⟩:=I.pin p hp
  exact⟨q,none' n,r⟩
 ·have z:b≠a:=fun z=>by rw[z,q4V] at q;cases q
  rw[q3c z] at q
  exact(I.hok b o q).stay (fun _ _ _ q=>q) (fun c q=>by rw[q3c (no q)];exact q) fun c xs q=>by rw[q3c (nt q)];exact q
end
section
variable {X:Cx}{k:Nat}{f C:Addr}{fd:FuncData}{ps:List Str}{sp:Sp}{x:Str}{p pos np cpos:Pos}{e:Expr}{es:List Expr}{t:TA}{E:XK}
theorem q8h {pins:List (Addr×Obj)}{σ:St}{H:Hp}{s:Shared}{Q:Addr->Hp->Prop}{us:List Value}{vs:List V}(c:ExcI X.K C f)(F:FnOk X.prog X.w X.K X.mg X.base CX0 k f fd ps sp)(hr:Room (k+1) X.A)(hb:q1q X.K fd ps [])(I:Inv X pins σ H s)(r:Vals vs us)(hl:vs.length<=sizeLine)
  (h:∀e,H e=none->sp (.ref e::vs) (upd H e (ExcO e C none)) (fun v H2=>v= .non/\Q e H2) E0):wpAny (model X.prog X.w) X.A (call (.ref C) us) (fun u s'=>∃a H',u= .ref a/\s.heap.get? a=none/\Inv X pins σ H' s'/\Q a H') X.xe s:=by
 obtain⟨bm,N,nm,qn,bs,hd,sn,sub,ab,col,dd,k0,k1,k2,k3,k5,hC,TL⟩:=q4T I.kIn c.cls
 have hfn:∃oI,s.heap.get? f=some oI/\oI.cls= .type "function":=by
  have q:Option.map (fun x:Obj=>x.cls) (X.K.lookup f)=some (.type "function"):=beq_iff_eq.mp c.fn
  cases hk:X.K.lookup f with
  |none=>rw[hk] at q;cases q
  |some o=>
   rw[hk] at q
   exact⟨o,I.kIn _ _ hk,zC q⟩
 obtain⟨oI,hfI,hfc⟩:=hfn
 obtain⟨hp,g,d,tk,os⟩:=s
 refine q7O zb8 TL hC (PySem.W.looks_findIn I.kIn c.init) hfI hfc (fun h' a hm=>?_) (by rw[<-r.length];exact hl)
 obtain⟨t0,ht,_⟩:=hm.there
 have I2:Inv X pins σ (upd H a (ExcO a C none)) {heap:=h',gens:=g,drawn:=d,toks:=tk,os:=os}:=I.laidN hm.keeps hm.new (q6A (sl:= #[]) ht)
 have hq:=h a (I.hok.none_of hm.new)
 have r2:Vals (V.ref a::vs) (Value.ref a::us):= .cons rfl r
 have hl2:(Value.ref a::us++([]:List Value)).length=ps.length:=by
  rw[zJ,<-r2.length]
  exact F.len _ _ _ _ hq
 refine zbr (zbn (F.run _ X.stack _ _ ⟨Value.ref a::us,[]⟩ (Value.ref a::us) _ _ E0 (hr.make C us []) (I2.env0.make C us []) (by have:=hb _ (Value.ref a::us) I2.kIn hl2;rw[zJ] at this;exact this) r2 hq) fun r s' hq'=>?_)
 cases r with
 |error e=>exact q6r pins σ _ _ e s' I2 hq'
 |ok fl=>
  cases fl with
  |ret u=>
   obtain⟨v,H',I3,rv,ev,q3⟩:=I2.after hq'
   subst ev
   exact⟨rv,a,H',rfl,hm.new,I3,q3⟩
  |next=>exact False.elim hq'
  |brk=>exact False.elim hq'
  |cont=>exact False.elim hq'
def q6J (X:Cx)(E:XK):Prop:=∀(pins:List (Addr×Obj)) (σ:St) (H:Hp) (s:Shared) (e:Addr) (oe:Obj) (vs:Array Value) (a0:Value),Inv X pins σ H s->s.heap.get? e=some oe->oe.data= .fields vs->vs[1]? =some .none->vs[0]? =some a0->X.s₀.heap.get? e=none->H e=none->(∀p∈X.pn++pins,p.1≠e)->E oe.cls oe.dict H->X.xe (.ref e) s
def q6b (C:Addr)(sp:Sp)(E:XK)(t:TA):TS:=fun _ σ H=>t σ H fun vs H1=>vs.length<=sizeLine/\∀e,H1 e=none->sp (.ref e::vs) (upd H1 e (ExcO e C none)) (fun v H2=>v= .non/\∃od,H2 e=some (ExcO e C od)/\E (.ref C) od (del H2 e)) E0
theorem q8s (hR:q6J X E)(hX:X.ex=[])(hc:X.calm=true)(hg:Gl X x)(hm:X.mg x=some (.ref C))(c:ExcI X.K C f)(F:FnOk X.prog X.w X.K X.mg X.base CX0 k f fd ps sp)(hr:Room (k+1) X.A)(hb:q1q X.K fd ps [])(ha:PA X (e::es) t)(hd:(x==("__debug__":Str))=false:=by decide)
  (he:starEach (e::es) X.env=(false,eval e X.env)::starEach es X.env:=by rfl)(hpl:(backTo cpos (starEach es X.env)).any (·.1)=false:=by rfl):PS X (.Raise (some (.Call (.Name x np) (e::es) [] cpos)) none pos) (q6b C sp E t):=by
 intro pins s σ H D I h
 obtain⟨bm,N,nm,qn,bs,hdd,sn,sub,ab,col,dd,k0,k1,k2,k3,k5,hC,TL⟩:=q4T I.ok.mod.kin c.cls
 rw[arm_exec_Raise]
 refine yD (zbA ?_)
 refine q4g (C:=C) (nm:=nm) (q:=qn) (N:=N) (bs:=bs) (bm:=bm) (hdct:=hdd) (sn:=sn) (sub:=sub) (ab:=ab) (col:=col) (dd:=dd) (k0:=k0) (k1:=k1) (k2:=k2) (k3:=k3) (k5:=k5) (newId:="ValueError.__new__") (TL.hasType (by decide)) (I.ok.hd hc) ?_
 refine yD ?_
 refine zO (zap (Q:=fun v s'=>∃a H2,v= .ref a/\X.s₀.heap.get? a=none/\(∀p∈X.pn++pins,p.1≠a)/\Inv X pins σ H2 s'/\∃od,H2 a=some (ExcO a C od)/\E (.ref C) od (del H2 a)) (q2d I hg hm ?_ hd)) (fun v s3 h3=>?_) fun _ _ z=>z
 ·refine zaU (h₀:=X.base) I.ok.mod.kin c.kp (thn (ha cpos pins s σ H _ I h) fun us s1 ⟨vs,H1,I1,r,hl,q⟩=>⟨I1.kIn,?_⟩) he hpl
  refine zO (q8h (Q:=fun a H2=>∃od,H2 a=some (ExcO a C od)/\E (.ref C) od (del H2 a)) c F hr hb I1 r hl q) (fun v s2 h2=>?_) fun _ _ z=>z
  obtain⟨a,H2,rfl,hnew,I2,q2⟩:=h2
  exact⟨a,H2,rfl,I1.zero hnew hX,(fun p hp z=>by have:=(I1.pin p hp).1;rw[z,hnew] at this;cases this),I2,q2⟩
 ·obtain ⟨a,H2,rfl,new,hpn,I2,od,e1,hE⟩:=h3
  obtain⟨⟨t0,sl,ho⟩,_,_⟩:=(show q06 X.prog X.w H2 s3.heap a (ExcO a C od) from I2.hok a _ e1)
  refine yD (zbA (zl ⟨a,_,_,rfl,I2.bk _ _ hC,ho,rfl,rfl,rfl,?_⟩))
  exact hR pins σ _ s3 a _ _ _ (I2.drop new e1) ho rfl rfl rfl new q4V hpn hE
end
section
variable {P:Program}{w:World}{K:W.Frag}{mg:Str->Option Value}{base:Heap}{N:List Str}{qual:Str}{scope:Scope}{f:Addr}{cd:Value}{A:Around}{outer:List Env}{s0:Shared}{H0:Hp}{E:XK}
theorem q7t:q6J (cxOf (CXf P w) P w K mg base N qual scope f cd A outer s0 H0 E) E:=fun pins σ H s e oe vs a0 I he hd h1 h0 new free hpn hE=>q8j I he hd h1 h0 new free hpn hE
end
end L2
set_option maxHeartbeats 1000000
namespace L2
open PySem PySem.Spec PySem.Calls PyProof.Rows PySem.W Builtin Builtin.ObjectAttr Builtin.Getset_descriptor
end L2
namespace L2
open PySem PySem.Spec PyProof.Rows
structure LaidX (K:W.Frag)(mg:Str->Option Value)(x:Str)(C:Addr)(qual:Str)(st:Stmt)(ps:List Str):Prop where
 ex:∃f fd,Fun K "__init__" qual st f fd/\ExcI K C f/\q1q K fd ps []
 at_:mg x=some (.ref C)
structure MakesX (P:Program)(w:World)(K:W.Frag)(mg:Str->Option Value)(base:Heap)(k:Nat)(x:Str)(C:Addr)(ps:List Str)(sp:Sp):Prop where
 ex:∃f fd,ExcI K C f/\FnOk P w K mg base CX0 k f fd ps sp/\q1q K fd ps []
 at_:mg x=some (.ref C)
section
variable {P:Program}{w:World}{K:W.Frag}{mg:Str->Option Value}{base:Heap}
theorem LaidX.makes {x:Str}{C:Addr}{qual:Str}{st:Stmt}{N ps:List Str}{k:Nat}{sp:Sp}(L:LaidX K mg x C qual st ps)(S:FnScope N ps (qh st))(len:∀vs H Q E,sp vs H Q E->vs.length=ps.length)
  (hbody:∀(f:Addr) (cdv:Value) (A:Around) (outer:List Env) (s:Shared) (H:Hp) (vs:List V) (Q:VK) (E:XK),Room k (A.deeper (envOfC qual (qh st) s.heap.objs.size f cdv))->sp vs H Q E->
   ∃t,PSs (cxOf CX0 P w K mg base N qual (qh st) f cdv A outer s H E).nox (q0c st) t/\t {nx:=fun _ H'=>Q .non H',rt:=Q} (start N vs) H):MakesX P w K mg base (k+1) x C ps sp:=by
 obtain⟨f,fd,F,M,b⟩:=L.ex
 exact⟨⟨f,fd,M,F.ok S len (fun cdv A outer s H vs Q E hr h=>hbody f cdv A outer s H vs Q E hr h),b⟩,L.at_⟩
end
section
variable {X:Cx}{k k':Nat}{C:Addr}{ps:List Str}{sp:Sp}{x:Str}{np cpos pos:Pos}{e:Expr}{es:List Expr}{t:TA}{E:XK}
theorem q8r (c:MakesX X.prog X.w X.K X.mg X.base k x C ps sp)(hR:q6J X E)(hX:X.ex=[])(hc:X.calm=true)(hr:Room k' X.A)(hk:k+1<=k')(hg:Gl X x)(ha:PA X (e::es) t)(hd:(x==("__debug__":Str))=false:=by decide)
  (he:starEach (e::es) X.env=(false,eval e X.env)::starEach es X.env:=by rfl)(hpl:(backTo cpos (starEach es X.env)).any (·.1)=false:=by rfl):PS X (.Raise (some (.Call (.Name x np) (e::es) [] cpos)) none pos) (q6b C sp E t):=by
 obtain⟨f,fd,I,F,b⟩:=c.ex
 exact q8s hR hX hc hg c.at_ I F (hr.mono hk) b ha hd he hpl
end
section
variable {σ:St}{H:Hp}{Q:VK}{K:W.Frag}{ta tv:TE}{t:TA}{f:Str}{D:Ends}
theorem q9W {C:Addr}{sp:Sp}{E:XK}(q:t σ H fun vs H1=>vs.length<=sizeLine/\∀e,H1 e=none->sp (.ref e::vs) (upd H1 e (ExcO e C none)) (fun v H2=>v= .non/\∃od,H2 e=some (ExcO e C od)/\E (.ref C) od (del H2 e)) E0):q6b C sp E t D σ H:=q
def rBI (K:W.Frag)(vs:List V)(H1:Hp)(Q:VK):Prop:=∃a C od rest,vs= .ref a::rest/\H1 a=some (ExcO a C od)/\q7S K C/\rest.length<=sizeLine/\Q .non H1
theorem r_bi0 (q:t σ H fun vs H1=>rBI K vs H1 Q):tBI K t σ H Q:=q
theorem r_bi {a C:Addr}{od:Option Addr}{rest:List V}(h:H a=some (ExcO a C od))(c:q7S K C)(l:rest.length<=sizeLine)(q:Q .non H):rBI K (.ref a::rest) H Q:=⟨a,C,od,rest,rfl,h,c,l,q⟩
def rSetX (K:W.Frag)(f:Str)(x y:V)(H2:Hp)(R:Hp->Prop):Prop:=∃e C,x= .ref e/\ExcF K C/\ExcT K C/\PySem.W.findIn K (.ref C) f=some none/\
 ((H2 e=some (ExcO e C none)/\∀d,H2 d=none->d≠e->R (upd (upd (upd H2 d (XdO d [])) e (ExcO e C (some d))) d (XdO d [(f,y)])))\/
  ∃d fs,H2 e=some (ExcO e C (some d))/\H2 d=some (XdO d fs)/\fs.length<900/\R (upd H2 d (XdO d (putF f y fs))))
theorem q8l (q:tv σ H fun y H1=>ta σ H1 fun x H2=>rSetX K f x y H2 fun H3=>D.nx σ H3):sFldX K ta tv f D σ H:=q
end
end L2
namespace L2
open PySem PySem.Spec PyProof.Rows
end L2
namespace L2
open PySem PySem.Spec PyProof.Rows
end L2
namespace L2
open PySem PySem.Spec PyProof.Rows
end L2
namespace L2
open PySem PySem.Spec PyProof.Rows
end L2
namespace L2
open PySem PySem.Spec PyProof.Rows
section
variable {κ:Type}[DecidableEq κ]
def valV (kvs:List (κ×V))(k:κ):Option V:=(kvs.find? fun kv=>decide (kv.1=k)).map (·.2)
def putK (kvs:List (κ×V))(k:κ)(v:V):List (κ×V):=
 if (kvs.any fun kv=>decide (kv.1=k))=true then kvs.map (fun kv=>if kv.1=k then(kv.1,v) else kv) else kvs++[(k,v)]
theorem q0A {p:κ×V}{r:List (κ×V)}{k:κ}(e:p.1=k):valV (p::r) k=some p.2:=by simp[valV,List.find?_cons,e]
theorem q0k {p:κ×V}{r:List (κ×V)}{k:κ}(e:¬p.1=k):valV (p::r) k=valV r k:=by simp[valV,List.find?_cons,e]
theorem q3D (k:κ):∀kvs:List (κ×V),(kvs.any fun kv=>decide (kv.1=k))=(valV kvs k).isSome
 |[]=>rfl
 |p::r=>by
  rw[List.any_cons]
  by_cases e:p.1=k
  ·simp only[q0A e,decide_eq_true e,Bool.true_or,Option.isSome_some]
  ·rw [q0k e,zq e,zb9];exact q3D k r
theorem q2Q (kvs:List (κ×V))(k:κ)(v:V):(putK kvs k v).length<=kvs.length+1:=by
 unfold putK
 split
 ·rw [yC];omega
 ·rw [zx,zaf,List.length_nil];omega
theorem RelO.isSome_eq {o:Option V}{u:Option Value}(r:RelO o u):o.isSome=u.isSome:=by
 cases o with
 |none=>cases u with
  |none=>rfl
  |some _=>exact(show False from r).elim
 |some _=>cases u with
  |none=>exact(show False from r).elim
  |some _=>rfl
theorem KV.val {kvs:List (κ×V)}{vs:List (κ×Value)}(r:KV kvs vs)(k:κ):RelO (valV kvs k) (valueAt vs k):=by
 unfold KV at r
 induction r with
 |nil=>exact True.intro
 | @cons p q ps qs h t ih=>
  obtain⟨h1,h2⟩:=h
  by_cases e:p.1=k
  ·have e':q.1=k:=h1.symm.trans e
   have b:valueAt (q::qs) k=some q.2:=by simp[valueAt,List.find?_cons,e']
   rw[q0A e,b];exact h2
  ·have e':¬q.1=k:=fun z=>e (h1.trans z)
   have b:valueAt (q::qs) k=valueAt qs k:=by simp[valueAt,List.find?_cons,e']
   rw[q0k e,b];exact ih
theorem KV.any {kvs:List (κ×V)}{vs:List (κ×Value)}(r:KV kvs vs)(k:κ):(kvs.any fun kv=>decide (kv.1=k))=vs.any fun kv=>decide (kv.1=k):=by
 unfold KV at r
 induction r with
 |nil=>rfl
 |cons h t ih=>rw[List.any_cons,List.any_cons,ih,h.1]
theorem KV.repl {kvs:List (κ×V)}{vs:List (κ×Value)}(r:KV kvs vs)(k:κ){y:V}{u:Value}(ry:RelV y u):
  KV (kvs.map fun kv=>if kv.1=k then(kv.1,y) else kv) (vs.map fun kv=>if kv.1=k then(kv.1,u) else kv):=by
 unfold KV at r ⊢
 induction r with
 |nil=>exact .nil
 | @cons p q ps qs h t ih=>
  rw[zZ,zZ]
  refine .cons ?_ ih
  obtain⟨h1,h2⟩:=h
  by_cases e:p.1=k
  ·rw [zt e,zt (h1.symm.trans e)];exact⟨h1,ry⟩
  ·rw [zo e,zo (fun z=>e (h1.trans z))];exact⟨h1,h2⟩
theorem KV.put {kvs:List (κ×V)}{vs:List (κ×Value)}(r:KV kvs vs)(k:κ){y:V}{u:Value}(ry:RelV y u):KV (putK kvs k y) (stored vs k u):=by
 unfold putK stored
 rw[r.any k]
 by_cases e:(vs.any fun kv=>decide (kv.1=k))=true
 ·rw [zt e,zt e];exact r.repl k ry
 ·rw [zo e,zo e];exact Paired.snoc r ⟨rfl,ry⟩
theorem KV.length {kvs:List (κ×V)}{vs:List (κ×Value)}(r:KV kvs vs):kvs.length=vs.length:=Paired.length r
end
theorem qaC {P:Program}{w:World}{k:Key}{u:Value}(r:RelV (kV k) u):(q0N P w).is k u=true:=by
 cases k with
 |inl i=>obtain⟨t,e⟩:=(show∃t,u=Value.int i t from r);subst e;exact q6u P w i t
 |inr x=>obtain⟨t,e⟩:=(show∃t,u=Value.str x t from r);subst e;exact q6t P w x t
theorem q5W {P:Program}{w:World}:∀{ks:List Key} {us:List Value},Vals (ks.map kV) us->ItemsAre (q0N P w) ks us
 |[],_,r=>by rw[List.map_nil] at r;cases r;exact .nil
 |k::ks,_,r=>by
  rw[zZ] at r
  cases r with
  |cons h t=>exact .cons (qaC h) (q5W t)
abbrev KT (H:Hp):List (List Key×V)->List (List Key×Addr×Value)->Prop:=Paired fun p q=>p.1=q.1/\H q.2.1=some (.tup (p.1.map kV))/\RelV p.2 q.2.2
theorem KT.val {H:Hp}{kvs:List (List Key×V)}{xs:List (List Key×Addr×Value)}(r:KT H kvs xs)(k:List Key):RelO (valV kvs k) ((atKey xs k).map (·.2)):=by
 induction r with
 |nil=>exact True.intro
 | @cons p q ps qs h t ih=>
  obtain⟨h1,_,h2⟩:=h
  by_cases e:p.1=k
  ·have e':q.1=k:=h1.symm.trans e
   have b:atKey (q::qs) k=some q.2:=by simp[atKey,List.find?_cons,e']
   rw[q0A e,b];exact h2
  ·have e':¬q.1=k:=fun z=>e (h1.trans z)
   have b:atKey (q::qs) k=atKey qs k:=by simp[atKey,List.find?_cons,e']
   rw[q0k e,b];exact ih
theorem KT.repl {H:Hp}{kvs:List (List Key×V)}{xs:List (List Key×Addr×Value)}(r:KT H kvs xs)(k:List Key){y:V}{u:Value}(ry:RelV y u):
  KT H (kvs.map fun kv=>if kv.1=k then(kv.1,y) else kv) (xs.map (putAt k u)):=by
 induction r with
 |nil=>exact .nil
 | @cons p q ps qs h t ih=>
  rw[zZ,zZ]
  refine .cons ?_ ih
  obtain⟨h1,h2,h3⟩:=h
  unfold putAt
  by_cases e:p.1=k
  ·rw [zt e,zt (h1.symm.trans e)];exact⟨h1,h2,ry⟩
  ·rw [zo e,zo (fun z=>e (h1.trans z))];exact⟨h1,h2,h3⟩
theorem KT.put {H:Hp}{kvs:List (List Key×V)}{xs:List (List Key×Addr×Value)}(r:KT H kvs xs)(k:List Key){b:Addr}{y:V}{u:Value}(hb:H b=some (.tup (k.map kV)))(ry:RelV y u):
  KT H (putK kvs k y) (storedH xs k b u):=by
 have e:(kvs.any fun kv=>decide (kv.1=k))=(atKey xs k).isSome:=by
  rw[q3D,(r.val k).isSome_eq,zcf]
 unfold putK storedH
 rw[e]
 by_cases q:(atKey xs k).isSome=true
 ·rw [zt q,zt q];exact r.repl k ry
 ·rw [zo q,zo q];exact Paired.snoc r ⟨rfl,hb,ry⟩
theorem KT.keeps {H H':Hp}{kvs:List (List Key×V)}{xs:List (List Key×Addr×Value)}(r:KT H kvs xs)(ht:∀b ys,H b=some (.tup ys)->H' b=some (.tup ys)):KT H' kvs xs:=
 Paired.mapP r fun _ _ z=>⟨z.1,ht _ _ z.2.1,z.2.2⟩
section
variable {P:Program}{w:World}{H:Hp}{h:Heap}{a:Addr}
theorem rd_of {u:HO}(ok:HOk P w H h)(e:Rd H a u):q06 P w H h a u:=e.ok ok
theorem qcJ {kvs:List (Key×V)}(ok:HOk P w H h)(e:Rd H a (.dK kvs)):kvs.length<=sizeLine/\(a==sysModules)=false/\∃vs,KV kvs vs/\h.DictOf (q0N P w) a vs:=
 show q06 P w H h a (.dK kvs) from rd_of ok e
theorem dk_of {kvs:List (Key×V)}(ok:HOk P w H h)(e:H a=some (.dK kvs)):kvs.length<=sizeLine/\(a==sysModules)=false/\∃vs,KV kvs vs/\h.DictOf (q0N P w) a vs:=qcJ ok (.inl e)
theorem q5V {ks:List Key}(ok:HOk P w H h)(e:H a=some (.tup (ks.map kV))):(tupleKind (q0N P w)).is h ks a:=by
 obtain⟨_,its,r,o,h1,h2,n,h3⟩:=(show q06 P w H h a (.tup (ks.map kV)) from ok a _ e)
 exact⟨o,its.toArray,n,h1,h2,h3,by simpa using q5W r⟩
theorem qaQ {kvs:List (List Key×V)}(ok:HOk P w H h)(e:Rd H a (.dT kvs)):kvs.length<=sizeLine/\(a==sysModules)=false/\
  ∃xs,KT H kvs xs/\h.DictOfH (tupleKind (q0N P w)) a xs:=by
 obtain⟨z,y,xs,r,o,es,ep,h1,h2,h3,h4,h5⟩:=(show q06 P w H h a (.dT kvs) from rd_of ok e)
 refine⟨z,y,xs,r,o,es,ep,h1,h2,h3,h4,fun x hx=>?_,h5⟩
 have all:∀{l:List (List Key×V)} {m:List (List Key×Addr×Value)},KT H l m->∀x∈m,(tupleKind (q0N P w)).is h x.1 x.2.1:=by
  intro l m q
  induction q with
  |nil=>intro x hx;exact nomatch hx
  | @cons p q ps qs hq t ih=>
   intro x hx
   rcases zG.mp hx with e|hx
   ·subst e
    exact q5V ok (by rw[<-hq.1];exact hq.2.1)
   ·exact ih x hx
 exact all r x hx
theorem dt_of {kvs:List (List Key×V)}(ok:HOk P w H h)(e:H a=some (.dT kvs)):kvs.length<=sizeLine/\(a==sysModules)=false/\
  ∃xs,KT H kvs xs/\h.DictOfH (tupleKind (q0N P w)) a xs:=qaQ ok (.inl e)
end
def DGet (H:Hp)(a:Addr)(y:V)(r:Option V):Prop:=
 (∃kvs k,Rd H a (.dK kvs)/\y=kV k/\r=valV kvs k)\/∃kvs k b,Rd H a (.dT kvs)/\y= .ref b/\H b=some (.tup (k.map kV))/\r=valV kvs k
def DPut (H:Hp)(a:Addr)(y v:V)(H':Hp):Prop:=
 (∃kvs k,H a=some (.dK kvs)/\y=kV k/\kvs.length<sizeLine/\H'=upd H a (.dK (putK kvs k v)))\/
 ∃kvs k b,H a=some (.dT kvs)/\y= .ref b/\H b=some (.tup (k.map kV))/\kvs.length<sizeLine/\H'=upd H a (.dT (putK kvs k v))
theorem DPut.t {H:Hp}{a b:Addr}{kvs:List (List Key×V)}{k:List Key}{v:V}(e:H a=some (.dT kvs))(eb:H b=some (.tup (k.map kV)))(hl:kvs.length<sizeLine):
  DPut H a (.ref b) v (upd H a (.dT (putK kvs k v))):= .inr ⟨kvs,k,b,e,rfl,eb,hl,rfl⟩
section
variable {X:Cx}{pins:List (Addr×Obj)}{σ:St}{H:Hp}{s:Shared}{a:Addr}{y v:V}{u r:Value}{o:Option V}{A:Around}{E:Value->Shared->Prop}
theorem Inv.big (I:Inv X pins σ H s):sysModules<s.heap.objs.size:=by
 have h:mainGlobals<s.heap.objs.size:=(I.mod.glob.keeps I.bk).lt
 exact Nat.lt_trans (by decide) h
theorem d_in {Q:Value->Shared->Prop}(hu:A.units+1<cLine)(I:Inv X pins σ H s)(g:DGet H a y o)(ry:RelV y u)(h:∀s',Inv X pins σ H s'->Q (.bool o.isSome) s'):
  wpAny (model X.prog X.w) A (compareOp .In u (.ref a)) Q E s:=by
 rcases g with⟨kvs,k,e,ey,l⟩|⟨kvs,k,b,e,ey,eb,l⟩
 ·subst ey
  obtain⟨z,hd,vs,rel,dd⟩:=qcJ I.hok e
  refine wpAny_in_of (qaC ry) hd dd.mapOf ?_
  rw[<-(rel.val k).isSome_eq,<-l]
  exact h _ (I.tok _)
 ·subst ey
  cases(show u=Value.ref b from ry)
  obtain⟨z,hd,xs,rel,dd⟩:=qaQ I.hok e
  refine wpAny_in_heap (tupleKind_room_in1 hu) (q5V I.hok eb) hd dd ?_
  have q:=(rel.val k).isSome_eq
  rw[zcf] at q
  rw[<-q,<-l]
  exact h _ (I.tok _)
theorem q9l {Q:Value->Shared->Prop}(hu:A.units+1<cLine)(I:Inv X pins σ H s)(g:DGet H a y o)(ry:RelV y u)(h:∀s',Inv X pins σ H s'->Q (.bool (!o.isSome)) s'):
  wpAny (model X.prog X.w) A (compareOp .NotIn u (.ref a)) Q E s:=by
 rcases g with⟨kvs,k,e,ey,l⟩|⟨kvs,k,b,e,ey,eb,l⟩
 ·subst ey
  obtain⟨z,hd,vs,rel,dd⟩:=qcJ I.hok e
  refine wpAny_notIn_of (qaC ry) hd dd.mapOf ?_
  rw[<-(rel.val k).isSome_eq,<-l]
  exact h _ (I.tok _)
 ·subst ey
  cases(show u=Value.ref b from ry)
  obtain⟨z,hd,xs,rel,dd⟩:=qaQ I.hok e
  refine wpAny_notIn_heap (tupleKind_room_in1 hu) (q5V I.hok eb) hd dd ?_
  have q:=(rel.val k).isSome_eq
  rw[zcf] at q
  rw[<-q,<-l]
  exact h _ (I.tok _)
theorem q6D {h':Heap}{t':Nat}{ob:HO}(I:Inv X pins σ H s)(mu:Mut (H a))(hs:Heap.SameBut a s.heap h')(he:∃q,h'.get? a=some q)(new:q06 X.prog X.w (upd H a ob) h' a ob):
  Inv X pins σ (upd H a ob) {s with heap:=h',toks:=t'}:=
 I.write (x:=a) (e:=a) mu (.inl rfl) (fun b q hb z=>(hs.2 b hb).trans z) he new
theorem dk_new {P:Program}{w:World}{H':Hp}{h':Heap}{kvs:List (Key×V)}{vs:List (Key×Value)}(z:kvs.length<=sizeLine)(hd:(a==sysModules)=false)(rel:KV kvs vs)(dd:h'.DictOf (q0N P w) a vs):
  q06 P w H' h' a (.dK kvs):=⟨z,hd,vs,rel,dd⟩
theorem q9k {H':Hp}{Q:Unit->Shared->Prop}(hu:A.units+1<cLine)(I:Inv X pins σ H s)(g:DPut H a y v H')(ry:RelV y u)(rv:RelV v r)(h:∀s',Inv X pins σ H' s'->Q () s'):
  wpAny (model X.prog X.w) A (setItem (.ref a) u r) Q E s:=by
 rcases g with⟨kvs,k,e,ey,l,eH⟩|⟨kvs,k,b,e,ey,eb,l,eH⟩
 ·subst ey eH
  obtain⟨z,hd,vs,rel,dd⟩:=dk_of I.hok e
  have hz:vs.length<=sizeLine:=by rw[<-rel.length];exact z
  have hl:(putK kvs k v).length<=sizeLine:=by have:=q2Q kvs k v;omega
  refine wpAny_setItem_pairs (hsz:=hz) (qaC ry) dd fun h' dd' hs=>h _ ?_
  have he:∃q,h'.get? a=some q:=let ⟨q,_,_,hq,_⟩:=dd';⟨q,hq⟩
  exact q6D I (by rw[e];exact True.intro) hs he (dk_new hl hd (rel.put k rv) dd')
 ·subst ey eH
  cases(show u=Value.ref b from ry)
  obtain⟨z,hd,xs,rel,dd⟩:=dt_of I.hok e
  have hz:xs.length<=sizeLine:=by rw[<-Paired.length rel];exact z
  have hl:(putK kvs k v).length<=sizeLine:=by have:=q2Q kvs k v;omega
  refine wpAny_setItem_heap (hsz:=hz) (tupleKind_room_in1 hu) (q5V I.hok eb) dd fun h' dd' hs=>h _ ?_
  obtain⟨q,es,ep,hq,h2,h3,h4,_,h5⟩:=dd'
  refine q6D I (by rw[e];exact True.intro) hs ⟨q,hq⟩ ⟨hl,hd,_,(rel.put k eb rv).keeps fun c ys ec=>?_,q,es,ep,hq,h2,h3,h4,h5⟩
  rw[qq (q6s ec e (fun z=>nomatch z))]
  exact ec
end
def tDIn (ty td:TE):TE:=fun σ H Q=>ty σ H fun y H1=>td σ H1 fun x H2=>∃a o,x= .ref a/\DGet H2 a y o/\Q (.bl o.isSome) H2
def q83 (ty td:TE):TE:=fun σ H Q=>ty σ H fun y H1=>td σ H1 fun x H2=>∃a o,x= .ref a/\DGet H2 a y o/\Q (.bl (!o.isSome)) H2
def sDPut (td ty tv:TE):TS:=fun D σ H=>tv σ H fun v H1=>td σ H1 fun x H2=>ty σ H2 fun y H3=>∃a H4,x= .ref a/\DPut H3 a y v H4/\D.nx σ H4
section
variable {X:Cx}{o i e value:Expr}{pos pos' tpos:Pos}{td ty tv:TE}
theorem pc_din (hu:X.A.units+1<cLine)(hi:PE X i ty)(ho:PE X o td):PC X .In i o (tDIn ty td):=by
 intro pins s σ H Q I h
 refine thn (hi pins s σ H _ I h) fun iv s1 ⟨y,H1,I1,ry,q1⟩=>thn (ho pins s1 σ H1 _ I1 q1) fun u s2 ⟨x,H2,I2,rx,a,ov,ex,g,q2⟩=>?_
 subst ex
 obtain rfl:u=Value.ref a:=rx
 exact d_in hu I2 g ry fun s3 I3=>⟨.bl ov.isSome,H2,I3,rfl,q2⟩
theorem q8C (hu:X.A.units+1<cLine)(hi:PE X i ty)(ho:PE X o td):PC X .NotIn i o (q83 ty td):=by
 intro pins s σ H Q I h
 refine thn (hi pins s σ H _ I h) fun iv s1 ⟨y,H1,I1,ry,q1⟩=>thn (ho pins s1 σ H1 _ I1 q1) fun u s2 ⟨x,H2,I2,rx,a,ov,ex,g,q2⟩=>?_
 subst ex
 obtain rfl:u=Value.ref a:=rx
 exact q9l hu I2 g ry fun s3 I3=>⟨.bl (!ov.isSome),H2,I3,rfl,q2⟩
theorem q8u (hu:X.A.units+1<cLine)(ho:PE X o td)(hi:PE X i ty)(hv:PE X value tv)(hs:swapsWith value (some (.Subscript o i pos')) pos.line X.env=pure false):
  PS X (.Assign [.Subscript o i pos'] value pos) (sDPut td ty tv):=by
 intro pins s σ H D I h
 refine wpAny_Assign_Subscript (thn (hv pins s σ H _ I h) fun r s1 ⟨v,H1,I1,rv,q1⟩=>thn (ho pins s1 σ H1 _ I1 q1) fun u s2 ⟨x,H2,I2,rx,q2⟩=>thn (hi pins s2 σ H2 _ I2 q2) fun iv s3 ⟨y,H3,I3,ry,a,H4,ex,g,q3⟩=>?_) hs
 subst ex
 obtain rfl:u=Value.ref a:=rx
 exact q9k hu I3 g ry rv fun s4 I4=>⟨σ,H4,I4,q3⟩
end
theorem q77 {P:Program}{w:World}{H:Hp}(h:Heap)(hb:sysModules<h.objs.size):q06 P w H (h.push {cls:= .type "dict",data:= .dict #[]}) h.objs.size (.dT []):=
 ⟨zaC _,beq_eq_false_iff_ne.mpr (Ne.symm (zF hb)),[],.nil,_,#[],0,zB _ rfl,⟨rfl,rfl,rfl⟩,rfl,rfl,List.nodup_nil⟩
def qb2:TE:=fun _ H Q=>∀p,H p=none->Q (.ref p) (upd H p (.dT []))
section
variable {X:Cx}{pos:Pos}
theorem qac:PE X (.Dict [] [] pos) qb2:=fun pins s σ H Q I h=>
 wpAny_Dict_empty ⟨.ref s.heap.objs.size,_,I.laid (a:=s.heap.objs.size) (o:= .dT []) (t':=s.toks) (fun _ _ q=>zm _ q) (zn _) (q77 s.heap I.big),rfl,h _ (I.hok.fresh (zn _))⟩
end
def qb1:List (TE×TE)->St->Hp->(List (V×V)->Hp->Prop)->Prop
 |[],_,H,Q=>Q [] H
 |(tk,tv)::r,σ,H,Q=>tk σ H fun x H1=>tv σ H1 fun y H2=>qb1 r σ H2 fun ps H3=>Q ((x,y)::ps) H3
abbrev VV:List (V×V)->List (Value×Value)->Prop:=Paired fun p q=>RelV p.1 q.1/\RelV p.2 q.2
def PPs (X:Cx)(pos:Pos)(keys:List (Option Expr))(values:List Expr)(trs:List (TE×TE)):Prop:=
 ∀(pins:List (Addr×Obj)) (s:Shared) (σ:St) (H:Hp) (Q:List (V×V)->Hp->Prop),Inv X pins σ H s->qb1 trs σ H Q->
  wpAny (model X.prog X.w) X.A (evalPairs (pairTrees keys values X.env pos)) (fun vs s'=>∃ps H',Inv X pins σ H' s'/\VV ps vs/\Q ps H') X.xe s
theorem qbV {X:Cx}{pos:Pos}:PPs X pos [] [] []:=fun pins s σ H Q I h=>pairTrees_nil_walk ⟨[],H,I,.nil,h⟩
theorem qa3 {X:Cx}{pos:Pos}{k v:Expr}{ks:List (Option Expr)}{vs:List Expr}{tk tv:TE}{trs:List (TE×TE)}(hk:PE X k tk)(hv:PE X v tv)(hr:PPs X pos ks vs trs):
  PPs X pos (some k::ks) (v::vs) ((tk,tv)::trs):=fun pins s σ H Q I h=>
 pairTrees_cons_walk (thn (hk pins s σ H _ I h) fun u s1 ⟨x,H1,I1,rx,q1⟩=>thn (hv pins s1 σ H1 _ I1 q1) fun w2 s2 ⟨y,H2,I2,ry,q2⟩=>
  thn (hr pins s2 σ H2 _ I2 q2) fun ws s3 ⟨ps,H3,I3,rel,q3⟩=>⟨(x,y)::ps,H3,I3,.cons ⟨rx,ry⟩ rel,q3⟩)
def mergeK (kvs more:List (Key×V)):List (Key×V):=more.foldl (fun acc kv=>putK acc kv.1 kv.2) kvs
end L2
namespace Att
open PySem PySem.W PySem.Calls PyProof.Rows
end Att
namespace L2
open PySem PySem.Spec PyProof.Rows
end L2
namespace L2
open PySem PySem.Spec PyProof.Rows
def rInD (K:W.Frag)(n:Nat)(neg:Bool):R2:=fun x y H Q=>∃(p:Addr) (ps:List Addr) (e:Addr->Bool),y= .ref p/\SqL K H p (ps.map V.ref)/\(∀b∈ps,Deq K H n (.ref b) x (e b))/\Q (.bl (if neg then !ps.any e else ps.any e)) H
def refB (e:Addr->Bool):Value->Bool
 | .ref b=>e b
 |_=>false
theorem q2T:∀{ps:List Addr} {us:List Value},Vals (ps.map V.ref) us->us=ps.map Value.ref
 |[],_,.nil=>rfl
 |p::ps,_,.cons r t=>by
  have r':=(show _=Value.ref p from r)
  rw[r',q2T t]
  rfl
theorem q7e (e:Addr->Bool)(ps:List Addr):(ps.map Value.ref).any (refB e)=ps.any e:=by
 rw[List.any_map]
 rfl
section
variable {X:Cx}
theorem op_inD (K:W.Frag)(n:Nat)(hu:X.A.units+n+1<cLine)(hK:X.K=K:=by rfl):OpR X (compareOp .In) (rInD K n false):=by
 subst hK
 intro pins s σ H x y v u Q I rx ry h
 obtain⟨p,ps,e,rfl,hq,hd,q⟩:=h
 cases ry
 obtain⟨its,r,pl,hz⟩:=I.list hq
 have ei:=q2T r
 subst ei
 refine SeqAt.in_listAt (refB e) pl.isList (fun w hw=>?_) ⟨.bl _,H,I,rfl,?_⟩
 ·obtain ⟨b,hb,rfl⟩:=zaN.mp (show w∈ps.map Value.ref by simpa using hw)
  exact q5Z I (hd b hb) (by first|omega|(show X.A.units+1+n<cLine;omega)) rfl rx
 ·rw [show(ps.map Value.ref).toArray.any (refB e)=(ps.map Value.ref).any (refB e) by simp,q7e]
  exact q
theorem q8E (K:W.Frag)(n:Nat)(hu:X.A.units+n+1<cLine)(hK:X.K=K:=by rfl):OpR X (compareOp .NotIn) (rInD K n true):=by
 subst hK
 intro pins s σ H x y v u Q I rx ry h
 obtain⟨p,ps,e,rfl,hq,hd,q⟩:=h
 cases ry
 obtain⟨its,r,pl,hz⟩:=I.list hq
 have ei:=q2T r
 subst ei
 refine SeqAt.notIn_listAt (refB e) pl.isList (fun w hw=>?_) ⟨.bl _,H,I,rfl,?_⟩
 ·obtain ⟨b,hb,rfl⟩:=zaN.mp (show w∈ps.map Value.ref by simpa using hw)
  exact q5Z I (hd b hb) (by first|omega|(show X.A.units+1+n<cLine;omega)) rfl rx
 ·rw [show(ps.map Value.ref).toArray.any (refB e)=(ps.map Value.ref).any (refB e) by simp,q7e]
  exact q
end
end L2
namespace DI
open PySem PyProof.Rows
section
variable {prog:Program}{w:World}{A:Around}{E:Value->Shared->Prop}{s:Shared}{d it v:Addr}{o:Obj}{es:Array DictEntry}{ep i:Nat}
theorem ty (ho:s.heap.get? d=some o)(hx:o.ExactDict):s.TypeIs (.ref d) "dict":=⟨o,ho,hx.1⟩
theorem keys {Q:Value->Shared->Prop}(hd:(d==sysModules)=false)(ho:s.heap.get? d=some o)(hx:o.ExactDict)(hdat:o.data= .dict es ep)
  (hQ:Q (.ref s.heap.objs.size) {s with heap:=s.heap.push {cls:= .type "dict_keyiterator",data:= .fields #[.ref d,.int 0 0,.int es.size 0,.int ep 0]}}):wpAny (model prog w) A (pyIter (.ref d)) Q E s:=by
 have hT:=ty ho hx
 refine wpAny_pyIter_slot hT F.slot_dict_iter (zaA F.slot_dict_iter hT F.entry_dict_iter ?_ (F.args_dict_iter_1 _))
 unfold Builtin.«dict.__iter__» Builtin.Dict.dictSlotNone Builtin.Dict.showsAll
 refine yD (yD (wpAny_notOrdered_dict hT (zl (yD ?_))))
 refine zl (yD ?_)
 dsimp only
 rw[zo (by intro z;rw[hd] at z;cases z)]
 refine zl (yD (zbd ho hdat (yD (zaY ho hdat ?_))))
 refine yD (zak (zl ⟨_,rfl,"dict_keyiterator",_,⟨_,zB _ rfl,rfl⟩,zaE.lookup,?_⟩))
 simpa[rawInt] using hQ
theorem q8T {Q:Option Value->Shared->Prop}(hit:s.heap.IsKeyIter it d i es.size ep)(ho:s.heap.get? d=some o)(hdat:o.data= .dict es ep)(hi:i<es.size)
  (hQ:∀h',h'.IsKeyIter it d (i+1) es.size ep->Heap.SameBut it s.heap h'->Q (some es[i].key) {s with heap:=h'}):wpAny (model prog w) A (pyNext (.ref it)) Q E s:=by
 obtain⟨oi,hoi,hc,hf⟩:=id hit
 have hT:=hit.typeIs
 unfold pyNext
 refine yD (wpAny_attempt (zar (name:=Str.ofString "__next__") hT zaE (zaA zaE hT zbS ?_ (zbO _))))
 refine yD (zl (yD (yD ?_)))
 first|refine yD (zaP hT (zl (yD (zbW hoi hf ?_))))|refine yD (za5 hT (zl (yD (zbW hoi hf ?_))))
 simp only[show Builtin.Dict_items.ownsTuple "dict_keyiterator"=false by decide,Bool.false_eq_true,if_false]
 show wpAny _ _ (if (Value.ref d==Value.none)=true then _ else _) _ _ s
 rw[zo (by exact zu)]
 refine yD (zl (yD (zbd ho hdat ?_)))
 rw[zo (by simp)]
 refine yD (zl (yD (zaY ho hdat ?_)))
 rw[zo (by simp)]
 refine zl ?_
 simp only[show¬((i:Int)<0) by omega,if_false,Int.toNat_natCast,Array.getElem?_eq_getElem hi]
 refine yD ?_
 first|refine yD (zaP hT (zl (yD (zbF hT ?_))))|refine yD (za5 hT (zl (yD (zbF hT ?_))))
 show wpAny _ _ (setField (.ref it) 1 (rawInt ((i:Int)+1)) >>= _) _ _ s
 refine yD (zaD hoi hf (by simp) ?_)
 have hit':(s.heap.update it (Obj.mapFields (·.setIfInBounds 1 (rawInt ((i:Int)+1))))).IsKeyIter it d (i+1) es.size ep:=
  ⟨_,zaa _ hoi (zay (zaq hf _)),(zcc ..).trans hc,by rw[zaq hf];simp[rawInt]⟩
 refine yD (zah (yD (zbF (s:={s with heap:=s.heap.update it (Obj.mapFields (·.setIfInBounds 1 (rawInt ((i:Int)+1))))}) hit'.typeIs ?_)))
 show wpAny _ _ (pure es[i].key) _ _ _
 exact zl (zl ⟨_,rfl,zl (hQ _ hit' (za9 ..))⟩)
theorem qbe {Q:Option Value->Shared->Prop}(hh:A.handled=none)(hit:s.heap.IsKeyIter it d i es.size ep)(ho:s.heap.get? d=some o)(hdat:o.data= .dict es ep)(hi:es.size<=i)
  (hQ:∀h',Heap.ExtBut it s.heap h'->Q none {s with heap:=h'}):wpAny (model prog w) A (pyNext (.ref it)) Q E s:=by
 obtain⟨oi,hoi,hc,hf⟩:=id hit
 have hT:=hit.typeIs
 unfold pyNext
 refine yD (wpAny_attempt (zar (name:=Str.ofString "__next__") hT zaE (zaA zaE hT zbS ?_ (zbO _))))
 refine yD (zl (yD (yD ?_)))
 first|refine yD (zaP hT (zl (yD (zbW hoi hf ?_))))|refine yD (za5 hT (zl (yD (zbW hoi hf ?_))))
 simp only[show Builtin.Dict_items.ownsTuple "dict_keyiterator"=false by decide,Bool.false_eq_true,if_false]
 show wpAny _ _ (if (Value.ref d==Value.none)=true then _ else _) _ _ s
 rw[zo (by exact zu)]
 refine yD (zl (yD (zbd ho hdat ?_)))
 rw[zo (by simp)]
 refine yD (zl (yD (zaY ho hdat ?_)))
 rw[zo (by simp)]
 refine zl ?_
 simp only[show¬((i:Int)<0) by omega,if_false,Int.toNat_natCast,Array.getElem?_eq_none hi]
 refine yD ?_
 first|refine yD (zaP hT (zl ?_))|refine yD (za5 hT (zl ?_))
 show wpAny _ _ (setField (.ref it) 0 .none >>= _) _ _ s
 refine yD (zaD hoi hf (by simp) ?_)
 show wpAny _ _ (newExc (.type "StopIteration") [] >>= _) _ _ _
 refine yD ?_
 simp only[newExc,newTuple]
 refine yD (zak (yD (m:=firstArgMember _ _) (wpAny_of_eq (a:=Value.none) (by first|rfl|(simp only[firstArgMember];rfl)) (zak ?_ (by size_fits)))) (by size_fits))
 simp only[raiseNew]
 refine yD (wpAny_handled ?_)
 rw[show A.in1.handled=none from hh]
 refine yD (zl (wpAny_throw ?_))
 refine yD (wpAny_isInstance (b:=true) (T:="StopIteration") ⟨_,zB _ rfl,rfl⟩ isSubtype_stop ?_)
 exact zl (hQ _ (((za9 ..).extBut.push _).push _))
end
end DI
namespace L2
open PySem PySem.Spec PyProof.Rows
theorem Paired.at' {α β:Type}{F:α->β->Prop}:∀{l:List α} {m:List β} {i:Nat} {x:α} {y:β},Paired F l m->l[i]? =some x->m[i]? =some y->F x y
 |_,_,0,_,_,.cons r _,hx,hy=>by cases hx;cases hy;exact r
 |_,_,i+1,_,_,.cons _ t,hx,hy=>Paired.at' (i:=i) t hx hy
section
variable {X:Cx}{pins:List (Addr×Obj)}{σ:St}{H:Hp}{s:Shared}{a:Addr}
theorem Inv.hold {kvs:List (List Key×V)}(I:Inv X pins σ H s)(e:H a=some (.dT kvs)):∃o,Inv X pins σ (upd H a (.frz o (.dT kvs))) s:=by
 obtain⟨z,y,xs,r,o,es,ep,h1,h2⟩:=(show q06 X.prog X.w H s.heap a (.dT kvs) from I.hok a _ e)
 have ne:∀{b:Addr} {u:HO},H b=some u->(∀k,u≠ .dT k)->b≠a:=fun {b u} q n z=>by rw[z,e] at q;cases q;exact n _ rfl
 refine⟨o,I.un (h':=s.heap) (t':=s.toks) ⟨fun b ob q n _ _=>q,fun b ob q n _ _=>⟨ob.slots,q⟩,fun b ob q n _=>?_,fun b ob q _=>⟨ob,q⟩,fun b ts q=>?_,fun b ob u q=>?_,fun b ps q=>⟨#[],?_⟩⟩ fun b u q=>?_⟩
 ·rw [qq (fun z=>by rw[z,e] at n;cases n)];exact n
 ·rw [qq (ne q fun k z=>by cases z)];exact q
 ·rw [qq (ne q fun k z=>by cases z)];exact q
 ·rw [qq (ne q fun k z=>by cases z)];simpa using q
 ·have ht:∀c ts,H c=some (.tup ts)->upd H a (.frz o (.dT kvs)) c=some (.tup ts):=fun c ts q=>by rw[qq (ne q fun k z=>by cases z)];exact q
  have ho:∀c x,H c=some (.own x)->upd H a (.frz o (.dT kvs)) c=some (.own x):=fun c x q=>by rw[qq (ne q fun k z=>by cases z)];exact q
  by_cases hb:b=a
  ·subst hb
   rw[qe] at q
   cases q
   exact⟨h1,(I.hok b _ e).stay (fun c v _ q=>q) (fun c q=>ho c b q) ht⟩
  ·rw [qq hb] at q
   exact(I.hok b u q).stay (fun c v _ q=>q) (fun c q=>ho c b q) ht
theorem Inv.heldAt {o:Obj}{kvs:List (List Key×V)}{es:Array DictEntry}{ep:Nat}(I:Inv X pins σ H s)(e:H a=some (.frz o (.dT kvs)))(hd:o.data= .dict es ep):s.heap.get? a=some o/\o.ExactDict/\(a==sysModules)=false/\es.size=kvs.length/\
  ∀(i:Nat) (hi:i<kvs.length) (hj:i<es.size),∃b,es[i].key= .ref b/\H b=some (.tup (kvs[i].1.map kV))/\RelV kvs[i].2 es[i].val:=by
 obtain⟨h0,z,y,xs,r,o',es',ep',h1,h2,h3,h4,h5⟩:=(show q06 X.prog X.w H s.heap a (.frz o (.dT kvs)) from I.hok a _ e)
 rw[h0] at h1
 cases h1
 rw[hd] at h3
 cases h3
 have hl:kvs.length=xs.length:=r.length
 have hs:es.size=xs.length:=size_of_entries h4
 refine⟨h0,h2,y,by omega,fun i hi hj=>?_⟩
 have e1:=entry_at h4 i
 have hx:xs[i]? =some (xs[i]'(by omega)):=yB _
 rw[zaJ hj,hx] at e1
 have e2:=zC e1
 have rq:=Paired.at' r (yB hi) hx
 refine⟨(xs[i]'(by omega)).2.1,by rw[e2];rfl,?_,?_⟩
 ·exact rq.2.1
 ·rw [e2];exact rq.2.2
end
def Itd (a:Addr)(o:Obj)(kvs:List (List Key×V)):It:=
 ⟨fun i H=>H a=some (.frz o (.dT kvs))/\i<kvs.length,fun i H x H'=>H'=H/\∃b p,kvs[i]? =some p/\x= .ref b/\H b=some (.tup (p.1.map kV)),fun i H=>H a=some (.frz o (.dT kvs))/\kvs.length<=i⟩
theorem qbw {P:Program}{w:World}{K:W.Frag}{tg:Expr}{a it:Addr}{o:Obj}{kvs:List (List Key×V)}{es:Array DictEntry}{ep:Nat}(hd:o.data= .dict es ep):Turn P w K tg (Itd a o kvs) [it] it (fun i h=>h.IsKeyIter it a i es.size ep) where
 mem:=by simp
 obj:=fun i h st b hb=>by
  have e:b=it:=by simpa using hb
  subst e
  obtain⟨o,e,c,d⟩:=st
  exact⟨o,e,fun v z=>by rw[d] at z;cases z⟩
 keep:=fun i h h' st k=>st.at fun o e=>k it (by simp) o e
 item:=by
  intro X hP hw hK hc i pins s σ H E I hf st hg
  subst hP hw hK
  obtain⟨ha,hi⟩:=hg
  obtain⟨f0,f1,f2,f3,f4,f5⟩:=hf it (by simp)
  obtain⟨g0,gx,gm,gs,gi⟩:=I.heldAt ha hd
  have hj:i<es.size:=by omega
  obtain⟨b,kb,tb,_⟩:=gi i hi hj
  refine DI.q8T st g0 hd hj fun h' st' sb=>?_
  have I1:Inv X pins σ H {s with heap:=h'}:=I.turned (t':=s.toks) (fun b o hb e=>(sb.2 b hb).trans e) f0 f1 f3 f4 f5
  obtain⟨o',e,c,d⟩:=id st'
  exact⟨_,rfl,go_of (s:={s with heap:=h'}) e c d (by decide) ⟨.ref b,H,I1,kb,⟨rfl,b,_,yB hi,rfl,tb⟩,st',fun b hb=>(hf b hb).1⟩⟩
 done:=by
  intro X hP hw hK hc i pins s σ H E I hf st hg
  subst hP hw hK
  obtain⟨ha,hi⟩:=hg
  obtain⟨f0,f1,f2,f3,f4,f5⟩:=hf it (by simp)
  obtain⟨g0,gx,gm,gs,gi⟩:=I.heldAt ha hd
  exact DI.qbe (I.ok.hd hc) st g0 hd (by omega) fun h' eb=>⟨rfl,I.turned (t':=s.toks) (fun b o hb e=>eb b o hb e) f0 f1 f3 f4 f5⟩
 self:=fun _ _ _ _ _ st h=>wpAny_pyIter_keyiter st h
section
variable {X:Cx}{tg:Expr}
def iDk (tl:TE):TI:=fun σ H R=>tl σ H fun x H1=>∃a o kvs,x= .ref a/\H1 a=some (.frz o (.dT kvs))/\R (Itd a o kvs) H1
theorem pi_dk {l:Expr}{tl:TE}(hl:PE X l tl):PI X tg l (iDk tl):=by
 intro pins s σ H R I h
 refine thn (hl pins s σ H _ I h) fun v s1 ⟨x,H1,I1,r1,q1⟩=>?_
 obtain⟨a,o,kvs,e,ha,q⟩:=q1
 subst e
 cases r1
 obtain⟨es,ep,hd⟩:∃es ep,o.data= .dict es ep:=by
  obtain⟨h0,z,y,xs,r,o',es',ep',h1,h2,h3,h4,h5⟩:=(show q06 X.prog X.w H1 s1.heap a (.frz o (.dT kvs)) from I1.hok a _ ha)
  rw[h0] at h1
  cases h1
  exact⟨_,_,h3⟩
 obtain⟨g0,gx,gm,gs,gi⟩:=I1.heldAt ha hd
 refine DI.keys gm g0 gx hd ?_
 refine⟨s1.heap.objs.size,[s1.heap.objs.size],_,_,H1,rfl,I1.kept (t':=s1.toks) fun b o e=>zm _ e,qbw hd,⟨_,zB _ rfl,rfl,rfl⟩,fun b hb=>?_,q⟩
 have e:b=s1.heap.objs.size:=by simpa using hb
 subst e
 exact I1.fpOk (zn _) (I1.hok.fresh (zn _))
end
def sHold (t:TS):TS:=fun D σ H=>∃a kvs,H a=some (.dT kvs)/\∀o,t D σ (upd H a (.frz o (.dT kvs)))
theorem qbT {X:Cx}{s:Stmt}{t:TS}(h:PS X s t):PS X s (sHold t):=by
 intro pins sh σ H D I q
 obtain⟨a,kvs,e,k⟩:=q
 obtain⟨o,I1⟩:=I.hold e
 exact h pins sh σ _ D I1 (k o)
section
variable {K:W.Frag}{g:TG}{tb:TS}{nx:St->Hp->Prop}{rt:V->Hp->Prop}{σ:St}{H:Hp}{a:Addr}{o:Obj}{kvs:List (List Key×V)}
variable {tc:TT}{te:TE}{R:Hp->Prop}{D:Addr}
theorem qcQ (Pv:Nat->St->Hp->Prop)(h0:Pv 0 σ H)(hl:∀i σ H,Pv i σ H->H a=some (.frz o (.dT kvs)))(go:∀i b p σ H,kvs[i]? =some p->H b=some (.tup (p.1.map kV))->Pv i σ H->g (.ref b) σ H fun σ3 H3=>tc σ3 H3 fun b H4=>
   if b=true then te σ3 H4 fun y H5=>∃ys,H5 D=some (.lst ys)/\ys.length<sizeLine/\Pv (i+1) σ3 (upd H5 D (.lst (ys++[y]))) else Pv (i+1) σ3 H4)(stop:∀σ H,Pv kvs.length σ H->R H):q9J (Itd a o kvs) g tc te R D σ H:=
 q42 kvs.length Pv h0 (fun i σ H hi p=>⟨⟨hl i σ H p,hi⟩,fun x H' ⟨e1,b,q,hq,ex,hb⟩=>by subst e1 ex;exact go i b q σ _ hq hb p⟩) fun σ H p=>⟨⟨hl _ σ H p,zn _⟩,stop σ H p⟩
end
theorem q4s {k:Nat}{A:Around}(hr:Room k A):A.units+1<cLine:=by have:=hr.un;omega
section
variable {σ:St}{H:Hp}{Q:VK}{td ty tv:TE}{nx:St->Hp->Prop}{rt:V->Hp->Prop}{bk ct:St->Hp->Prop}
theorem r_dnew (q:∀p,H p=none->Q (.ref p) (upd H p (.dT []))):qb2 σ H Q:=q
theorem r_din (q:ty σ H fun y H1=>td σ H1 fun x H2=>∃a o,x= .ref a/\DGet H2 a y o/\Q (.bl o.isSome) H2):tDIn ty td σ H Q:=q
theorem r_dnin (q:ty σ H fun y H1=>td σ H1 fun x H2=>∃a o,x= .ref a/\DGet H2 a y o/\Q (.bl (!o.isSome)) H2):q83 ty td σ H Q:=q
theorem r_dput (q:tv σ H fun v H1=>td σ H1 fun x H2=>ty σ H2 fun y H3=>∃a H4,x= .ref a/\DPut H3 a y v H4/\nx σ H4):sDPut td ty tv ⟨nx,rt,bk,ct⟩ σ H:=q
theorem r_hold {t:TS}{D:Ends}(q:∃a kvs,H a=some (.dT kvs)/\∀o,t D σ (upd H a (.frz o (.dT kvs)))):sHold t D σ H:=q
theorem r_dk {R:It->Hp->Prop}(q:td σ H fun x H1=>∃a o kvs,x= .ref a/\H1 a=some (.frz o (.dT kvs))/\R (Itd a o kvs) H1):iDk td σ H R:=q
end
theorem qbH {c:TT}{tb:TS}{σ:St}{H:Hp}{nx:St->Hp->Prop}{rt:V->Hp->Prop}{bk ct:St->Hp->Prop}(W:Nat->St->Hp->Prop)(m:Nat)(h0:W m σ H)
  (go:∀m σ H,W m σ H->c σ H fun b H1=>if b=true then∃N:St->Hp->Prop,(∀σ' H',N σ' H'->∃m',m'<m/\W m' σ' H')/\tb ⟨N,rt,nx,N⟩ σ H1 else nx σ H1):qb0 c tb ⟨nx,rt,bk,ct⟩ σ H:=⟨W,⟨m,h0⟩,go⟩
theorem pi_dkK {X:Cx}{tg l:Expr}{tl:TE}(K:W.Frag)(hl:PE X l tl):PI X tg l (iDk tl):=pi_dk hl
end L2
namespace Ce
open L2 PySem PySem.Spec PyProof.Rows
def Sd.ns (s:Sd):List Int:=[s.rm,s.tk,s.op,s.b,s.wt]
def Sd.key (s:Sd):List Key:=[.inl s.rm,.inl s.tk,.inl s.op,.inl s.b,.inl s.wt]
theorem Sd.ns_inj {a b:Sd}(h:a.ns=b.ns):a=b:=by
 cases a;cases b;simp only[Sd.ns,List.cons.injEq,and_true] at h;obtain⟨h1,h2,h3,h4,h5⟩:=h;subst h1 h2 h3 h4 h5;rfl
theorem Sd.key_inj {a b:Sd}(h:a.key=b.key):a=b:=by
 cases a;cases b;simp only[Sd.key,List.cons.injEq,Sum.inl.injEq,and_true] at h;obtain⟨h1,h2,h3,h4,h5⟩:=h;subst h1 h2 h3 h4 h5;rfl
instance:DecidableEq Sd:=fun a b=>decidable_of_iff (a.ns=b.ns) ⟨Sd.ns_inj,fun h=>by rw[h]⟩
def SAt (H:Hp)(p:Addr)(s:Sd):Prop:=H p=some (.tup s.vs)
theorem SAt.mono {H H':Hp}(s:q0m H H'){p:Addr}{x:Sd}(h:SAt H p x):SAt H' p x:=s _ _ h
theorem SAt.put {H:Hp}{D:Addr}{xs:List V}{o:HO}(hD:H D=some (.lst xs)){p:Addr}{x:Sd}(h:SAt H p x):SAt (upd H D o) p x:=q0m.lst hD _ _ h
theorem Rows.mem {α:Type}{At:Hp->Addr->α->Prop}{H:Hp}{ps:List Addr}{xs:List α}(h:Rows At H ps xs){b:Addr}(hb:b∈ps):∃x∈xs,At H b x:=by
 obtain⟨i,hi,e⟩:=zbU hb
 have hj:i<xs.length:=by rw[<-h.1];exact hi
 exact⟨xs[i],zL hj,h.2 i b _ (by rw[yB hi,e]) (yB hj)⟩
abbrev Dk:=List (Sd×V)
def dkv (l:Dk):List (List Key×V):=l.map fun x=>(x.1.key,x.2)
def dat (l:Dk)(s:Sd):Option V:=(l.find? fun x=>decide (x.1=s)).map (·.2)
theorem q6B (s:Sd):∀l:Dk,valV (dkv l) s.key=dat l s
 |[]=>rfl
 |x::l=>by
  by_cases e:x.1=s
  ·rw [show dkv (x::l)=(x.1.key,x.2)::dkv l from rfl,q0A (by rw[e])]
   simp[dat,e]
  ·rw [show dkv (x::l)=(x.1.key,x.2)::dkv l from rfl,q0k (fun z=>e (Sd.key_inj z)),q6B s l]
   simp[dat,e]
theorem q4W {l:Dk}{s:Sd}:dat l s=none↔s∉l.map (·.1):=by
 unfold dat
 rw[Option.map_eq_none_iff,List.find?_eq_none]
 simp only[decide_eq_true_eq,List.mem_map,not_exists,not_and]
theorem q7M {l:Dk}{s:Sd}:(dat l s).isSome=decide (s∈l.map (·.1)):=by
 cases e:dat l s with
 |none=>rw[zq (q4W.mp e)];rfl
 |some v=>
  have:¬dat l s=none:=by rw[e];simp
  rw[zr (Classical.byContradiction fun z=>this (q4W.mpr z))];rfl
theorem qcI {l:Dk}{s:Sd}{v:V}(h:s∉l.map (·.1)):putK (dkv l) s.key v=dkv (l++[(s,v)]):=by
 unfold putK
 rw[q3D,q6B,q4W.mpr h,zo (by decide)]
 simp[dkv]
def DAtS (H:Hp)(a:Addr)(l:Dk):Prop:=H a=some (.dT (dkv l))
theorem dget_s {H:Hp}{a b:Addr}{l:Dk}{s:Sd}(h:Rd H a (.dT (dkv l)))(hb:SAt H b s):DGet H a (.ref b) (dat l s):= .inr ⟨_,s.key,b,h,rfl,hb,(q6B s l).symm⟩
theorem dput_s {H:Hp}{a b:Addr}{l:Dk}{s:Sd}{v:V}(h:DAtS H a l)(hb:SAt H b s)(hl:l.length<sizeLine)(hn:s∉l.map (·.1)):DPut H a (.ref b) v (upd H a (.dT (dkv (l++[(s,v)])))):=by
 have:=DPut.t (k:=s.key) (v:=v) h hb (by simpa[dkv] using hl)
 rwa [qcI hn] at this
inductive Rch {α:Type}(R:α->α->Prop)(a:α):α->Prop where
 |refl:Rch R a a
 |step {b c:α}:Rch R a b->R b c->Rch R a c
def Ord (l:List Sd):Prop:=l.Pairwise fun a b=>¬b.ns<a.ns
end Ce
namespace Ce
open L2 PySem PySem.Spec PyProof.Rows
structure Small (C:Cl):Prop where
 r:C.rooms<=5
 w:C.ways.length<=4
 t:C.things.length<=2
 l:C.levers.length<=1
 v:C.wheels.length<=1
def nx (C:Cl)(s:Sd):List Sd:=(fitD C s).map fun x=>q1p C s x.1 (x.2:Int)
def NxR (C:Cl)(s t:Sd):Prop:=t∈nx C s
def popc (n:Nat):Nat:=cnt (fun i=>n.testBit i) 4
def fits (d:Nat->Bool)(t o:Nat):Bool:=decide (popc o<=popc t)&&(List.range 4).all fun i=> !o.testBit i||d i
def num (d:Nat->Bool)(o:Nat):Nat:=cnt (fun i=> !d i||o.testBit i) 4
def prs (d:Nat->Bool):List (Nat×Nat):=((List.range 4).flatMap fun t=>(List.range 16).map fun o=>(t,o)).filter fun x=>fits d x.1 x.2
def mk4 (d0 d1 d2 d3:Bool)(i:Nat):Bool:=match i with|0=>d0|1=>d1|2=>d2|_=>d3
theorem qbU:∀d0 d1 d2 d3:Bool,((prs (mk4 d0 d1 d2 d3)).map fun x=>4*min 5 (1+2*num (mk4 d0 d1 d2 d3) x.2)).sum<=288:=by walk_at "k"
def ends (C:Cl)(i:Nat):List Int:=match C.ways[i]? with|some x=>[x.a,x.b]|none=>[0,0]
def dI (C:Cl):Nat->Bool:=mk4 (dsOf C 0).isSome (dsOf C 1).isSome (dsOf C 2).isSome (dsOf C 3).isSome
def rms (C:Cl)(s0:Sd)(o:Nat):List Int:=if 1+2*num (dI C) o<=5 then s0.rm::(List.range 4).flatMap fun i=>if (!dI C i||o.testBit i)=true then ends C i else [] else(List.range 5).map fun n:Nat=>(n:Int)
theorem qaP (C:Cl)(i:Nat):(ends C i).length=2:=by unfold ends;split<;>rfl
theorem qbG (C:Cl)(s0:Sd)(o:Nat):(rms C s0 o).length=min 5 (1+2*num (dI C) o):=by
 unfold rms
 split
 ·rename_i h
  have e:((List.range 4).flatMap fun i=>if (!dI C i||o.testBit i)=true then ends C i else []).length=2*num (dI C) o:=by
   have:∀n,((List.range n).flatMap fun i=>if (!dI C i||o.testBit i)=true then ends C i else []).length=2*cnt (fun i=> !dI C i||o.testBit i) n:=fun n=>by
    induction n with
    |zero=>rfl
    |succ n ih=>
     rw[List.range_succ,List.flatMap_append,zx,ih]
     show _=2*(cnt _ n+_)
     simp only[List.flatMap_cons,List.flatMap_nil,List.append_nil]
     split
     ·rw [qaP];omega
     ·simp
   exact this 4
  rw[zaf,e]
  omega
 ·rename_i h
  simp
  omega
def bs2 (C:Cl)(s0:Sd):List Int:=[s0.b,Builtin.bitXor s0.b (C.levers.getD 0 (0,0)).2]
def ws2 (C:Cl)(s0:Sd):List Int:=[s0.wt,(C.wheels.getD 0 (0,0)).2]
def uni (C:Cl)(s0:Sd):List Sd:=(prs (dI C)).flatMap fun x=>(rms C s0 x.2).flatMap fun r=>(bs2 C s0).flatMap fun b=>(ws2 C s0).map fun w=>(⟨r,(x.1:Int),(x.2:Int),b,w⟩:Sd)
theorem qbv (C:Cl)(s0:Sd):(uni C s0).length<=288:=by
 refine zab (zcl ?_) (qbU (dsOf C 0).isSome (dsOf C 1).isSome (dsOf C 2).isSome (dsOf C 3).isSome)
 unfold uni
 rw[List.length_flatMap]
 congr 1
 refine zax fun x _=>?_
 rw[List.length_flatMap]
 have:∀l:List Int,(l.map fun r=>((bs2 C s0).flatMap fun b=>(ws2 C s0).map fun w=>(⟨r,(x.1:Int),(x.2:Int),b,w⟩:Sd)).length).sum=4*l.length:=fun l=>by
  induction l with
  |nil=>rfl
  |cons r l ih=>
   rw[zZ,List.sum_cons,ih,zaf]
   simp[bs2,ws2]
   omega
 rw[this,qbG]
 rfl
structure Bnd (C:Cl)(s0 s:Sd):Prop where
 ok:s.ok C
 rm:s.rm=s0.rm\/∃(i:Nat) (x:Way),C.ways[i]? =some x/\((dsOf C i).isSome=false\/bit s.op i=true)/\(s.rm=x.a\/s.rm=x.b)
 b:s.b∈bs2 C s0
 wt:s.wt∈ws2 C s0
theorem q6N:∀{l m:List Sd},l.Nodup->(∀x∈l,x∈m)->l.length<=m.length
 |[],_,_,_=>zaC _
 |x::l,m,hn,h=>by
  rw[zbl] at hn
  have hx:=h x (.head _)
  have:=q6N (m:=m.erase x) hn.2 fun y hy=>(List.mem_erase_of_ne fun e=>hn.1 (by rw[<-e];exact hy)).mpr (h y (zE _ hy))
  rw[List.length_erase_of_mem hx] at this
  have:0<m.length:=List.length_pos_of_mem hx
  rw[zaf]
  omega
end Ce
namespace L2
open PySem PySem.Spec PyProof.Rows PySem.W
theorem Inv.dictAt {X:Cx}{pins:List (Addr×Obj)}{σ:St}{H:Hp}{s:Shared}{a:Addr}{kvs:List (List Key×V)}(I:Inv X pins σ H s)(e:H a=some (.dT kvs)):∃(o:Obj) (es:Array DictEntry) (ep:Nat) (bs:List Addr),s.heap.get? a=some o/\o.ExactDict/\o.data= .dict es ep/\(a==sysModules)=false/\kvs.length<=sizeLine/\
  es.toList.map (·.key)=bs.map Value.ref/\bs.length=kvs.length/\∀(i:Nat) (b:Addr) (p:List Key×V),bs[i]? =some b->kvs[i]? =some p->H b=some (.tup (p.1.map kV)):=by
 obtain⟨z,y,xs,r,o,es,ep,h1,h2,h3,h4,h5⟩:=(show q06 X.prog X.w H s.heap a (.dT kvs) from I.hok a _ e)
 have hl:kvs.length=xs.length:=r.length
 refine⟨o,es,ep,xs.map fun x=>x.2.1,h1,h2,h3,y,z,?_,by rw[yC,hl],fun i b p hb hp=>?_⟩
 ·refine zcd fun i=>?_
  rw[zN,zbe,zN,zN,entry_at h4 i]
  cases xs[i]? with
  |none=>rfl
  |some x=>rfl
 ·rw [zN] at hb
  cases hx:xs[i]? with
  |none=>rw[hx] at hb;cases hb
  |some x=>
   rw[hx] at hb
   cases hb
   exact(Paired.at' r hp hx).2.1
def tDisp1 (tk tv:TE):TE:=fun σ H Q=>∀p,H p=none->tk σ (upd H p (.dT [])) fun x H1=>tv σ H1 fun y H2=>∃(b:Addr) (k:List Key),x= .ref b/\H2 p=some (.dT [])/\H2 b=some (.tup (k.map kV))/\Q (.ref p) (upd H2 p (.dT [(k,y)]))
theorem qad {X:Cx}{pos:Pos}{k v:Expr}{tk tv:TE}(hu:X.A.units+1<cLine)(hk:PE X k tk)(hv:PE X v tv):PE X (.Dict [some k] [v] pos) (tDisp1 tk tv):=by
 intro pins s σ H Q I q
 have hn:=I.hok.fresh (zn s.heap.objs.size)
 have I1:=I.laid (a:=s.heap.objs.size) (o:= .dT []) (h':=s.heap.push {cls:= .type "dict",data:= .dict #[]}) (t':=s.toks) (fun _ _ q=>zm _ q) (zn _) (q77 s.heap I.big)
 have pp:=qa3 (pos:=pos) hk hv qbV pins _ σ _ (fun ps H2=>match ps with|[(x,y)]=>∃(b:Addr) (k:List Key),x= .ref b/\H2 s.heap.objs.size=some (.dT [])/\H2 b=some (.tup (k.map kV))/\Q (.ref s.heap.objs.size) (upd H2 s.heap.objs.size (.dT [(k,y)]))|_=>False) I1 (q _ hn)
 rw[arm_eval_Dict,zip_pairTrees [some k] [v] X.env pos rfl rfl,dictDisplay_pairs _ (by intro z;cases z) (by show 1<17;decide)]
 refine yD (zbA (yD ?_))
 unfold subDict
 refine yD (wpAny_alloc ?_)
 refine yD (zah ?_)
 rw[zt (by show 1<=15;decide)]
 refine yD (zO pp (fun ws s2 z=>?_) fun _ _ e=>e)
 obtain⟨ps,H2,I2,rel,z⟩:=z
 cases rel with
 |nil=>exact z.elim
 | @cons p0 q0 _ _ r1 rel=>
 cases rel with
 |cons _ _=>exact z.elim
 |nil=>
  obtain⟨x,y⟩:=p0
  obtain⟨w1,w2⟩:=q0
  obtain⟨b,k,rfl,e,eb,q2⟩:=z
  obtain⟨ra,rb⟩:=r1
  cases(show w1=Value.ref b from ra)
  refine zah ?_
  rw[zcq]
  obtain⟨z,hd,xs,rel,dd⟩:=dt_of I2.hok e
  have hx:xs=[]:=by cases rel;rfl
  subst hx
  refine yD (yD (yD (wpAny_dictSet_heap (hsz:=zaC _) (show X.A.units<cLine from zbv hu) (q5V I2.hok eb) dd fun h' dd' hs=>zl ?_)))
  dsimp only
  rw[List.forIn_nil]
  refine zl (zl (zl (zl ⟨.ref s.heap.objs.size,_,?_,rfl,q2⟩)))
  obtain⟨qo,es,ep,hq,h2,h3,h4,_,h5⟩:=dd'
  refine q6D I2 (by rw[e];exact True.intro) hs ⟨qo,hq⟩ ⟨by show 1<=sizeLine;decide,hd,_,((show KT H2 [] [] from .nil).put k eb rb).keeps fun c ys ec=>?_,qo,es,ep,hq,h2,h3,h4,h5⟩
  rw[qq (q6s ec e (fun z=>nomatch z))]
  exact ec
end L2
namespace L2
open PySem PySem.Spec PyProof.Rows
end L2
namespace L2
open PySem PySem.Spec PyProof.Rows
end L2
namespace L2
open PySem PySem.Spec PyProof.Rows
end L2
namespace L2
open PySem PySem.Spec PyProof.Rows
end L2
namespace L2
open PySem PySem.Spec PyProof.Rows
end L2
namespace L2
open PySem PySem.Spec PyProof.Rows
structure M1 (X:Cx)(o:Expr)(m:Str)(apos:Pos)(e:Expr)(cpos:Pos):Prop where
 base:attributeBase o m X.env (eval o X.env)=eval o X.env
 few:((backTo cpos (starEach [e] X.env)).all (fun x=> !x.1)&&(backToKw cpos (keywordEach [] X.env)).all (fun x=>x.1.isSome)
  &&decide (([e]:List Expr).length+([]:List Keyword).length+(if ([]:List Keyword).isEmpty then 0 else 1)<30))=true
 line:(apos.endLine==cpos.line)=true
 trees:backTo cpos (starEach [e] X.env)=[(false,eval e X.env)]
end L2
namespace Att
open PySem PySem.W PySem.Calls PyProof.Rows
end Att
namespace L2
open PySem PySem.Spec PyProof.Rows
end L2
namespace L2
open PySem PySem.Spec PyProof.Rows
end L2
namespace L2
open PySem PySem.Spec PyProof.Rows
end L2
namespace L2
open PySem PySem.Spec PyProof.Rows PySem.W
end L2
namespace L2
open PySem PySem.Spec PyProof.Rows
end L2
namespace L2
open PySem PySem.Spec PyProof.Rows
end L2
namespace L2
open PySem PySem.Spec PyProof.Rows
end L2
namespace L2
open PySem PySem.Spec PyProof.Rows
end L2
namespace L2
open PySem PySem.Spec PyProof.Rows
end L2
namespace L2
open PySem PySem.Spec PyProof.Rows
structure M2 (X:Cx)(o:Expr)(m:Str)(apos:Pos)(e f:Expr)(cpos:Pos):Prop where
 base:attributeBase o m X.env (eval o X.env)=eval o X.env
 few:((backTo cpos (starEach [e,f] X.env)).all (fun x=> !x.1)&&(backToKw cpos (keywordEach [] X.env)).all (fun x=>x.1.isSome)
  &&decide (([e,f]:List Expr).length+([]:List Keyword).length+(if ([]:List Keyword).isEmpty then 0 else 1)<30))=true
 line:(apos.endLine==cpos.line)=true
 trees:backTo cpos (starEach [e,f] X.env)=[(false,eval e X.env),(false,eval f X.env)]
end L2
namespace Att
open PySem PySem.W PySem.Calls PyProof.Rows
end Att
namespace L2
open PySem PySem.Spec PyProof.Rows
end L2
namespace L2
open PySem PySem.Spec PyProof.Rows
section
variable {σ:St}{H:Hp}{Q:VK}{td ty tx:TE}{nx bk ct:St->Hp->Prop}{rt:VK}
theorem r_cont (q:ct σ H):tCont ⟨nx,rt,bk,ct⟩ σ H:=q
end
end L2
namespace DI
open PySem PySem.W PyProof.Rows
theorem src {prog:Program}{w:World}{d:Addr}{o:Obj}{es:Array DictEntry}{ep:Nat}(hd:(d==sysModules)=false)(hx:o.ExactDict)(hdat:o.data= .dict es ep):KdlSrc prog w "dict" d d es.size (fun i v=>∃h:i<es.size,v=es[i].key) (fun h=>h.get? d=some o) where
 type:=fun s ho=>ty ho hx
 there:=fun _ ho=>⟨zv ho,zv ho⟩
 keep:=fun _ _ ho k=>k d (.inl rfl) o ho
 notList:=by decide
 notTuple:=by decide
 hint:=fun _ _ _ _ ho hq=>kdl_hint_dict (ty ho hx) hq
 iter:=fun A s hh ho=>by
  refine⟨_,fun i h=>h.IsKeyIter s.heap.objs.size d i es.size ep/\h.get? d=some o,(fun _ _ hq=>keys hd ho hx hdat hq),⟨?_,?_,?_,?_,?_⟩,⟨_,zB _ rfl,rfl,rfl⟩,zm _ ho⟩
  ·intro b hb
   exact zG.mpr (.inl (zA.mp hb))
  ·intro i h h' ⟨st,e⟩ k
   exact⟨st.at fun o e=>k _ (by simp) o e,k d (by simp) o e⟩
  ·intro i s' Q E hi ⟨st,e⟩ hQ
   refine q8T st e hdat hi fun h' st' sb=>?_
   have ne:d≠s.heap.objs.size:=zF (zv ho)
   exact hQ _ h' s'.toks ⟨hi,rfl⟩ ⟨st',(sb.2 d ne).trans e⟩ fun b o hb q=>(sb.2 b fun z=>hb (by simp[z])).trans q
  ·intro s' Q E ⟨st,e⟩ hQ
   exact qbe hh st e hdat (zn _) fun h' eb=>hQ h' s'.toks fun b o hb q=>eb b o (fun z=>hb (by simp[z])) q
  ·intro i s' Q E ⟨st,e⟩ hQ
   exact wpAny_pyIter_keyiter st hQ
end DI
namespace L2
open PySem PySem.Spec PyProof.Rows PySem.W
def rLstD:List V->Hp->VK->Prop:=fun xs H Q=>∃(a:Addr) (kvs:List (List Key×V)),xs=[.ref a]/\H a=some (.dT kvs)/\
 ∀(q:Addr) (bs:List Addr),H q=none->bs.length=kvs.length->(∀(i:Nat) (b:Addr) (p:List Key×V),bs[i]? =some b->kvs[i]? =some p->H b=some (.tup (p.1.map kV)))->Q (.ref q) (upd H q (.lst (bs.map V.ref)))
theorem lstD {X:Cx}(hc:X.calm=true:=by rfl):q1g X (.type "list") rLstD:=by
 intro pins s σ H xs us Q I r h
 obtain⟨a,kvs,rfl,ha,q⟩:=h
 obtain⟨u,rfl,rx⟩:=q2U r
 cases rx
 obtain⟨o,es,ep,bs,ho,hx,hd,hs,hz,hes,hbl,hb⟩:=I.dictAt ha
 have hsz:es.size=kvs.length:=by
  have:=zae List.length hes
  rw[yC,yC,zai] at this
  omega
 refine kdl_call (DI.src hs hx hd) (I.ok.hd hc) ho (by omega) fun h' tk acc c hk hD hI=>?_
 have eacc:acc.toList=bs.map Value.ref:=by
  rw[<-hes]
  refine zcd fun j=>?_
  rw[zbe,zN,zbe]
  by_cases hj:j<es.size
  ·have hj':j<acc.size:=by rw[hI.1];exact hj
   obtain⟨_,e⟩:=hI.2 j _ (zaJ hj')
   rw[zaJ hj',zaJ hj,e]
   rfl
  ·rw [Array.getElem?_eq_none (by rw[hI.1];omega),Array.getElem?_eq_none (by omega)]
   rfl
 have rv:∀bs:List Addr,Vals (bs.map V.ref) (bs.map Value.ref):=fun bs=>by
  induction bs with
  |nil=>exact .nil
  |cons b bs ih=>exact .cons rfl ih
 refine⟨.ref s.heap.objs.size,_,I.laid (t':=tk) hk (zn _) (show q06 X.prog X.w _ h' _ (.lst (bs.map V.ref)) from⟨by rw[yC];omega,acc.toList,c,by rw[eacc];exact rv bs,by rw[Array.toArray_toList];exact hD⟩),rfl,q _ bs (I.hok.fresh (zn _)) hbl hb⟩
section
variable {prog:Program}{w:World}{A:Around}{E:Value->Shared->Prop}{s:Shared}
theorem q7F {d:Addr}{o:Obj}{es:Array DictEntry}{ep:Nat}(hd:(d==sysModules)=false)(hdat:o.data= .dict es ep):
  MeetsIn prog w (Builtin.«dict.__len__» ⟨[.ref d],[]⟩) (fun _ R s=>s.heap.get? d=some o/\R (.ok (.ret (.int es.size s.toks))) {s with toks:=s.toks+1}):=
 .of_wp fun A R s ⟨ho,h⟩=>by
  show wpAny _ _ (dictSize d >>= _) _ _ s
  unfold dictSize
  refine yD (yD (zbd ho hdat (zl ?_)))
  show wpAny _ _ (Builtin.Dict.pendingCount d >>= _) _ _ s
  refine yD (wpAny_pendingCount_other hd ?_)
  refine wpAny_ret_mkInt ?_
  rw[Nat.add_zero]
  exact h
theorem q7N {d:Addr}{o:Obj}{es:Array DictEntry}{ep:Nat}{Q:Value->Shared->Prop}(hd:(d==sysModules)=false)(ho:s.heap.get? d=some o)(hx:o.ExactDict)(hdat:o.data= .dict es ep)(hfit:(es.size:Int)<2 ^ 63)
  (h:Q (.int es.size (s.toks+1)) {s with toks:=s.toks+1+1}):wpAny (model prog w) A (call (.builtin "len") [.ref d]) Q E s:=by
 refine zcj kind_len plain_len entry_len (args_len1 _) ?_
 unfold Builtin.«len»
 refine yD (m:=oneArg "len" _) (zl ?_)
 refine yD (m:=callSpecial? (.ref d) (Str.ofString "__len__")) (zar (name:=Str.ofString "__len__") (DI.ty ho hx) F.slot_dict_len
  (call_meetsIn F.slot_dict_len (DI.ty ho hx) F.entry_dict_len (F.args_dict_len_1 _) (q7F hd hdat) ⟨ho,?_⟩))
 show wpAny _ _ _ _ _ {s with toks:=s.toks+1}
 refine yD (zah (zl ?_))
 refine yD (wpAny_letGo ?_)
 show wpAny _ _ (if ((es.size:Nat):Int)<0 then _ else _) _ _ _
 rw[zo (by omega)]
 show wpAny _ _ (if ((es.size:Nat):Int)≥2 ^ 63 then _ else _) _ _ _
 rw[zo (by omega)]
 exact yD (wpAny_mkInt (zl ⟨_,rfl,h⟩))
end
def rLenT:List V->Hp->VK->Prop:=fun xs H Q=>∃(a:Addr) (kvs:List (List Key×V)),xs=[.ref a]/\H a=some (.dT kvs)/\Q (.int kvs.length) H
theorem lenT {X:Cx}:q1g X (.builtin "len") rLenT:=by
 intro pins s σ H xs us Q I r h
 obtain⟨a,kvs,rfl,ha,q⟩:=h
 obtain⟨u,rfl,rx⟩:=q2U r
 cases rx
 obtain⟨o,es,ep,bs,ho,hx,hd,hs,hz,hes,hbl,hb⟩:=I.dictAt ha
 have hsz:es.size=kvs.length:=by
  have:=zae List.length hes
  rw[yC,yC,zai] at this
  omega
 refine q7N hs ho hx hd (by rw[hsz];rw[sizeLine_eq] at hz;omega) ⟨.int kvs.length,H,(I.tok _).tok _,⟨s.toks+1,?_⟩,q⟩
 rw[hsz]
end L2
namespace PySem
section
variable {prog:Program}{w:World}{A:Around}{E:Value->Shared->Prop}{s:Shared}{l:Addr}{xs:Array (Int×Tok)}
theorem q5T {Q:Value->Shared->Prop}(hh:A.handled=none)(hl:s.heap.IsTuple l (intItems xs))(hne:0<xs.size)
  (h:∀v h' tk,(intItems xs)[argBest (fun i j=>decide (numAt xs i<numAt xs j)) (xs.size - 1)]? =some v->(∀b o,s.heap.get? b=some o->h'.get? b=some o)->Q v {s with heap:=h',toks:=tk}):
  wpAny (model prog w) A (call (.builtin "min") [.ref l]) Q E s:=by
 have hlt:l<s.heap.objs.size:=by obtain⟨_,e,_⟩:=hl;exact zv e
 refine call_min_walk (zba hl ?_)
 refine⟨_,[_,l],[_],_,_,_,_,rfl,Walks.tuple (A:=A.in1) hh _ l (zF hlt) (intItems xs),⟨⟨_,zB _ rfl,rfl,rfl⟩,hl.push _⟩,fun c hc=>?_,by simpa[intItems] using hne,CmpOf.ints_lt (numAt xs) (fun _ _=>intItems_at),fun v h' tk hP hk=>?_⟩
 ·show c<(s.heap.push _).objs.size
  rw[za4]
  rcases zG.mp hc with rfl|hc
  ·exact zbk _
  ·rcases zG.mp hc with rfl|hc
   ·exact zbc hlt
   ·cases hc
 ·refine h v h' tk (by simpa[intItems] using hP) fun b o e=>hk b o (fun hm=>?_) (zm _ e)
  rcases zG.mp hm with e1|hm
  ·exact absurd (e1▸zv e) (zan _)
  ·cases hm
end
end PySem
namespace L2
open PySem PySem.Spec PyProof.Rows
def rMinT (K:W.Frag):List V->Hp->VK->Prop:=fun xs H Q=>∃(p:Addr) (ns:List Int),xs=[.ref p]/\SqT K H p (ns.map V.int)/\0<ns.length/\∀M,M∈ns->(∀a,a∈ns->M<=a)->Q (.int M) H
theorem minTK {X:Cx}(K:W.Frag)(hc:X.calm=true)(hK:X.K=K:=by rfl):q1g X (.builtin "min") (rMinT K):=by
 subst hK
 intro pins s σ H xs us Q I r h
 obtain⟨p,ns,rfl,hq,hne,q⟩:=h
 obtain⟨u,rfl,rx⟩:=q2U r
 cases rx
 obtain⟨its,rv,pl,hz⟩:=I.tuple hq
 have hi:=q2z rv
 have hl:s.heap.IsTuple p its.toArray:=pl
 obtain⟨ys,e⟩:=hi.allInts.items
 have hns:ns=ys.toList.map (·.1):=by rw[<-hi.numsOf,<-nums_intItems,<-e]
 have hsz:0<ys.size:=by
  have h3:=hne
  rw[hns,yC,zai] at h3
  exact h3
 rw[e] at hl
 refine q5T (I.ok.hd hc) hl hsz fun v h' tk hv hk=>?_
 obtain⟨t,rfl⟩:=intItems_at hv
 obtain⟨h1,h2⟩:=argBest_lt (numAt ys) (ys.size - 1)
 refine⟨.int _,H,I.kept (t':=tk) hk,⟨_,rfl⟩,q _ ?_ fun a ha=>?_⟩
 ·rw [hns,numAt_eq]
  exact getD_mem (by rw[yC,zai];omega)
 ·rw [hns] at ha
  obtain⟨j,hj,rfl⟩:=mem_getD ha
  rw[yC,zai] at hj
  rw[<-numAt_eq]
  exact h2 j (by omega)
end L2
namespace RevL
open PySem PySem.W PyProof.Rows
theorem nolen:typeLookup (.type "list_reverseiterator") "__len__"=pure none:=by rw[typeLookup_type,builtinLookup_eq_fast];kernel_rfl
theorem hint:typeLookup (.type "list_reverseiterator") "__length_hint__"=pure (some (.builtin "list_reverseiterator.__length_hint__")):=by rw[typeLookup_type,builtinLookup_eq_fast];kernel_rfl
section
variable {prog:Program}{w:World}{A:Around}{E:Value->Shared->Prop}{s:Shared}
theorem qaF {J:Addr}{Q:Bool->Shared->Prop}(hT:s.TypeIs (.ref J) "list_reverseiterator")(h:Q false s):wpAny (model prog w) A (Builtin.List.listLengthHint (.ref J)) Q E s:=by
 unfold Builtin.List.listLengthHint
 refine yD (zbN hT nolen ?_)
 show wpAny _ A (specialOf (Value.ref J) (Str.ofString "__length_hint__") >>= _) _ _ _
 refine yD (zbN hT hint ?_)
 (generalize hid:("list_reverseiterator.__length_hint__":String)=id0;(fail_if_success (clear hid id0));wp_delta;rw[show splitId id0=some ("list_reverseiterator","__length_hint__") from by subst hid;walk_at "k"];subst hid)
 refine yD (wpAny_isInstance (b:=true) hT (by rw[isSubtype_type];kernel_rfl) ?_)
 refine zbP (fun hab=>absurd hab (by decide)) (fun _=>?_)
 refine zbP (fun _=>?_) (fun hab=>absurd (by walk_at "k") hab)
 refine zbP (fun hab=>absurd hab (by decide)) (fun _=>?_)
 exact zl h
theorem qaW {J l:Addr}{items:Array Value}{Q:Value->Shared->Prop}(hne:l≠J)(hsz:items.size<=sizeLine)(hh:A.handled=none)(hit:s.heap.IsRevIter J l ((items.size:Int) - 1))(hl:s.heap.IsList l items)
  (h:∀(h':Heap) (tk c:Nat),(∀b o',b≠J->s.heap.get? b=some o'->h'.get? b=some o')->h'.get? s.heap.objs.size=some {cls:= .type "list",dict:=none,data:= .seq items.reverse c,slots:= #[]}->Q (.ref s.heap.objs.size) {s with heap:=h',toks:=tk}):
  wpAny (model prog w) A (call (.type "list") [.ref J]) Q E s:=by
 obtain⟨oJ,hoJ,_⟩:=id hit
 obtain⟨ol,hol,_⟩:=id hl
 have ltJ:=zv hoJ
 have ltl:=zv hol
 refine callType_codes (Q₁:=fun obj s₁=>obj= .ref s.heap.objs.size/\s₁={s with heap:=s.heap.push {cls:= .type "list",data:= .seq #[]}}) PySem.F.called_list (PySem.F.typeCall_list_1 _) PySem.F.entry_list_init
  (code_list_new _ ⟨rfl,rfl⟩) fun obj s₁ h₁=>?_
 obtain⟨rfl,rfl⟩:=h₁
 have hS:(s.heap.push {cls:= .type "list",data:= .seq #[]}).get? s.heap.objs.size=some {cls:= .type "list",data:= .seq #[]}:=zB _ rfl
 refine⟨⟨_,hS,rfl⟩,PySem.F.args_list_init_2 _ _,?_⟩
 generalize hS0:s.heap.objs.size=S at hS
 have hSJ:S≠J:=fun z=>by rw[<-hS0] at z;rw[z] at ltJ;exact absurd ltJ (zan _)
 have hSl:S≠l:=fun z=>by rw[<-hS0] at z;rw[z] at ltl;exact absurd ltl (zan _)
 show wpAny _ _ (do let old<-Builtin.List.listItems (.ref S);Builtin.List.listUpdate (.ref S) (fun _=> #[]);letGo old.toList.reverse;Builtin.List.listExtendWith (.ref S) (.ref J) .none) _ _ _
 refine yD ?_
 unfold Builtin.List.listItems
 refine yD (zcu hS rfl (zl ?_))
 show wpAny _ _ (updateSeq S (fun _=> #[]) >>= fun _=>letGo (#[]:Array Value).toList.reverse >>= fun _=>Builtin.List.listExtendWith (.ref S) (.ref J) .none) _ _ _
 refine yD (wpAny_updateSeq hS rfl ?_)
 have hS₂:=zaa (Obj.mapSeq (fun _=>(#[]:Array Value))) hS rfl
 have oth:∀b o,b≠S->s.heap.get? b=some o->((s.heap.push {cls:= .type "list",data:= .seq #[]}).update S (Obj.mapSeq (fun _=>(#[]:Array Value)))).get? b=some o:=
  fun b o hb e=>(zT _ _ (Ne.symm hb)).trans (zm _ e)
 refine yD (wpAny_letGo ?_)
 generalize hh2:(s.heap.push {cls:= .type "list",data:= .seq #[]}).update S (Obj.mapSeq (fun _=>(#[]:Array Value)))=h2 at hS₂ oth
 have hit2:h2.IsRevIter J l ((items.size:Int) - 1):=hit.at fun o e=>oth _ o hSJ.symm e
 have hl2:h2.IsList l items:=hl.at fun o e=>oth _ o hSl.symm e
 have W:=Walks.listRev (prog:=prog) (w:=w) (A:=A.in1.in1) hh J l hne items
 have st:(fun i (h:Heap)=>i<=items.size/\h.IsRevIter J l ((items.size:Int) - 1 - (i:Int))/\h.IsList l items) 0 h2:=⟨zaC _,by simpa using hit2,hl2⟩
 have ns:Builtin.List.listSameRef (.ref S) (.ref J)=false:=by simp[Builtin.List.listSameRef,hSJ]
 unfold Builtin.List.listExtendWith
 refine yD (zbI (T:="list_reverseiterator") hit2.typeIs ?_)
 simp only[ns,show(Value.type "list_reverseiterator"==Value.type "list")=false by decide,show(Value.type "list_reverseiterator"==Value.type "tuple")=false by decide,Bool.or_false,Bool.false_eq_true,if_false]
 refine yD (W.self 0 _ _ _ st (yD (zah (qaF hit2.typeIs ?_))))
 refine zbP (fun hab=>absurd hab (by decide)) (fun _=>?_)
 have hSf:S∉[J,l]:=by simp only[List.mem_cons,List.not_mem_nil,or_false,not_or];exact⟨hSJ,hSl⟩
 refine zl ⟨plainId_quiet PySem.F.plain_extend_loop _,codeAny_extend_loopS W.toS hsz S hSf .none items.size 0 _ #[] _ rfl (zaC _) st hS₂ (ItemsOf.nil _) fun s' acc' c' hm hS' got=>?_⟩
 have ea:acc'=items.reverse:=by
  refine Array.ext (by rw[got.1];simp) fun i h1 h2=>?_
  have e:=got.2 i acc'[i] (by simp[h1])
  have hs:i<items.size:=by have:=got.1;omega
  rw[Array.getElem_reverse]
  have e2:items[items.size - 1 - i]? =some (items[items.size - 1 - i]'(by omega)):=zaJ (by omega)
  exact(zC (e2.symm.trans e)).symm
 subst ea
 rw[Moved.eq_with hm]
 subst hS0
 refine⟨rfl,h s'.heap s'.toks c' (fun b o hb e=>?_) hS'⟩
 refine hm.heap b o (fun hmem=>?_) (oth b o (zF (zv e)) e)
 rcases zG.mp hmem with e'|hmem
 ·exact absurd (zv e) (by rw[e'];exact zan _)
 ·exact hb (zA.mp hmem)
end
end RevL
namespace L2
open PySem PySem.Spec PyProof.Rows
theorem q5g:∀{xs:List V} {us:List Value},Vals xs us->Vals xs.reverse us.reverse
 |_,_,.nil=> .nil
 |_,_,.cons h r=>by
  rw[zcb,zcb]
  exact(q5g r).append (.cons h .nil)
theorem qcT:bootBuiltins "reversed"=some (.type "reversed"):=by walk_at "k"
section
variable {X:Cx}{e:Expr}{te:TE}
def q82 (K:W.Frag)(te:TE):TE:=fun σ H Q=>te σ H fun x H1=>∃p xs,x= .ref p/\SqL K H1 p xs/\∀q,H1 q=none->Q (.ref q) (upd H1 q (.lst xs.reverse))
theorem q8B {p1 p2 pos1 pos2:Pos}(K:W.Frag)(hc:X.calm=true)(hg1:Gl X "list")(hm1:X.mg "list"=none)(hg2:Gl X "reversed")(hm2:X.mg "reversed"=none)(he:PE X e te)(hp:q8x e=true:=by rfl)(hK:X.K=K:=by rfl):
  PE X (.Call (.Name "list" p1) [.Call (.Name "reversed" p2) [e] [] pos2] [] pos1) (q82 K te):=by
 subst hK
 intro pins s σ H Q I h
 refine zap (q38 I hg1 hm1 q4Y ?_ (by decide) (by decide))
 refine zaj ?_ rfl rfl
 show wpAny _ _ (spliced [(false,eval (.Call (.Name "reversed" p2) [e] [] pos2) X.env)]) _ _ s
 refine zb1 ?_
 refine zap (q38 I hg2 hm2 qcT ?_ (by decide) (by decide))
 refine zaj ?_ (q1z hp) rfl
 rw[q1z hp]
 show wpAny _ _ (spliced [(false,eval e X.env)]) _ _ s
 refine zb1 (thn (he pins s σ H _ I h) fun u s1 ⟨x,H1,I1,r1,p,xs,hx,hq,q⟩=>?_)
 subst hx
 cases r1
 refine zca ?_
 obtain⟨its,rv,pl,hz⟩:=I1.list hq
 have hn:=rv.length
 refine PySem.call_reversed_list pl.isList ?_
 refine zca ?_
 have I2:Inv X pins σ H1 {s1 with heap:=s1.heap.push (PySem.revObj p ((its.toArray.size:Int) - 1))}:=I1.kept (t':=s1.toks) fun _ _ z=>zm _ z
 have hl2:=pl.isList.at (h':=s1.heap.push (PySem.revObj p ((its.toArray.size:Int) - 1))) fun o z=>zm _ z
 have hne:p≠s1.heap.objs.size:=fun z=>by
  obtain⟨o,ho,_⟩:=pl.isList
  have lt:=zv ho
  rw[z] at lt
  exact absurd lt (zan _)
 have hsz:(s1.heap.push (PySem.revObj p ((its.toArray.size:Int) - 1))).objs.size=s1.heap.objs.size+1:=za4 ..
 refine RevL.qaW (s:={s1 with heap:=s1.heap.push (PySem.revObj p ((its.toArray.size:Int) - 1))}) (items:=its.toArray) hne (by rw[zy];omega) (I1.ok.hd hc) ⟨_,zB _ rfl,rfl,rfl⟩ hl2 fun h' tk c k hnew=>?_
 dsimp only at k hnew ⊢
 rw[hsz] at hnew ⊢
 have k1:∀b o,s1.heap.get? b=some o->h'.get? b=some o:=fun b o z=>k b o (fun y=>by rw[y] at z;exact absurd (zv z) (zan _)) (zm _ z)
 refine⟨.ref (s1.heap.objs.size+1),_,I1.laid (h':=h') (t':=tk) k1 (zaS _) (show q06 X.prog X.w _ _ _ (.lst xs.reverse) from⟨by rw[List.length_reverse];exact hz,its.reverse,c,q5g rv,?_⟩),rfl,q _ (I1.hok.fresh (zaS _))⟩
 rw[List.reverse_toArray] at hnew
 exact hnew
theorem q9X {K:W.Frag}{σ:St}{H:Hp}{Q:VK}(q:te σ H fun x H1=>∃p xs,x= .ref p/\SqL K H1 p xs/\∀q,H1 q=none->Q (.ref q) (upd H1 q (.lst xs.reverse))):q82 K te σ H Q:=q
end
def hOne (K:W.Frag)(C:Addr)(t:TS):TH:=fun cls od D σ H=>PySem.W.exmOne K cls (.ref C)=some true/\t D σ H
theorem ph_one {X:Cx}{x:Str}{C:Addr}{b0:Stmt}{suite:List Stmt}{np pos:Pos}{rest:List ExceptHandler}{t:TS}(K:W.Frag)(hx:X.ex=[])(hg:Gl X x)(hm:X.mg x=some (.ref C))
  (hs:∀v,PSs (X.marked v) (b0::suite) t)(hd:(x==("__debug__":Str))=false:=by decide)(hK:X.K=K:=by rfl):
  PH X (.ExceptHandler (some (.Name x np)) none (b0::suite) pos::rest) (hOne K C t):=by
 subst hK
 intro pins s σ H D a cls od c ⟨h1,h2⟩
 refine wpAny_handleBy_cons (codeAny_handlers_test (q2d (X:=X.marked (.ref a)) (c.inv.marked _) hg hm ?_ hd)) (by intro y;cases y)
 refine(PySem.W.exm_one c.inv.kIn c.type h1).here ?_
 refine codeAny_handlers_suite ?_
 obtain⟨base,a0,fly,back⟩:=c.opened hx
 refine q69 fly c.fly.dict fun h6 fly6 D6 up6=>?_
 have c6:=back h6 fly6 D6 up6
 exact zO (hs (.ref a) pins _ σ H D (c6.inv.marked _) h2) (fun f s7 y=>y.unmarked c.inv.ok) fun _ _ y=>False.elim y
def d3 (a1 b1 a2 b2 a3 b3:Str):List (Key×V):=mergeK [] [(.inr a1,.str b1),(.inr a2,.str b2),(.inr a3,.str b3)]
section
variable {M:Model}{A:Around}{E:Value->Shared->Prop}{s:Shared}{base:Heap}{L e:Addr}{cls a0:Value}{od:Option Addr}{Q:Unit->Shared->Prop}
theorem fliesX {l:List Env}{env:Env}(hf:env.frame=some L)(held:base.HeldW l e cls a0 L s.heap)(hD:q1J s.heap e od)(h:∀h',base.HeldW l e cls a0 L h'->q1J h' e od->s.heap.UpToSlots h'->Q () {s with heap:=h'}):wpAny M A (setFlight (.ref e) env.frame) Q E s:=by
 obtain⟨st,hen,ff,oe,vs,T,oT,ts,j1,j2,j3,j4,j5,j6,j7,j8,j9⟩:=held
 obtain⟨o2,q1,q2⟩:=hD
 rw[j1] at q1
 cases q1
 rw[hf]
 unfold setFlight
 refine yD (zam j1 j3 j4 ?_)
 refine zaR rfl ?_
 have h3:3<ts.size:=(zav.mp j9).1
 refine zaD j7 j8 h3 ?_
 have hd₃:=zaq j8 fun x=>x.setIfInBounds 3 (rawInt ↑L)
 have hT₃:=zaa (Obj.mapFields fun x=>x.setIfInBounds 3 (rawInt ↑L)) j7 (zay hd₃)
 have keep:∀b o,b≠T->s.heap.get? b=some o->(s.heap.update T (Obj.mapFields fun x=>x.setIfInBounds 3 (rawInt ↑L))).get? b=some o:=fun b o hb q=>by
  rw[zT _ _ (Ne.symm hb)]
  exact q
 have noT:∀b o,s.heap.get? b=some o->(∀vs,o.data≠ .fields vs)->b≠T:=fun b o hb hnf q=>by
  subst q
  rw[j7] at hb
  cases hb
  exact hnf ts j8
 refine h _ ⟨fun b o hb=>keep b o (fun q=>by subst q;rw[j5] at hb;cases hb) (st b o hb),hen,zaQ (fun b o hb hnf=>⟨o,keep b o (noT b o hb hnf) hb,rfl⟩) ff,oe,vs,T,_,_,keep _ _ (Ne.symm j6) j1,j2,j3,j4,j5,j6,hT₃,hd₃,?_⟩ ⟨_,keep _ _ (Ne.symm j6) j1,q2⟩ fun b o hb hnf=>⟨o.slots,keep b o (noT b o hb hnf) hb⟩
 rw[getElem?_pos _ 3 (by simpa using h3)]
 simp
end
section
variable {X:Cx}{pins pl:List (Addr×Obj)}{a:Addr}{cls:Value}{od:Option Addr}{σ:St}{H:Hp}{s:Shared}
theorem Caught.unpinned (c:Caught X (pins++pl) a cls od σ H s):Caught X pins a cls od σ H s:=by
 obtain⟨J,fl⟩:=c
 have sub:∀{p:Addr×Obj},p∈X.pn++pins->p∈X.pn++(pins++pl):=fun h=>by
  rcases zad.mp h with z|z
  ·exact zaL _ z
  ·exact zI _ (zaL _ z)
 obtain⟨oe,vs,T,oT,ts,a0,j1,j2,j3,j4,j6,j7,j8,j9,hT0,hTH,hTp⟩:=fl.ex
 exact⟨J.unpinned,⟨⟨oe,vs,T,oT,ts,a0,j1,j2,j3,j4,j6,j7,j8,j9,hT0,hTH,fun p hp=>hTp p (sub hp)⟩,fl.new,fl.free,fun p hp=>fl.pn p (sub hp),fl.dict⟩⟩
end
def q7Z (wi:TI)(g:TG)(tb:TSx)(th:TH):TS:=fun D σ H=>tFor wi g (fun D'=>tb D' fun σ' cls od H'=>th cls od D σ' H') D σ H
def bTry (i:Nat)(sp:Sp)(dvs:List V)(t:TA)(th:TH)(D:Ends):TS:=fun D' σ2 H2=>t σ2 H2 fun vs H3=>sp (vs++dvs) H3 (fun v H4=>D'.nx (σ2.set i (some v)) H4) fun cls od H'=>th cls od D σ2 H'
theorem r_tryF {wi:TI}{g:TG}{i:Nat}{sp:Sp}{dvs:List V}{t:TA}{th:TH}{D:Ends}{σ:St}{H:Hp}(q:tFor wi g (bTry i sp dvs t th D) D σ H):q7Z wi g (xSet i (qbr sp dvs t)) th D σ H:=q
theorem r_bTry {i:Nat}{sp:Sp}{dvs:List V}{t:TA}{th:TH}{D:Ends}{nx bk ct:St->Hp->Prop}{rt:VK}{σ:St}{H:Hp}(q:t σ H fun vs H3=>sp (vs++dvs) H3 (fun v H4=>nx (σ.set i (some v)) H4) fun cls od H'=>th cls od D σ H'):bTry i sp dvs t th D ⟨nx,rt,bk,ct⟩ σ H:=q
theorem q8q {X:Cx}{tg iter:Expr}{body:List Stmt}{wi:TI}{g:TG}{h0:ExceptHandler}{hs:List ExceptHandler}{tb:TSx}{th:TH}{pos fpos:Pos}(hst:X.stack=X.env::X.outer)(hfr:X.env.frame=some X.env.locals)(hx:X.ex=[])(hc:X.calm=true)
  (hi:PI X.nox tg iter wi)(hg:PG X.nox tg g)(hb:PSsx X body tb)(hh:PH X (h0::hs) th)
  (hfs:∀x,foldedSetIterable iter X.env x=pure x:=by intro _;rfl):PS X (.Try [.For tg iter body [] fpos] (h0::hs) [] [] pos) (q7Z wi g tb th):=by
 intro pins s σ H D I h
 refine wpAny_Try_except (zbB (zO (Q:=SP X pins D) (E:=fun e s₁=>wpAny (model X.prog X.w) X.A (noteFrame e X.env) (fun _ s₂=>wpAny (model X.prog X.w) X.A (setFlight e none) (fun _ s₃=>wpAny (model X.prog X.w) X.A (handleBy e X.env (h0::hs)) (SP X pins D) X.xe s₃) X.xe s₂) X.xe s₁) ?_ (fun f s1 z=>?_) fun _ _ z=>z))
 rotate_left
 ·cases f with
  |next=>exact zaM (zaM z)
  |ret v=>exact z
  |brk=>exact z
  |cont=>exact z
 refine wpAny_For (zO (hi pins s σ H _ (I.wish _) h) (fun v s1 h1=>zO h1 (fun itv s2 h2=>?_) fun _ _ z=>False.elim z) fun _ _ z=>False.elim z) hfs
 obtain⟨it,fp,tn,J,H2,e,I2,T,st2,f2,W,⟨m0,w0⟩,turn⟩:=h2
 have I2:=I2.unwish
 have f2:∀b∈fp,FpOk X pins H2 b:=f2
 subst e
 have stat:∀{H':Hp},(∀b∈fp,H' b=none)->∀b∈fp,FpOk X pins H' b:=fun hn b hb=>⟨hn b hb,(f2 b hb).2⟩
 refine codeAny_forLoop_any (fun n s'=>∃i σ' H',Inv X pins σ' H' s'/\tn i s'.heap/\(∀b∈fp,H' b=none)/\W i n σ' H') ?_ m0 ⟨0,σ,H2,I2,st2,fun b hb=>(f2 b hb).1,w0⟩
 rintro n s3 ⟨i,σ3,H3,I3,st3,fr3,w3⟩
 rcases turn i n σ3 H3 w3 with⟨stop,qn⟩|⟨go,N,hN,step⟩
 ·refine thn (T.done X rfl rfl rfl hc i pins s3 σ3 H3 _ I3 (stat fr3) st3 stop) fun r s4 ⟨hr,I4⟩=>?_
  subst hr
  exact zaM ⟨σ3,H3,I4,qn⟩
 ·refine thn (T.item X rfl rfl rfl hc i pins s3 σ3 H3 _ I3 (stat fr3) st3 go) fun r s4 ⟨u,hr,h4⟩=>?_
  subst hr
  refine thn h4 fun _ s5 ⟨x,H5,I5,r5,y5,st5,fr5⟩=>?_
  have I5':=I5.pinned (stat fr5) (T.obj _ _ st5)
  refine zO (hg _ s5 σ3 H5 x u _ (I5'.wish _) r5 (step x H5 y5)) (fun _ s6 ⟨σ6,H6,I6,q6⟩=>?_) fun _ _ z=>False.elim z
  refine zO (hb _ s6 σ6 H6 _ _ I6.unwish q6) (fun f s7 q7=>?_) fun e7 s7 z=>?_
  ·have again:∀{σ7:St} {H7:Hp},Inv X (pins++q4o fp s5.heap) σ7 H7 s7->N σ7 H7->∃m,m<n/\∃i σ' H',Inv X pins σ' H' s7/\tn i s7.heap/\(∀b∈fp,H' b=none)/\W i m σ' H':=fun {σ7 H7} I7 n7=>by
    obtain⟨m',hm,w7⟩:=hN σ7 H7 n7
    refine⟨m',hm,i+1,σ7,H7,I7.unpinned,T.keep _ _ _ st5 fun b hb o e=>(I7.pin (b,o) (zI _ (zI _ (q1i hb e)))).1,fun b hb=>?_,w7⟩
    obtain⟨o,e,d⟩:=T.obj _ _ st5 b hb
    exact(I7.pin (b,o) (zI _ (zI _ (q1i hb e)))).2.1
   cases f with
   |next=>obtain⟨σ7,H7,I7,n7⟩:=q7;exact again I7 n7
   |cont=>obtain⟨σ7,H7,I7,n7⟩:=q7;exact again I7 n7
   |brk=>obtain⟨σ7,H7,I7,q7⟩:=q7;exact⟨σ7,H7,I7.unpinned,q7⟩
   |ret v=>obtain⟨x7,σ7,H7,I7,r7,q7⟩:=q7;exact⟨x7,σ7,H7,I7.unpinned,r7,q7⟩
  ·obtain ⟨σ',a,cls,od,H',rfl,J7,fl,z⟩:=z
   have c7:=(Caught.mk J7 fl).unpinned
   obtain⟨base,a0,fly,back⟩:=c7.opened hx
   rw[hst] at fly back
   refine looksX (by rw[<-hst];exact I.ok.frames) hfr fly fl.dict fun h4' held D4 up4=>?_
   obtain⟨_,_,_,oe,vs,T',oT,ts,k1,k2,k3,k4,_⟩:=id held
   unfold cameBackBy
   refine yD (zam k1 k3 k4 ?_)
   refine zH rfl ?_
   refine fliesX hfr held D4 fun h5 held5 D5 up5=>?_
   refine wpAny_noteFrame_againW hfr held5.2.2.2 ?_
   refine qbd held5 D5 fun h6 fly6 D6 up6=>?_
   exact hh pins _ σ' H' D a cls od (back h6 fly6 D6 ((up4.trans up5).trans up6)) z
section
variable {prog:Program}{w:World}{κ:Type}[DecidableEq κ]{knd:HeapKind prog w κ}{A:Around}{E:Value->Shared->Prop}{s:Shared}
theorem q7X {stored:List Value}{Q:Bool->Shared->Prop}(hst:∀v∈stored,∃k' b,v= .ref b/\knd.is s.heap k' b)(h:Q false s):wpAny (model prog w) A (tableMayTell .none stored) Q E s:=by
 unfold tableMayTell
 split
 ·exact zl h
 ·refine yD (zl ?_)
  simp only[Bool.not_true,Bool.false_eq_true,if_false]
  refine yD ?_
  refine zcn _ (fun rest r s'=>s'=s/\r=(none,())/\∀v∈rest,∃k' b,v= .ref b/\knd.is s.heap k' b) _ ?_ ?_ _ _ ⟨rfl,rfl,hst⟩
  ·rintro x rest r s' ⟨rfl,rfl,hr⟩
   obtain⟨k',b,rfl,hb⟩:=hr x zY
   refine yD (knd.quiet hb ?_)
   simp only[Bool.not_true,Bool.false_eq_true,if_false]
   exact zl ⟨rfl,rfl,fun v hv=>hr v (zE _ hv)⟩
  ·rintro r s' ⟨rfl,rfl,_⟩
   exact zl h
theorem q99 {d:Addr}{o:Obj}{es ep}{xs:List (κ×Addr×Value)}{hh:Int}{Q:Option Nat->Shared->Prop}
  (ho:s.heap.get? d=some o)(hd:o.data= .dict es ep)(he:es.toList=xs.map (entryOfKey knd))(his:∀x∈xs,knd.is s.heap x.1 x.2.1)(heq:∀x∈xs,SeqAt.EqAt A s (.ref x.2.1) .none false)
  (hnone:Q none s):wpAny (model prog w) A (dictFind d .none hh) Q E s:=by
 have hmem:∀e∈es,∃x∈xs,e=entryOfKey knd x:=by
  intro e hin
  have:e∈xs.map (entryOfKey knd):=he▸Array.mem_toList_iff.mpr hin
  obtain⟨x,hx,rfl⟩:=zaN.mp this
  exact⟨x,hx,rfl⟩
 have hst:∀v∈(placesWithHash es.size (fun i=>es[i]?.map (·.hash)) hh).filterMap (fun i=>es[i]?.map (·.key)),∃k' b,v= .ref b/\knd.is s.heap k' b:=by
  intro v hv
  obtain⟨i,_,hi⟩:=zaT.mp hv
  cases hei:es[i]? with
  |none=>rw[hei] at hi;cases hi
  |some e=>
   rw[hei] at hi
   obtain rfl:e.key=v:=by simpa using hi
   obtain⟨x,hx,rfl⟩:=hmem e (zbh hei)
   exact⟨x.1,x.2.1,rfl,his x hx⟩
 unfold dictFind
 try with_reducible refine zah ?_
 refine yD (zbd ho hd ?_)
 dsimp only
 by_cases hall:((Value.none::(placesWithHash es.size (fun i=>es[i]?.map (·.hash)) hh).filterMap (fun i=>es[i]?.map (·.key))).all carriedByValue)=true
 ·rw [zt hall]
  unfold dictWalkPlain
  refine yD ?_
  refine zcn _ (fun rest b s'=>s'=s/\b=(none,())) _ ?_ ?_ _ _ ⟨rfl,rfl⟩
  ·rintro x rest b s' ⟨rfl,rfl⟩
   cases hex:es[x]? with
   |none=>exact zl ⟨rfl,rfl⟩
   |some e=>
    dsimp only
    obtain⟨y,hy,rfl⟩:=hmem e (zbh hex)
    split
    ·refine yD (zaY ho hd (yD ((heq y hy) _ _ _ _ (yD (zaY ho hd ?_)))))
     rw[zo (by simp)]
     simp only[Bool.false_eq_true,if_false]
     refine yD (zbJ ?_)
     exact zl ⟨rfl,rfl⟩
    ·exact zl ⟨rfl,rfl⟩
  ·rintro r s' ⟨rfl,rfl⟩
   exact zl hnone
 ·rw [zo hall]
  have hone:¬((placesWithHash es.size (fun i=>es[i]?.map (·.hash)) hh).filterMap (fun i=>es[i]?.map (·.key))==[Value.none])=true:=fun z=>by
   have e:=eq_of_beq z
   obtain⟨k',b,hv,_⟩:=hst Value.none (by rw[e];exact zA.mpr rfl)
   cases hv
  rw[zo hone]
  refine yD (q7X hst ?_)
  rw[zo (by simp)]
  refine yD ?_
  refine zcn _ (fun rest b s'=>s'=s/\b=(none,none)) _ ?_ ?_ _ _ ⟨rfl,rfl⟩
  ·rintro x rest b s' ⟨rfl,rfl⟩
   cases hex:es[x]? with
   |none=>exact zl ⟨rfl,rfl⟩
   |some e=>
    dsimp only
    obtain⟨y,hy,rfl⟩:=hmem e (zbh hex)
    split
    ·refine yD (zaY ho hd (yD ((heq y hy) _ _ _ _ (yD (zaY ho hd ?_)))))
     rw[zo (by simp)]
     simp only[Bool.false_eq_true,if_false]
     refine yD (zbJ ?_)
     first|rw[zo (by simp)]|skip
     first
      |exact zl ⟨rfl,rfl⟩
      |exact yD (zl (zl ⟨rfl,rfl⟩))
    ·exact zl ⟨rfl,rfl⟩
  ·rintro r s' ⟨rfl,rfl⟩
   exact zl hnone
end
section
variable {X:Cx}{pins:List (Addr×Obj)}{σ:St}{H:Hp}{s:Shared}{a:Addr}{A:Around}{E:Value->Shared->Prop}
theorem q7C {kvs:List (List Key×V)}{Q:Value->Shared->Prop}(hu:A.units+1<cLine)(I:Inv X pins σ H s)(e:Rd H a (.dT kvs))(h:∀s',Inv X pins σ H s'->Q (.bool true) s'):
  wpAny (model X.prog X.w) A (compareOp .NotIn .none (.ref a)) Q E s:=by
 obtain⟨z,hd,xs,rel,dd⟩:=qaQ I.hok e
 have hT:=dd.typeIs (s:=s)
 show wpAny _ _ (do return .bool (!(<-contains (.ref a) .none))) Q E s
 refine yD ?_
 unfold contains
 try with_reducible refine zah ?_
 refine yD (zbN hT zb4.lookup ?_)
 show wpAny _ _ (if (some (Value.builtin "dict.__contains__")==some Value.none)=true then _ else _) _ E s
 rw[zo (by rw[beq_builtin_none];exact zu)]
 refine yD (wpAny_callSpecialUnlessNone?_slot (name:=Str.ofString "__contains__") hT zb4
  (zaA zb4 hT entry_dict_contains ?_ (args_dict_contains _ _)))
 show wpAny _ _ (dictGet a .none >>= _) _ _ s
 refine yD ?_
 obtain⟨o,es,ep,ho,_,hdat,he,his,hn⟩:=dd
 unfold dictGet
 try with_reducible refine zah ?_
 refine yD (PySem.W.pyHash_laid .none .none A.in1 s _ rfl .none (by show A.units+1+0<cLine;omega) fun tk=>yD ?_)
 refine q99 (s:={s with toks:=tk}) ho hdat he his (fun x hx=>?_) ?_
 ·obtain ⟨o1,items,n,h1,h2,h3,_⟩:=his x hx
  exact SeqAt.EqAt.tuple_none (s:={s with toks:=tk}) ⟨o1,h1,h2,n,h3⟩ (by show A.units+1<cLine;omega)
 ·refine zl ?_
  show wpAny _ _ (Builtin.Dict.pendingKey? a .none >>= _) _ _ _
  refine yD (wpAny_pendingKey_other hd (zl ⟨_,rfl,zaF (zl ?_)⟩))
  exact h _ (I.tok _)
end
def q6M (ty td:TE):TE:=fun σ H Q=>ty σ H fun y H1=>td σ H1 fun x H2=>∃a,x= .ref a/\((∃ov,DGet H2 a y ov/\Q (.bl (!ov.isSome)) H2)\/(y= .non/\∃kvs,Rd H2 a (.dT kvs)/\Q (.bl true) H2))
theorem q7v {X:Cx}{o i:Expr}{td ty:TE}(hu:X.A.units+1<cLine)(hi:PE X i ty)(ho:PE X o td):PC X .NotIn i o (q6M ty td):=by
 intro pins s σ H Q I h
 refine thn (hi pins s σ H _ I h) fun iv s1 ⟨y,H1,I1,ry,q1⟩=>thn (ho pins s1 σ H1 _ I1 q1) fun u s2 ⟨x,H2,I2,rx,a,ex,q2⟩=>?_
 subst ex
 obtain rfl:u=Value.ref a:=rx
 rcases q2 with⟨ov,g,q⟩|⟨rfl,kvs,g,q⟩
 ·exact q9l hu I2 g ry fun s3 I3=>⟨.bl (!ov.isSome),H2,I3,rfl,q⟩
 ·cases (show iv=Value.none from ry)
  exact q7C hu I2 g fun s3 I3=>⟨.bl true,H2,I3,rfl,q⟩
theorem qbN {σ:St}{H:Hp}{Q:VK}{ty td:TE}(q:ty σ H fun y H1=>td σ H1 fun x H2=>∃a,x= .ref a/\((∃ov,DGet H2 a y ov/\Q (.bl (!ov.isSome)) H2)\/(y= .non/\∃kvs,Rd H2 a (.dT kvs)/\Q (.bl true) H2))):q6M ty td σ H Q:=q
end L2
namespace Srt
open PySem PySem.W PyProof.Rows
section
variable {α β:Type}{n:Nat}{lt:Nat->Nat->Bool}
def Runs (n:Nat)(lt:Nat->Nat->Bool):KasT α->(α->Prop)->Prop
 | .ret a,Q=>Q a
 | .ask i j k,Q=>i<n/\j<n/\Runs n lt (k (lt i j)) Q
theorem Runs.bind {f:α->KasT β}{Q:β->Prop}:∀{t:KasT α},Runs n lt t (fun a=>Runs n lt (f a) Q)->Runs n lt (t.bind f) Q
 | .ret _,h=>h
 | .ask _ _ _,h=>⟨h.1,h.2.1,Runs.bind h.2.2⟩
theorem Runs.mono {Q Q':α->Prop}(hq:∀a,Q a->Q' a):∀{t:KasT α},Runs n lt t Q->Runs n lt t Q'
 | .ret _,h=>hq _ h
 | .ask _ _ _,h=>⟨h.1,h.2.1,Runs.mono hq h.2.2⟩
theorem Runs.wp {cmp:Nat->Nat->(Bool->Shared->Prop)->Shared->Prop}{s:Shared}(hc:∀i j C,i<n->j<n->C (lt i j) s->cmp i j C s){Q:α->Prop}{G:α->Shared->Prop}(hq:∀a,Q a->G a s):∀{t:KasT α},Runs n lt t Q->t.kasWp cmp G s
 | .ret _,h=>hq _ h
 | .ask _ _ _,h=>hc _ _ _ h.1 h.2.1 (Runs.wp hc hq h.2.2)
end
variable {O:KeyOrd}{key:Nat->O.α}{n:Nat}
def ky (key:Nat->O.α)(p:Array Nat)(k:Nat):O.α:=key (p.getD k 0)
abbrev ltk (O:KeyOrd)(key:Nat->O.α)(i j:Nat):Bool:=O.blt (key i) (key j)
theorem q39 {p q:Array Nat}{i j:Nat}(h:p[i]? =q[j]?):ky key p i=ky key q j:=by
 unfold ky
 rw[zbi,zbi,h]
abbrev PO (n:Nat)(p:Array Nat):Prop:=p.Perm (List.range n).toArray
theorem PO.size {p:Array Nat}(h:PO n p):p.size=n:=by have:=h.size_eq;simpa using this
theorem PO.lt {p:Array Nat}(h:PO n p)(h0:0<n)(k:Nat):p.getD k 0<n:=by
 rw[zbi]
 cases e:p[k]? with
 |none=>exact h0
 |some x=>
  have:x∈(List.range n).toArray:=h.mem_iff.mp (zbh e)
  simpa using this
theorem PO.rev {p:Array Nat}(h:PO n p)(i j:Nat):PO n (kas_rev p i j):=(mirror_perm p i j _).trans h
theorem q8Q {p:Array Nat}{i j:Nat}(hj:j<=p.size)(k:Nat):ky key (kas_rev p i j) k=if i<=k/\k<j then ky key p (i+j - 1 - k) else ky key p k:=by
 have e:=getElem?_mirror_all (i:=i) hj k
 by_cases h1:i<=k/\k<j
 ·rw [zt h1] at e ⊢;exact q39 e
 ·rw [zo h1] at e ⊢;exact q39 e
theorem q4P {p:Array Nat}{i j:Nat}(hj:j<=p.size)(heq:∀k,i<=k->k<j->ky key p k=ky key p (j - 1))(k:Nat):ky key (kas_rev p i j) k=ky key p k:=by
 rw[q8Q hj]
 split
 ·rw [heq _ (by omega) (by omega),heq k (by omega) (by omega)]
 ·rfl
def Up (key:Nat->O.α)(m:Nat)(p:Array Nat):Prop:=∀i j,i<=j->j<m->O.kle (ky key p i) (ky key p j)
def Dn (key:Nat->O.α)(m:Nat)(p:Array Nat):Prop:=∀i j,i<=j->j<m->O.kle (ky key p j) (ky key p i)
theorem Up.one {p:Array Nat}:Up key 1 p:=fun i j h1 h2=>by
 have:i=j:=by omega
 subst this
 exact zbm _
theorem Up.snoc {m:Nat}{p:Array Nat}(h:Up key m p)(h1:1<=m)(hl:O.kle (ky key p (m - 1)) (ky key p m)):Up key (m+1) p:=fun i j hij hj=>by
 by_cases e:j=m
 ·subst e
  by_cases e2:i=j
  ·subst e2;exact zbm _
  ·exact zbC (h i (j - 1) (by omega) (by omega)) hl
 ·exact h i j hij (by omega)
theorem Dn.snoc {m:Nat}{p:Array Nat}(h:Dn key m p)(h1:1<=m)(hl:O.kle (ky key p m) (ky key p (m - 1))):Dn key (m+1) p:=fun i j hij hj=>by
 by_cases e:j=m
 ·subst e
  by_cases e2:i=j
  ·subst e2;exact zbm _
  ·exact zbC hl (h i (j - 1) (by omega) (by omega))
 ·exact h i j hij (by omega)
theorem asc {p:Array Nat}(hp:PO n p)(h0:0<n):∀(f m:Nat),1<=m->m+f<=n->Up key m p->Runs n (ltk O key) (kas_asc p f m) (fun r=>m<=r/\r<=m+f/\Up key r p/\(r=m+f\/O.klt (ky key p r) (ky key p (r - 1))))
 |0,m,h1,h2,h=>⟨zn _,zn _,h,.inl rfl⟩
 |f+1,m,h1,h2,h=>by
  refine⟨hp.lt h0 _,hp.lt h0 _,?_⟩
  cases e:ltk O key (p.getD m 0) (p.getD (m - 1) 0) with
  |true=>
   show Runs _ _ (if (true:Bool)=true then _ else _) _
   rw[zt rfl]
   exact⟨zn _,by omega,h,.inr e⟩
  |false=>
   show Runs _ _ (if (false:Bool)=true then _ else _) _
   rw[zo (by decide)]
   refine(asc hp h0 f (m+1) (by omega) (by omega) (h.snoc h1 e)).mono fun r ⟨a,b,c,d⟩=>⟨by omega,by omega,c,?_⟩
   rcases d with d|d
   ·exact .inl (by omega)
   ·exact .inr d
abbrev Eqs (key:Nat->O.α)(p:Array Nat)(m q:Nat):Prop:=∀i,m - (q+1)<=i->i<m->ky key p i=ky key p (m - 1)
theorem desc (h0:0<n):∀(f:Nat) (p:Array Nat) (m q:Nat),PO n p->q+1<=m->m+f<=n->Dn key m p->Eqs key p m q->
  Runs n (ltk O key) (kas_desc f p m q) (fun r=>PO n r.1/\r.2.2+1<=r.2.1/\r.2.1<=n/\Dn key r.2.1 r.1/\Eqs key r.1 r.2.1 r.2.2)
 |0,p,m,q,hp,h1,h2,h,he=>⟨hp,h1,by simpa using h2,h,he⟩
 |f+1,p,m,q,hp,h1,h2,h,he=>by
  refine⟨hp.lt h0 _,hp.lt h0 _,?_⟩
  have one:∀p',Eqs key p' (m+1) 0:=fun p' i a b=>by
   have:i=m:=by omega
   subst this
   rfl
  cases e:ltk O key (p.getD m 0) (p.getD (m - 1) 0) with
  |true=>
   show Runs _ _ (if (true:Bool)=true then _ else _) _
   rw[zt rfl]
   have hn:Dn key (m+1) p:=h.snoc (by omega) (zcg e)
   by_cases hq:q>0
   ·rw [zt hq]
    have hk:=q4P (key:=key) (p:=p) (i:=m - (q+1)) (j:=m) (by rw[hp.size];omega) he
    refine desc h0 f _ (m+1) 0 (hp.rev _ _) (by omega) (by omega) (fun i j a b=>?_) (one _)
    rw[hk,hk]
    exact hn i j a b
   ·rw [zo hq]
    exact desc h0 f _ (m+1) 0 hp (by omega) (by omega) hn (one _)
  |false=>
   show Runs _ _ (if (false:Bool)=true then _ else _) _
   rw[zo (by decide)]
   refine⟨hp.lt h0 _,hp.lt h0 _,?_⟩
   cases e2:ltk O key (p.getD (m - 1) 0) (p.getD m 0) with
   |true=>
    show Runs _ _ (if (true:Bool)=true then _ else _) _
    rw[zt rfl]
    exact⟨hp,h1,by show m<=n;omega,h,he⟩
   |false=>
    show Runs _ _ (if (false:Bool)=true then _ else _) _
    rw[zo (by decide)]
    have eq:ky key p m=ky key p (m - 1):=O.total _ _ e e2
    refine desc h0 f p (m+1) (q+1) hp (by omega) (by omega) (h.snoc (by omega) e2) fun i a b=>?_
    show ky key p i=ky key p m
    by_cases ei:i=m
    ·rw [ei]
    ·rw [eq];exact he i (by omega) (by omega)
abbrev Done (key:Nat->O.α)(n:Nat)(r:Nat×Array Nat):Prop:=PO n r.2/\1<=r.1/\r.1<=n/\Up key r.1 r.2
theorem tail3 {p:Array Nat}{m:Nat}(hp:PO n p)(h1:1<=m)(h2:m<=n)(h:Dn key m p):Runs n (ltk O key) (kas_tail3 m n p) (Done key n):=by
 refine Runs.bind ((asc (hp.rev 0 m) (by omega) (n - m) m h1 (by omega) fun i j a b=>?_).mono fun r ⟨a,b,c,d⟩=>?_)
 ·rw [q8Q (by rw[hp.size];omega),q8Q (by rw[hp.size];omega),zt (by omega),zt (by omega)]
  exact h _ _ (by omega) (by omega)
 ·exact ⟨hp.rev 0 m,by show 1<=r;omega,by show r<=n;omega,c⟩
theorem q78 {p:Array Nat}{m:Nat}(hp:PO n p)(h1:1<=m)(h2:m+1<=n)(he:∀i,i<m->ky key p i=ky key p (m - 1))(hl:O.klt (ky key p m) (ky key p (m - 1))):Runs n (ltk O key) (kas_descPart m n p) (Done key n):=by
 have hd:Dn key m p:=fun i j a b=>by rw[he i (by omega),he j b];exact zbm _
 refine Runs.bind ((desc (by omega) (n - (m+1)) p (m+1) 0 hp (by omega) (by omega) (hd.snoc h1 (zcg hl)) fun i a b=>?_).mono fun r ⟨a,b,c,d,e⟩=>?_)
 ·have:i=m:=by omega
  subst this
  rfl
 ·split
  ·have hk:=q4P (key:=key) (p:=r.1) (i:=r.2.1 - (r.2.2+1)) (j:=r.2.1) (by rw[a.size];omega) e
   refine tail3 (a.rev _ _) (by omega) c fun i j x y=>?_
   rw[hk,hk]
   exact d i j x y
  ·exact tail3 a (by omega) c d
theorem count {p:Array Nat}(hp:PO n p)(h1:1<=n):Runs n (ltk O key) (kas_count n p) (Done key n):=by
 refine Runs.bind ((asc hp h1 (n - 1) 1 (zn _) (by omega) Up.one).mono fun m ⟨a,b,c,d⟩=>?_)
 by_cases e:m=n
 ·rw [zt (by simpa using e)]
  exact⟨hp,a,by show m<=n;omega,c⟩
 ·rw [zo (by simpa using e)]
  have hl:O.klt (ky key p m) (ky key p (m - 1)):=d.resolve_left (by omega)
  split
  ·refine ⟨hp.lt h1 _,hp.lt h1 _,?_⟩
   cases e2:ltk O key (p.getD 0 0) (p.getD (m - 1) 0) with
   |true=>show Runs _ _ (if (true:Bool)=true then _ else _) _;rw[zt rfl];exact⟨hp,a,by show m<=n;omega,c⟩
   |false=>
    show Runs _ _ (if (false:Bool)=true then _ else _) _
    rw[zo (by decide)]
    have eqs:∀i,i<m->ky key p i=ky key p (m - 1):=fun i hi=>
     KeyOrd.kle_antisymm (c i (m - 1) (by omega) (by omega)) (zbC (show O.kle (ky key p (m - 1)) (ky key p 0) from e2) (c 0 i (by omega) hi))
    have hk:=q4P (key:=key) (p:=p) (i:=0) (j:=m) (by rw[hp.size];omega) fun k _ hk=>eqs k hk
    exact q78 (hp.rev _ _) a (by omega) (fun i hi=>by rw[hk,hk];exact eqs i hi) (by rw[hk,hk];exact hl)
  ·have em:m=1:=by omega
   subst em
   exact q78 hp (by omega) (by omega) (fun i hi=>by rw[show i=0 by omega]) hl
theorem place {p:Array Nat}{k:Nat}(hp:PO n p)(h0:0<n)(hs:Up key k p):∀(f l r:Nat),r - l<=f->l<=r->r<=k->(∀i,i<l->O.kle (ky key p i) (ky key p k))->(∀i,r<=i->i<k->O.klt (ky key p k) (ky key p i))->
  Runs n (ltk O key) (kas_place p k f l r) (fun l=>l<=k/\(∀i,i<l->O.kle (ky key p i) (ky key p k))/\∀i,l<=i->i<k->O.klt (ky key p k) (ky key p i))
 |0,l,r,h1,h2,h3,ha,hb=>⟨by omega,ha,fun i x y=>hb i (by omega) y⟩
 |f+1,l,r,h1,h2,h3,ha,hb=>by
  unfold kas_place
  by_cases e:l≥r
  ·rw [zt e]
   exact⟨by omega,ha,fun i x y=>hb i (by omega) y⟩
  ·rw [zo e]
   refine⟨hp.lt h0 _,hp.lt h0 _,?_⟩
   cases e2:ltk O key (p.getD k 0) (p.getD ((l+r) / 2) 0) with
   |true=>
    show Runs _ _ (if (true:Bool)=true then _ else _) _
    rw[zt rfl]
    exact place hp h0 hs f l ((l+r) / 2) (by omega) (by omega) (by omega) ha fun i x y=>KeyOrd.klt_of_klt_of_kle (show O.klt (ky key p k) (ky key p ((l+r) / 2)) from e2) (hs _ _ x y)
   |false=>
    show Runs _ _ (if (false:Bool)=true then _ else _) _
    rw[zo (by decide)]
    exact place hp h0 hs f ((l+r) / 2+1) r (by omega) (by omega) h3 (fun i x=>zbC (hs i ((l+r) / 2) (by omega) (by omega)) e2) hb
theorem q8R {p:Array Nat}{src d:Nat}(hs:src<p.size)(hd:d<=src)(k:Nat):ky key (bubble p src d) k=if k=src - d then ky key p src else if src - d<k/\k<=src then ky key p (k - 1) else ky key p k:=by
 have e:=getElem?_bubble hs d hd k
 split
 ·rename_i h;rw[zt h] at e;exact q39 e
 ·rename_i h
  rw[zo h] at e
  split
  ·rename_i h2;rw[zt h2] at e;exact q39 e
  ·rename_i h2;rw[zo h2] at e;exact q39 e
theorem bin (h0:0<n):∀(f:Nat) (p:Array Nat) (k:Nat),PO n p->1<=k->k+f=n->Up key k p->Runs n (ltk O key) (kas_bin f p k) (fun p=>PO n p/\Up key n p)
 |0,p,k,hp,h1,h2,h=>by
  have:k=n:=by omega
  subst this
  exact⟨hp,h⟩
 |f+1,p,k,hp,h1,h2,h=>by
  refine Runs.bind ((place hp h0 h k 0 k (by omega) (by omega) (zn _) (fun i z=>absurd z (zcr _)) fun i x y=>absurd x (by omega)).mono fun l ⟨a,b,c⟩=>?_)
  have hk:=q8R (key:=key) (p:=p) (src:=k) (d:=k - l) (by rw[hp.size];omega) (by omega)
  refine bin h0 f _ (k+1) ((bubble_perm _ _ _).trans hp) (by omega) (by omega) fun i j x y=>?_
  rw[hk,hk]
  have e:k - (k - l)=l:=by omega
  rw[e]
  by_cases i1:i=l
  ·rw [zt i1]
   by_cases j1:j=l
   ·rw [zt j1];exact zbm _
   ·rw [zo j1,zt (by omega)]
    exact zcg (c (j - 1) (by omega) (by omega))
  ·rw [zo i1]
   by_cases i2:l<i/\i<=k
   ·rw [zt i2,zo (by omega),zt (by omega)]
    exact h _ _ (by omega) (by omega)
   ·rw [zo i2]
    by_cases j1:j=l
    ·rw [zt j1];exact b i (by omega)
    ·rw [zo j1]
     by_cases j2:l<j/\j<=k
     ·rw [zt j2]
      exact h _ _ (by omega) (by omega)
     ·rw [zo j2]
      exact h _ _ x (by omega)
theorem all (h1:1<=n):Runs n (ltk O key) (kas_sort n) (fun p=>PO n p/\Up key n p):=by
 refine Runs.bind ((count (Array.Perm.refl _) h1).mono fun r ⟨a,b,c,d⟩=>?_)
 split
 ·have e:max r.1 1=r.1:=by omega
  rw[e]
  exact bin h1 _ _ _ a b (by omega) d
 ·have e:r.1=n:=by omega
  rw[e] at d
  exact⟨a,d⟩
end Srt
namespace Srt
open PySem PySem.W PyProof.Rows
def LO:KeyOrd where
 α:=List Int
 blt a b:=decide (a<b)
 irrefl a:=zq (List.lt_irrefl a)
 trans a b c h1 h2:=zr (List.lt_trans (zaG h1) (zaG h2))
 negTrans a b c h:=by
  have h:=zaG h
  by_cases h1:a<b
  ·exact .inl (zr h1)
  ·by_cases h2:b<c
   ·exact .inr (zr h2)
   ·exact absurd h (zbZ.mpr (List.le_trans (zbZ.mp h2) (zbZ.mp h1)))
 total a b h1 h2:=List.le_antisymm (zbZ.mp (zaV h2)) (zbZ.mp (zaV h1))
section
variable {prog:Program}{w:World}{A:Around}{E:Value->Shared->Prop}{s:Shared}{Q:Bool->Shared->Prop}
theorem lex:∀{us vs:List Value} {ks js:List Int} {i:Nat},IntsAre us ks->IntsAre vs js->ks.length=js.length->Q (decide (ks<js)) s->KatLex prog w A true false Q (us.zip vs) i s
 |_,_,[],[],i,.nil,.nil,_,h=>by
  have e:decide (([]:List Int)<[])=false:=rfl
  rw[e] at h
  exact h
 |_,_,k::ks,j::js,i,.cons _ t hu,.cons _ t' hv,hl,h=>by
  refine kat_cons (wpAny_eqBool_int ?_)
  by_cases e:k=j
  ·subst e
   rw[show(k==k)=true by simp]
   refine kat_yes (lex hu hv (by simpa using hl) ?_)
   have e2:decide (k::ks<k::js)=decide (ks<js):=by simp[List.cons_lt_cons_iff]
   rw[e2] at h
   exact h
  ·rw [show(k==j)=false by simpa using e]
   have e2:decide (k::ks<j::js)=decide (k<j):=by simp[List.cons_lt_cons_iff,e]
   rw[e2] at h
   refine kat_no ?_
   by_cases hi:i=0
   ·subst hi
    exact oneLt_int h
   ·rw [show(true&&i==0)=false by simpa using hi]
    exact kat_one _ _ (lt_int h)
theorem q8P {κ:SortKind}{a:Addr}{vs:List Value}{n:Nat}{P:PySem.Fin->Shared->Prop}{lt:Nat->Nat->Bool}{G:Array Nat->Prop}(ho:s.heap.get? a=some (seqObj "list" vs.toArray n))(h64:vs.length<64)(hG:∀p,G p->p.size=vs.length)
  (hk:2<=vs.length->∀(h':Heap),(∀b o,b≠a->s.heap.get? b=some o->h'.get? b=some o)->∀(R:SortKind->Shared->Prop),R κ {s with heap:=h'}->wpAny (model prog w) A (keyKind' vs.toArray) R (fun _ _=>False) {s with heap:=h'})
  (ha:2<=vs.length->∀(h':Heap),(∀b o,b≠a->s.heap.get? b=some o->h'.get? b=some o)->∀i j C,i<vs.length->j<vs.length->C (lt i j) {s with heap:=h'}->kas_ask prog w A κ vs i j C {s with heap:=h'})
  (hr:2<=vs.length->Runs vs.length lt (kas_sort vs.length) G)
  (h:∀out:Array Value,(vs.length<2/\out=vs.toArray\/∃p,G p/\out=(p.toList.map fun i=>vs.getD i Value.none).toArray)->P (.done (.ret .none)) {s with heap:=sortedHeap s.heap a vs out}):
  wpAny (model prog w) A (Builtin.«list.sort» ⟨[.ref a],[]⟩) P E s:=by
 have hlt:a<s.heap.objs.size:=zv ho
 obtain⟨e1,ho1⟩:∃e1,(s.heap.update a (Obj.mapSeq fun _=>(#[]:Array Value))).get? a=some (seqObj "list" #[] e1):=⟨_,get?_update_seq ho fun _=> #[]⟩
 have kp:∀b o,b≠a->s.heap.get? b=some o->(((s.heap.update a (Obj.mapSeq fun _=>(#[]:Array Value))).push (seqObj "tuple" vs.toArray 0)).push (seqObj "list" #[] 0)).get? b=some o:=fun b o hb e=>
  zm _ (zm _ (((za9 s.heap a (Obj.mapSeq fun _=>(#[]:Array Value))).2 b hb).trans e))
 have ho6:(((s.heap.update a (Obj.mapSeq fun _=>(#[]:Array Value))).push (seqObj "tuple" vs.toArray 0)).push (seqObj "list" #[] 0)).get? a=some (seqObj "list" #[] e1):=zm _ (zm _ ho1)
 rw[list_sort_plain]
 refine yD (listItems_at ho rfl (yD (listUpdate_at ho rfl (yD (seqEpoch_at ho1 rfl (yD (wpAny_newTuple (yD (wpAny_newList (zah ?_) (zaC _))) (by show vs.length<=_;rw[sizeLine_eq];omega))))) (by rw[zy,sizeLine_eq];omega) (zaC _))))
 show wpAny (model prog w) A _ P E {s with heap:=((s.heap.update a (Obj.mapSeq fun _=>(#[]:Array Value))).push (seqObj "tuple" vs.toArray 0)).push (seqObj "list" #[] 0)}
 dsimp only
 by_cases h2:vs.length<2
 ·have h2':vs.toArray.size<2:=by rw[zy];exact h2
  rw[zt h2',zt h2']
  refine yD (zl ?_)
  rw[StateT.run_pure]
  refine yD (zl ?_)
  dsimp only
  have eo:Array.map (fun x:Value×Value=>x.2) (arrOf (SortSt.mk' general' (vs.toArray.zip vs.toArray) #[] 7 none))=vs.toArray:=by
   show Array.map (fun x:Value×Value=>x.2) (vs.toArray.zip vs.toArray)=vs.toArray
   apply Array.toList_inj.mp
   rw[Array.toList_map,Array.toList_zip]
   exact List.map_snd_zip (zn _)
  rw[eo]
  refine yD (seqEpoch_at ho6 rfl (yD (listUpdate_at ho6 rfl ?_ (zaC _) (by rw[zy,sizeLine_eq];omega))))
  simp only[bne_self_eq_false,Bool.false_eq_true,if_false]
  exact zl (h _ (.inl ⟨h2,rfl⟩))
 ·have h2':¬vs.toArray.size<2:=by rw[zy];exact h2
  rw[zo h2',zo h2']
  obtain⟨s6,es6⟩:∃s6:Shared,s6={s with heap:=((s.heap.update a (Obj.mapSeq fun _=>(#[]:Array Value))).push (seqObj "tuple" vs.toArray 0)).push (seqObj "list" #[] 0)}:=⟨_,rfl⟩
  have ho7:s6.heap.get? a=some (seqObj "list" #[] e1):=by rw[es6];exact ho6
  have hk':=hk (by omega) _ kp (fun κ' s0=>κ'=κ/\s0=s6) ⟨rfl,es6.symm⟩
  have ha':=ha (by omega) _ kp
  rw[<-es6] at hk' ha' ⊢
  refine yD (zO hk' (fun κ' s0 hκ=>?_) fun _ _ x=>x.elim)
  obtain⟨rfl,rfl⟩:=hκ
  refine yD (zO (kat_run (Q:=fun st' s'=>s'=s0/\∃p:Array Nat,arrOf st'=p.map (kas_item (vs.toArray.zip vs.toArray))/\failedOf st'=none/\G p) (G:=fun p s'=>s'=s0/\G p)
   rfl (by omega) h64 (fun p' st' s' a1 a2 a3 a4=>⟨a4.1,p',a2,a3,a4.2⟩) (Runs.wp ha' (fun p hp=>⟨rfl,hp⟩) (hr (by omega)))) ?_ fun _ _ e=>e)
  rintro⟨⟨⟩,st'⟩ s' ⟨rfl,p,har,hf,hp⟩
  dsimp only
  have hsz:(List.toArray (p.toList.map fun i=>vs.getD i Value.none)).size=vs.length:=by rw[zy,yC,zai,hG p hp]
  rw[kat_snds rfl har]
  refine yD (seqEpoch_at ho7 rfl (yD (listUpdate_at ho7 rfl ?_ (zaC _) (zab (zcl hsz) (by rw[sizeLine_eq];omega)))))
  rw[hf]
  simp only[bne_self_eq_false,Bool.false_eq_true,if_false]
  have hh:=h _ (.inr ⟨p,hp,rfl⟩)
  rw[es6]
  exact zl hh
theorem q7o {κ:SortKind}{l:Addr}{vs:List Value}{Q:Value->Shared->Prop}{lt:Nat->Nat->Bool}{G:Array Nat->Prop}(hl:s.heap.IsList l vs.toArray)(h64:vs.length<64)(hG:∀p,G p->p.size=vs.length)
  (hk:2<=vs.length->∀(A:Around) (h':Heap),(∀b o,s.heap.get? b=some o->h'.get? b=some o)->∀(R:SortKind->Shared->Prop),R κ {s with heap:=h'}->wpAny (model prog w) A (keyKind' vs.toArray) R (fun _ _=>False) {s with heap:=h'})
  (ha:2<=vs.length->∀(A:Around) (h':Heap),(∀b o,s.heap.get? b=some o->h'.get? b=some o)->∀i j C,i<vs.length->j<vs.length->C (lt i j) {s with heap:=h'}->kas_ask prog w A κ vs i j C {s with heap:=h'})
  (hr:2<=vs.length->Runs vs.length lt (kas_sort vs.length) G)
  (h:∀out:Array Value,(vs.length<2/\out=vs.toArray\/∃p,G p/\out=(p.toList.map fun i=>vs.getD i Value.none).toArray)->Q (.ref (s.heap.objs.size+1)) {s with heap:=sortedAll s.heap vs out}):
  wpAny (model prog w) A (call (.builtin "sorted") [.ref l]) Q E s:=by
 refine zcj kind_sorted plain_sorted entry_sorted (args_sorted1 _) ?_
 unfold Builtin.«sorted»
 refine yD (m:=checkCount "sorted" 1 1 _) (zl (yD (collect_list hl (yD (wpAny_newList ?_ (by rw[sizeLine_eq];omega))) (by rw[sizeLine_eq];omega))))
 have hsz:((s.heap.push (seqObj "list" #[] 0)).update s.heap.objs.size (Obj.mapSeq (· ++vs.toArray))).objs.size=s.heap.objs.size+1:=by
  rw[Heap.size_update,size_push']
 have hoL:(((s.heap.push (seqObj "list" #[] 0)).update s.heap.objs.size (Obj.mapSeq (· ++vs.toArray))).push (seqObj "list" vs.toArray 0)).get? (s.heap.objs.size+1)=some (seqObj "list" vs.toArray 0):=by
  rw[<-hsz];exact zB _ rfl
 have kp:∀b o,s.heap.get? b=some o->(((s.heap.push (seqObj "list" #[] 0)).update s.heap.objs.size (Obj.mapSeq (· ++vs.toArray))).push (seqObj "list" vs.toArray 0)).get? b=some o:=fun b o q=>by
  have hlt:b<s.heap.objs.size:=zv q
  rw[Heap.get?_push_ne _ _ _ (by rw[hsz];exact zF (zbc hlt)),Heap.get?_update_ne _ _ _ _ (zF hlt),Heap.get?_push_ne _ _ _ (zF hlt)]
  exact q
 have kq:∀b o,s.heap.get? b=some o->b≠s.heap.objs.size+1:=fun b o q=>zF (zbc (zv q))
 show wpAny _ _ _ _ _ {s with heap:=((s.heap.push (seqObj "list" #[] 0)).update s.heap.objs.size (Obj.mapSeq (· ++vs.toArray))).push (seqObj "list" vs.toArray 0)}
 rw[hsz]
 refine yD (zah (zaA slot_list_sort ⟨_,hoL,rfl⟩ entry_list_sort (q8P (s:={s with heap:=_}) hoL h64 hG (fun h2 h' k=>hk h2 _ h' fun b o q=>k b o (kq b o q) (kp b o q)) (fun h2 h' k=>ha h2 _ h' fun b o q=>k b o (kq b o q) (kp b o q)) hr fun out ho=>⟨_,rfl,?_⟩) (args_list_sort _)))
 exact zl ⟨_,rfl,h out ho⟩
end
end Srt
namespace L2
open PySem PySem.Spec PyProof.Rows PySem.W
theorem pw_two {α:Type}{R:α->α->Prop}:∀{l:List α},l.length<2->l.Pairwise R
 |[],_=> .nil
 |[_],_=>List.pairwise_singleton _ _
 |_::_::_,h=>absurd h (by simp)
theorem q8A {α:Type}(l:List α)(d:α):(List.range l.length).map (fun i=>l.getD i d)=l:=by
 apply List.ext_getElem
 ·simp
 ·intro i h1 h2
  simp[List.getD_eq_getElem?_getD,h2]
def qb9 (K:W.Frag):List V->Hp->VK->Prop:=fun xs H Q=>∃(p:Addr) (l:List (Addr×List Int)) (m:Nat),xs=[.ref p]/\SqL K H p (l.map fun x=>V.ref x.1)/\l.length<64/\1<=m/\(∀x∈l,H x.1=some (.tup (x.2.map V.int))/\x.2.length=m)/\
 ∀(q:Addr) (l':List (Addr×List Int)),H q=none->l'.Perm l->l'.Pairwise (fun a b=>¬b.2<a.2)->Q (.ref q) (upd H q (.lst (l'.map fun x=>V.ref x.1)))
theorem q4B {X:Cx}{pins:List (Addr×Obj)}{σ:St}{H:Hp}{s:Shared}{b:Addr}{ks:List Int}(I:Inv X pins σ H s)(e:H b=some (.tup (ks.map V.int))):∃(o:Obj) (us:List Value) (n:Nat),s.heap.get? b=some o/\o.cls= .type "tuple"/\o.data= .seq us.toArray n/\IntsAre us ks:=by
 obtain⟨_,its,r,o,h1,h2,n,h3⟩:=(show q06 X.prog X.w H s.heap b (.tup (ks.map V.int)) from I.hok b _ e)
 exact⟨o,its,n,h1,h2,h3,q2z r⟩
theorem q4Q {us:List Value}{ks:List Int}(h:IntsAre us ks):us.length=ks.length:=by
 induction h with
 |nil=>rfl
 |cons _ _ _ ih=>simp[ih]
section
variable {X:Cx}
theorem sortTK (K:W.Frag)(hK:X.K=K:=by rfl):q1g X (.builtin "sorted") (qb9 K):=by
 subst hK
 intro pins s σ H xs us Q I r h
 obtain⟨p,l,m,rfl,hq,h64,hm,hl,q⟩:=h
 obtain⟨u,rfl,rx⟩:=q2U r
 cases rx
 obtain⟨its,rv,pl,hz⟩:=I.list hq
 have ei:its=(l.map (·.1)).map Value.ref:=q2T (by rw[za6];exact rv)
 have hn:its.length=l.length:=by rw[ei];simp
 have big:=qF
 have gd:∀i (hi:i<l.length),its.getD i Value.none= .ref l[i].1:=fun i hi=>by rw[ei];simp[List.getD_eq_getElem?_getD,hi]
 refine Srt.q7o (κ:=tuples' true) (lt:=Srt.ltk Srt.LO fun i=>(l.map (·.2)).getD i []) (G:=fun p=>Srt.PO its.length p/\Srt.Up (O:=Srt.LO) (fun i=>(l.map (·.2)).getD i []) its.length p) pl.isList (by omega) (fun p hp=>hp.1.size) ?_ ?_ (fun h2=>Srt.all (by omega)) ?_
 ·intro h2 A h' kp R hR
  have I':Inv X pins σ H {s with heap:=h'}:=I.kept (t':=s.toks) kp
  obtain⟨fs,kt,hf⟩:∃fs:List Value,KatTups h' its fs/\fs.length=its.length/\∀v∈fs,∃n t,v=Value.int n t:=by
   rw[ei]
   clear ei hn gd rv h2 q h64 hq hz pl
   induction l with
   |nil=>exact⟨[],trivial,rfl,fun v hv=>nomatch hv⟩
   |cons x l ih=>
    obtain⟨fs,a1,a2,a3⟩:=ih fun y hy=>hl y (zE _ hy)
    obtain⟨e1,e2⟩:=hl x (.head _)
    obtain⟨o,us,n,g1,g2,g3,g4⟩:=q4B I' e1
    have hlen:=q4Q g4
    match us,x.2,g4,hlen,e2 with
    |_,_,.cons k t hr,_,_=>
     refine⟨.int k t::fs,KatTups.cons g1 g2 g3 (by simp) a1,by simpa using a2,fun v hv=>?_⟩
     rcases zG.mp hv with rfl|hv
     ·exact ⟨_,_,rfl⟩
     ·exact a3 v hv
    |_,_,.nil,_,e2=>simp at e2;omega
  refine kat_kind (s:={s with heap:=h'}) kt (by omega) (T:= .type "int") (fun v hv=>?_) (by decide) (by rw[show(Value.type "int" != Value.type "tuple")=true by decide];exact hR)
  obtain⟨n,t,rfl⟩:=hf.2 v hv
  exact .now
 ·intro h2 A h' kp i j C hi hj hC
  have I':Inv X pins σ H {s with heap:=h'}:=I.kept (t':=s.toks) kp
  unfold kas_ask
  rw[gd i (by omega),gd j (by omega)]
  obtain⟨a1,a2⟩:=hl l[i] (zL _)
  obtain⟨b1,b2⟩:=hl l[j] (zL _)
  obtain⟨o,us,n,g1,g2,g3,g4⟩:=q4B I' a1
  obtain⟨o',us',n',g1',g2',g3',g4'⟩:=q4B I' b1
  have l1:=q4Q g4
  have l2:=q4Q g4'
  refine kat_lt (s:={s with heap:=h'}) g1 g3 g1' g3' ?_
  rw[show decide (us.toArray.size<us'.toArray.size)=false by simp;omega]
  refine Srt.lex (s:={s with heap:=h'}) g4 g4' (by omega) ?_
  have e1:(l.map (·.2)).getD i []=l[i].2:=by simp[List.getD_eq_getElem?_getD,show i<l.length by omega]
  have e2:(l.map (·.2)).getD j []=l[j].2:=by simp[List.getD_eq_getElem?_getD,show j<l.length by omega]
  have hC':C (decide ((l.map (·.2)).getD i []<(l.map (·.2)).getD j [])) {s with heap:=h'}:=hC
  rw[e1,e2] at hC'
  exact hC'
 ·intro out ho
  obtain⟨l',hp,ho',hs⟩:∃l':List (Addr×List Int),l'.Perm l/\out.toList=l'.map (fun x=>Value.ref x.1)/\l'.Pairwise (fun a b=>¬b.2<a.2):=by
   rcases ho with⟨h2,rfl⟩|⟨pp,⟨po,up⟩,rfl⟩
   ·refine ⟨l,List.Perm.refl _,by rw[ei];simp,?_⟩
    exact pw_two (by omega)
   ·have po':pp.toList.Perm (List.range l.length):=by rw[<-hn];simpa using po.toList
    refine⟨pp.toList.map fun i=>l.getD i (0,[]),by have:=po'.map fun i=>l.getD i (0,[]);rwa [q8A] at this,?_,?_⟩
    ·rw [za6]
     refine zax fun i hi=>?_
     have:i<l.length:=by simpa using po'.mem_iff.mp hi
     rw[gd i this]
     simp[List.getD_eq_getElem?_getD,this]
    ·rw [zch]
     refine List.pairwise_iff_getElem.mpr fun i j hi hj hij=>?_
     have hs:pp.size=its.length:=po.size
     have hi':i<pp.size:=by simpa using hi
     have hj':j<pp.size:=by simpa using hj
     have this:Srt.LO.blt _ _=false:=up i j (by omega) (by omega)
     have g:∀k (hk:k<pp.size),Srt.ky (O:=Srt.LO) (fun i=>(l.map (·.2)).getD i []) pp k=(l.getD (pp.toList[k]'(by simpa using hk)) (0,[])).2:=fun k hk=>by
      unfold Srt.ky
      simp only[Array.getD,hk,dif_pos,Array.getElem_toList]
      have hb:pp[k]<l.length:=by
       have:pp[k]∈pp.toList:=by simp
       simpa using po'.mem_iff.mp this
      show(l.map (·.2)).getD pp[k] []=_
      simp only[List.getD_eq_getElem?_getD,List.getElem?_map,yB hb,Option.map_some,Option.getD_some]
     rw[g i hi',g j hj'] at this
     exact zaV this
  obtain⟨e,he⟩:=sortedAll_at s.heap its out
  refine⟨.ref (s.heap.objs.size+1),upd H (s.heap.objs.size+1) (.lst (l'.map fun x=>V.ref x.1)),I.laid (t':=s.toks) (fun _ _=>sortedAll_old) (zaS _) ⟨?_,out.toList,e,?_,?_⟩,rfl,q _ _ (I.hok.fresh (zaS _)) hp hs⟩
  ·have:=hp.length_eq
   rw[yC]
   omega
  ·rw [ho']
   clear ho' hs hp
   induction l' with
   |nil=>exact .nil
   |cons x l' ih=>exact .cons rfl ih
  ·simpa [seqObj] using he
end
end L2
namespace Mine
open PySem L2
local macro_rules| `(tactic| walk_at "s")=> `(tactic| exact⟨rfl,rfl,rfl,by walk_at "k",rfl,by walk_at "k",by walk_at "k"⟩)
theorem bl0 {P:List Value->Prop}(h:P []):∀us:List Value,us.length=0->P us:=fun us e=>by cases us with|nil=>exact h|cons=>cases e
theorem blS {n:Nat}{P:List Value->Prop}(h:∀a (us:List Value),us.length=n->P (a::us)):∀us:List Value,us.length=n+1->P us:=fun us e=>by cases us with|nil=>cases e|cons a us=>exact h a us (Nat.succ.inj e)
def top (i:Nat):Stmt:=PySem.Challenge.pw_delve_k33_stuck_shown.main.body.getD i (.Pass ⟨0,0,0,0⟩)
abbrev q8g:Stmt:=top 0
abbrev q3E:Stmt:=top 9
abbrev q2Y:Stmt:=top 10
abbrev q31:Stmt:=top 11
abbrev q2Z:Stmt:=top 20
abbrev q4N:Stmt:=top 43
abbrev q6S:Stmt:=top 44
abbrev q2u:Stmt:=top 45
abbrev q0Y:Stmt:=top 46
abbrev q1s:Stmt:=top 47
abbrev q1l:Stmt:=top 48
abbrev q0U:Stmt:=top 49
abbrev q1L:Stmt:=top 57
abbrev q30:Stmt:=top 58
abbrev q3G:Stmt:=top 59
abbrev q3P:Stmt:=top 60
abbrev q1k:Stmt:=top 61
abbrev q1F:Stmt:=top 62
abbrev q0n:Stmt:=top 63
abbrev q0H:Stmt:=top 65
abbrev q3F:Stmt:=top 66
abbrev q0G:Stmt:=top 67
abbrev q0P:Stmt:=top 69
abbrev q0O:Stmt:=top 70
abbrev q1O:Stmt:=top 71
abbrev q0V:Stmt:=top 72
abbrev q0M:Stmt:=top 73
abbrev q1a:Stmt:=top 74
abbrev q1N:Stmt:=top 75
abbrev q0Q:Stmt:=top 76
abbrev q1M:Stmt:=top 77
abbrev q0Z:Stmt:=top 78
abbrev q2v:Stmt:=top 79
abbrev q0o:Stmt:=top 80
abbrev q1h:Stmt:=top 81
abbrev q1P:Stmt:=top 82
abbrev q1t:Stmt:=top 83
abbrev q9U:Stmt:=top 84
abbrev q1e:Stmt:=qN (top 4) 0
abbrev q29:Stmt:=qN (top 13) 0
abbrev qZ:Stmt:=qN (top 13) 1
abbrev q1v:Stmt:=qN (top 14) 0
abbrev q1u:Stmt:=qN (top 14) 1
abbrev q2b:Stmt:=qN (top 15) 0
abbrev q2a:Stmt:=qN (top 15) 1
abbrev q28:Stmt:=qN (top 16) 0
abbrev q27:Stmt:=qN (top 16) 1
abbrev q2x:Stmt:=qN (top 17) 0
abbrev q2w:Stmt:=qN (top 17) 1
abbrev q1R:Stmt:=qN (top 18) 0
abbrev q1Q:Stmt:=qN (top 18) 1
abbrev q1x:Stmt:=qN (top 19) 0
abbrev q1w:Stmt:=qN (top 19) 1
abbrev q2c:Stmt:=qN (top 51) 0
abbrev q09:Stmt:=qN (top 51) 1
abbrev q00:Stmt:=qN (top 51) 2
abbrev qJ:Stmt:=qN (top 51) 4
abbrev q32:Stmt:=qN (top 52) 0
abbrev q33:Stmt:=qN (top 52) 1
abbrev q34:Stmt:=qN (top 52) 2
abbrev q1Y:Stmt:=qN (top 53) 0
abbrev q1Z:Stmt:=qN (top 53) 1
abbrev q26:Stmt:=qN (top 53) 2
abbrev q1V:Stmt:=qN (top 54) 0
abbrev q1W:Stmt:=qN (top 54) 1
abbrev q1X:Stmt:=qN (top 54) 2
abbrev q1S:Stmt:=qN (top 55) 0
abbrev q1T:Stmt:=qN (top 55) 1
abbrev q1U:Stmt:=qN (top 55) 2
abbrev q1b:Stmt:=qN (top 56) 0
abbrev q1c:Stmt:=qN (top 56) 1
abbrev q1d:Stmt:=qN (top 56) 2
theorem q8f:FnScope ["number","least","most"] ["number","least","most"] (qh q3E):=by walk_at "s"
theorem q7q:FnScope ["bits","place"] ["bits","place"] (qh q2Y):=by walk_at "s"
theorem q7r:FnScope ["parts","place","part"] ["parts","place","part"] (qh q31):=by walk_at "s"
theorem q4m:FnScope ["gate","word"] ["gate"] (qh q2Z):=by walk_at "s"
theorem q9S:FnScope ["cellar"] ["cellar"] (qh q4N):=by walk_at "s"
theorem q3j:FnScope ["cellar","stand","counts","number","thing","kind"] ["cellar","stand"] (qh q6S):=by walk_at "s"
theorem q6i:FnScope ["cellar","thing"] ["cellar","thing"] (qh q2u):=by walk_at "s"
theorem q4c:FnScope ["bits","all_bits"] ["bits","all_bits"] (qh q0Y):=by walk_at "s"
theorem q4H:FnScope ["cellar"] ["cellar"] (qh q1s):=by walk_at "s"
theorem q5r:FnScope ["cellar"] ["cellar"] (qh q1l):=by walk_at "s"
theorem q4I:FnScope ["cellar"] ["cellar"] (qh q0U):=by walk_at "s"
theorem q5s:FnScope ["way","room"] ["way","room"] (qh q1L):=by walk_at "s"
theorem q4n:FnScope ["deed","word"] ["deed"] (qh q30):=by walk_at "s"
theorem q5t:FnScope ["cellar","stand","deed","thing"] ["cellar","stand","deed"] (qh q3G):=by walk_at "s"
theorem q9T:FnScope ["cellar","stand"] ["cellar","stand"] (qh q3P):=by walk_at "s"
theorem q5q:FnScope ["cellar","stand"] ["cellar","stand"] (qh q1k):=by walk_at "s"
theorem q6j:FnScope ["cellar"] ["cellar"] (qh q1F):=by walk_at "s"
theorem q0T:FnScope ["cellar","pulls","takes","turns","unlocks"] ["cellar"] (qh q0n):=by walk_at "s"
theorem q1A:FnScope ["cellar","way","stands","known","stand"] ["cellar","way","stands"] (qh q0H):=by walk_at "s"
theorem q2X:FnScope ["cellar","way","here","deed"] ["cellar","way"] (qh q3F):=by walk_at "s"
theorem q4b:FnScope ["cellar","known","stand"] ["cellar","known","stand"] (qh q0G):=by walk_at "s"
theorem q3O:FnScope ["_law_script","_law_k"] ["_law_script","_law_k"] (qh q0P):=by walk_at "s"
theorem q0e:FnScope ["_law_script","_law_first","_law_total","_law_found","_law_number","_law_k","_law_cell"] ["_law_script","_law_first","_law_total"] (qh q0O):=by walk_at "s"
theorem q2n:FnScope ["_law_number","_law_base","_law_kind","_law_way"] ["_law_number","_law_base"] (qh q1O):=by walk_at "s"
theorem q1K:FnScope ["_law_numbers_here","_law_ways","_law_things"] ["_law_numbers_here"] (qh q0V):=by walk_at "s"
theorem qL:FnScope ["_law_script","_law_first","_law_numbers_here","_law_rooms","_law_base","_law_ways","_law_k","_law_number","_law_a","_law_b","_law_things","_law_levers","_law_wheels","_law_lists"] ["_law_script"] (qh q0M):=by walk_at "s"
theorem q0j:FnScope ["_law_cave_here","_law_stand","_law_kind","_law_total","_law_k"] ["_law_cave_here","_law_stand","_law_kind"] (qh q1a):=by walk_at "s"
theorem q3t:FnScope ["_law_cave_here","_law_stand","_law_k","_law_gate_here"] ["_law_cave_here","_law_stand","_law_k"] (qh q1N):=by walk_at "s"
theorem qG:FnScope ["_law_cave_here","_law_stand","_law_room","_law_taken","_law_unlocked","_law_bits","_law_high","_law_gone","_law_turned","_law_k","_law_a","_law_b","_law_gate_here","_law_back"] ["_law_cave_here","_law_stand"] (qh q0Q):=by walk_at "s"
theorem qX:FnScope ["_law_cave_here","_law_stand","_law_room","_law_taken","_law_unlocked","_law_bits","_law_high","_law_gone","_law_turned","_law_k"] ["_law_cave_here","_law_stand"] (qh q1M):=by walk_at "s"
theorem q0x:FnScope ["_law_cave_here","_law_stand","_law_most","_law_known","_law_waiting","_law_deed","_law_other"] ["_law_cave_here","_law_stand","_law_most"] (qh q0Z):=by walk_at "s"
theorem q0C:FnScope ["_law_cave_here","_law_numbers_here","_law_stand","_law_row_here","_law_number","_law_moves","_law_deed"] ["_law_cave_here","_law_numbers_here"] (qh q2v):=by walk_at "s"
theorem q0B:FnScope ["_law_cave_here","_law_stand","_law_doors","_law_k"] ["_law_cave_here","_law_stand"] (qh q0o):=by walk_at "s"
theorem q0D:FnScope ["_law_cave_here","_law_row_here","_law_stands","_law_stand","_law_now","_law_deed","_law_ahead"] ["_law_cave_here","_law_row_here","_law_stands"] (qh q1h):=by walk_at "s"
theorem q02:FnScope ["_law_cave_here","_law_row_here","_law_stands","_law_cell","_law_way","_law_at","_law_spot","_law_other","_law_bad","_law_fresh"] ["_law_cave_here","_law_row_here","_law_stands","_law_cell"] (qh q1P):=by walk_at "s"
theorem q0X:FnScope ["_law_cave_here","_law_row_here","_law_stands","_law_one","_law_other","_law_found"] ["_law_cave_here","_law_row_here","_law_stands"] (qh q1t):=by walk_at "s"
theorem q2h:FnScope ["_law_script","_law_cave_here","_law_row_here","_law_stand","_law_stands","_law_cell","_law_bit"] ["_law_script"] (qh q9U):=by walk_at "s"
theorem q4f:FnScope ["self","stand","deed"] ["self","stand","deed"] (qh q1e):=by walk_at "s"
theorem q5G:FnScope ["self","word","numbers"] ["self","word","numbers"] (qh q29):=by walk_at "s"
theorem q4K:FnScope ["self"] ["self"] (qh q1v):=by walk_at "s"
theorem q4J:FnScope ["self","held","opened","bars","water"] ["self","held","opened","bars","water"] (qh q1u):=by walk_at "s"
theorem q5I:FnScope ["self","kind"] ["self","kind"] (qh q2b):=by walk_at "s"
theorem q5H:FnScope ["self","held","opened","bars","water"] ["self","held","opened","bars","water"] (qh q2a):=by walk_at "s"
theorem q5F:FnScope ["self","kind"] ["self","kind"] (qh q28):=by walk_at "s"
theorem q5E:FnScope ["self","held","opened","bars","water"] ["self","held","opened","bars","water"] (qh q27):=by walk_at "s"
theorem q6m:FnScope ["self","bar"] ["self","bar"] (qh q2x):=by walk_at "s"
theorem q6l:FnScope ["self","held","opened","bars","water"] ["self","held","opened","bars","water"] (qh q2w):=by walk_at "s"
theorem q5v:FnScope ["self","height","kind"] ["self","height","kind"] (qh q1R):=by walk_at "s"
theorem q5u:FnScope ["self","held","opened","bars","water"] ["self","held","opened","bars","water"] (qh q1Q):=by walk_at "s"
theorem q4M:FnScope ["self","height"] ["self","height"] (qh q1x):=by walk_at "s"
theorem q4L:FnScope ["self","held","opened","bars","water"] ["self","held","opened","bars","water"] (qh q1w):=by walk_at "s"
theorem q5K:FnScope ["self","word","number","part"] ["self","word","number","part"] (qh q2c):=by walk_at "s"
theorem q6k:FnScope ["self","cellar","stand"] ["self","cellar","stand"] (qh q09):=by walk_at "s"
theorem q5J:FnScope ["self"] ["self"] (qh q00):=by walk_at "s"
theorem q3B:FnScope ["self","cellar"] ["self","cellar"] (qh qJ):=by walk_at "s"
theorem q7s:FnScope ["self","number"] ["self","number"] (qh q32):=by walk_at "s"
theorem q3k:FnScope ["self","cellar","stand","way","opened"] ["self","cellar","stand"] (qh q33):=by walk_at "s"
theorem q3l:FnScope ["self","cellar","stand","way","other_end"] ["self","cellar","stand"] (qh q34):=by walk_at "s"
theorem q5B:FnScope ["self","number"] ["self","number"] (qh q1Y):=by walk_at "s"
theorem q5C:FnScope ["self","cellar","stand"] ["self","cellar","stand"] (qh q1Z):=by walk_at "s"
theorem q5D:FnScope ["self","cellar","stand"] ["self","cellar","stand"] (qh q26):=by walk_at "s"
theorem q5y:FnScope ["self","number"] ["self","number"] (qh q1V):=by walk_at "s"
theorem q5z:FnScope ["self","cellar","stand"] ["self","cellar","stand"] (qh q1W):=by walk_at "s"
theorem q5A:FnScope ["self","cellar","stand"] ["self","cellar","stand"] (qh q1X):=by walk_at "s"
theorem q5w:FnScope ["self","number"] ["self","number"] (qh q1S):=by walk_at "s"
theorem q3u:FnScope ["self","cellar","stand","wheel"] ["self","cellar","stand"] (qh q1T):=by walk_at "s"
theorem q5x:FnScope ["self","cellar","stand"] ["self","cellar","stand"] (qh q1U):=by walk_at "s"
theorem q4d:FnScope ["self","number"] ["self","number"] (qh q1b):=by walk_at "s"
theorem q1B:FnScope ["self","cellar","stand","way","gate"] ["self","cellar","stand"] (qh q1c):=by walk_at "s"
theorem q4e:FnScope ["self","cellar","stand"] ["self","cellar","stand"] (qh q1d):=by walk_at "s"
structure Cs where
 Gate:Addr
 Plain:Addr
 Door:Addr
 Need:Addr
 Bar:Addr
 Wade:Addr
 Float:Addr
 Deed:Addr
 Go:Addr
 Pull:Addr
 Take:Addr
 Turn:Addr
 Unlock:Addr
structure TxtR (a:Str->Value->Prop)(n:Str->Prop)(cs:Cs):Prop where
 wbx:n "all"
 waU:n "bool"
 vh:n "enumerate"
 waO:n "int"
 va:n "isinstance"
 ww:n "len"
 vM:n "list"
 wbX:n "max"
 waN:n "min"
 wB:n "range"
 vY:n "reversed"
 waZ:n "sorted"
 wbY:n "sum"
 vx:n "tuple"
 vp:∃t,a "ALL_BARS" (.int 255 t)
 wQ:∃t,a "BARS" (.int 3 t)
 vN:∃t,a "FIRST" (.int 1 t)
 w6:∃t,a "FIRST_BARS" (.int 7 t)
 wX:∃t,a "FIRST_WATER" (.int 8 t)
 vz:∃t,a "LAST" (.int 2 t)
 vj:∃t,a "LAST_KIND" (.int 11 t)
 wY:∃t,a "LEVERS" (.int 5 t)
 wm:∃t,a "OPENED" (.int 2 t)
 wn:∃t,a "PAIR_NUMBER" (.int 1 t)
 wz:∃t,a "PAIR_ROOM" (.int 0 t)
 vP:∃t,a "PARTS" (.int 5 t)
 we:∃t,a "ROOM" (.int 0 t)
 vO:∃t,a "ROOMS" (.int 0 t)
 wD:∃t,a "TAKEN" (.int 1 t)
 wC:∃t,a "THINGS" (.int 4 t)
 vb:∃t,a "TOP_HEIGHT" (.int 9 t)
 wI:∃t,a "WATER" (.int 4 t)
 wG:∃t,a "WAYS" (.int 3 t)
 w4:∃t,a "WAY_A" (.int 0 t)
 ve:∃t,a "WAY_B" (.int 1 t)
 vw:∃t,a "WAY_BACK" (.int 3 t)
 wK:∃t,a "WAY_GATE" (.int 2 t)
 wZ:∃t,a "WHEELS" (.int 6 t)
 c_Gate:a "Gate" (.ref cs.Gate)
 c_Plain:a "Plain" (.ref cs.Plain)
 c_Door:a "Door" (.ref cs.Door)
 c_Need:a "Need" (.ref cs.Need)
 c_Bar:a "Bar" (.ref cs.Bar)
 c_Wade:a "Wade" (.ref cs.Wade)
 c_Float:a "Float" (.ref cs.Float)
 c_Deed:a "Deed" (.ref cs.Deed)
 c_Go:a "Go" (.ref cs.Go)
 c_Pull:a "Pull" (.ref cs.Pull)
 c_Take:a "Take" (.ref cs.Take)
 c_Turn:a "Turn" (.ref cs.Turn)
 c_Unlock:a "Unlock" (.ref cs.Unlock)
abbrev Txt (mg:Str->Option Value)(cs:Cs):Prop:=TxtR (fun x v=>mg x=some v) (fun x=>mg x=none) cs
theorem TxtR.up {a a':Str->Value->Prop}{n n':Str->Prop}{cs:Cs}(h1:∀x v,a x v->a' x v)(h2:∀x,n x->n' x)(t:TxtR a n cs):TxtR a' n' cs:=⟨h2 _ t.wbx,h2 _ t.waU,h2 _ t.vh,h2 _ t.waO,h2 _ t.va,h2 _ t.ww,h2 _ t.vM,h2 _ t.wbX,h2 _ t.waN,h2 _ t.wB,h2 _ t.vY,h2 _ t.waZ,h2 _ t.wbY,h2 _ t.vx,t.vp.imp fun _=>h1 _ _,t.wQ.imp fun _=>h1 _ _,t.vN.imp fun _=>h1 _ _,t.w6.imp fun _=>h1 _ _,t.wX.imp fun _=>h1 _ _,t.vz.imp fun _=>h1 _ _,t.vj.imp fun _=>h1 _ _,t.wY.imp fun _=>h1 _ _,t.wm.imp fun _=>h1 _ _,t.wn.imp fun _=>h1 _ _,t.wz.imp fun _=>h1 _ _,t.vP.imp fun _=>h1 _ _,t.we.imp fun _=>h1 _ _,t.vO.imp fun _=>h1 _ _,t.wD.imp fun _=>h1 _ _,t.wC.imp fun _=>h1 _ _,t.vb.imp fun _=>h1 _ _,t.wI.imp fun _=>h1 _ _,t.wG.imp fun _=>h1 _ _,t.w4.imp fun _=>h1 _ _,t.ve.imp fun _=>h1 _ _,t.vw.imp fun _=>h1 _ _,t.wK.imp fun _=>h1 _ _,t.wZ.imp fun _=>h1 _ _,h1 _ _ t.c_Gate,h1 _ _ t.c_Plain,h1 _ _ t.c_Door,h1 _ _ t.c_Need,h1 _ _ t.c_Bar,h1 _ _ t.c_Wade,h1 _ _ t.c_Float,h1 _ _ t.c_Deed,h1 _ _ t.c_Go,h1 _ _ t.c_Pull,h1 _ _ t.c_Take,h1 _ _ t.c_Turn,h1 _ _ t.c_Unlock⟩
structure Tcl (K:W.Frag)(cs:Cs):Prop where
 cl_Plain:Cls K cs.Plain
 no_Plain_numbers:qK K cs.Plain "numbers"
 no_Plain_word:qK K cs.Plain "word"
 cl_Door:Cls K cs.Door
 no_Door_numbers:qK K cs.Door "numbers"
 no_Door_word:qK K cs.Door "word"
 cl_Need:Cls K cs.Need
 no_Need_kind:qK K cs.Need "kind"
 no_Need_numbers:qK K cs.Need "numbers"
 no_Need_word:qK K cs.Need "word"
 cl_Bar:Cls K cs.Bar
 no_Bar_bar:qK K cs.Bar "bar"
 no_Bar_numbers:qK K cs.Bar "numbers"
 no_Bar_word:qK K cs.Bar "word"
 cl_Wade:Cls K cs.Wade
 no_Wade_height:qK K cs.Wade "height"
 no_Wade_kind:qK K cs.Wade "kind"
 no_Wade_numbers:qK K cs.Wade "numbers"
 no_Wade_word:qK K cs.Wade "word"
 cl_Float:Cls K cs.Float
 no_Float_height:qK K cs.Float "height"
 no_Float_numbers:qK K cs.Float "numbers"
 no_Float_word:qK K cs.Float "word"
 cl_Go:Cls K cs.Go
 no_Go_number:qK K cs.Go "number"
 no_Go_part:qK K cs.Go "part"
 no_Go_word:qK K cs.Go "word"
 cl_Pull:Cls K cs.Pull
 no_Pull_number:qK K cs.Pull "number"
 no_Pull_part:qK K cs.Pull "part"
 no_Pull_word:qK K cs.Pull "word"
 cl_Take:Cls K cs.Take
 no_Take_number:qK K cs.Take "number"
 no_Take_part:qK K cs.Take "part"
 no_Take_word:qK K cs.Take "word"
 cl_Turn:Cls K cs.Turn
 no_Turn_number:qK K cs.Turn "number"
 no_Turn_part:qK K cs.Turn "part"
 no_Turn_word:qK K cs.Turn "word"
 cl_Unlock:Cls K cs.Unlock
 no_Unlock_number:qK K cs.Unlock "number"
 no_Unlock_part:qK K cs.Unlock "part"
 no_Unlock_word:qK K cs.Unlock "word"
structure Xs where
 DelveError:Addr
 NoCellar:Addr
 NoDeed:Addr
structure Tx (K:W.Frag)(mg:Str->Option Value)(xs:Xs):Prop where
 waB:mg "DelveError"=some (.ref xs.DelveError)
 wch:mg "NoCellar"=some (.ref xs.NoCellar)
 wap:mg "NoDeed"=some (.ref xs.NoDeed)
 wcf:ExcC K xs.NoCellar
 wb7:W.exmOne K (.ref xs.NoCellar) (.ref xs.NoDeed)=some false
 wbc:W.exmOne K (.ref xs.NoDeed) (.ref xs.NoDeed)=some true
 wan:ExcT K xs.NoDeed
 waq:ExcF K xs.NoDeed
 wao:q7S K xs.NoDeed
 vW:W.findIn K (.ref xs.NoDeed) "stand"=some none
 wae:W.findIn K (.ref xs.NoDeed) "deed"=some none
 war:BaseI K xs.DelveError
-- ROOM 13
-- SLIM
-- DROP ok_behind
-- DROP ok_deedsAt
-- PATCHED
-- DROP ok_cell
-- DROP ok_gate
-- DROP ok_heldL
-- DROP ok_cellar
-- DROP stand_b
-- DROP ok_stand
-- DROP vm_dtext
-- DROP vm_told
-- DROP vm_text
theorem r_seqZ {t u:TS}{nx bk ct:St->Hp->Prop}{rt:VK}{σ:St}{H:Hp}(q:∀z:TS,z=u->t ⟨z ⟨nx,rt,bk,ct⟩,rt,bk,ct⟩ σ H):tSeq t u ⟨nx,rt,bk,ct⟩ σ H:=q u rfl
theorem r_unz {z u:TS}{D:Ends}{σ:St}{H:Hp}(h:z=u)(q:u D σ H):z D σ H:=h▸q
local macro_rules| `(tactic| walk_at "ne")=> `(tactic| refine ifd (fun h=>absurd h (by walk_at "k")) (fun _=>?_))
local macro_rules| `(tactic| walk_at "eq")=> `(tactic| refine ifd (fun _=>?_) (fun h=>absurd rfl h))
local macro_rules| `(tactic| walk_at "at")=> `(tactic| first|rfl|exact atI0|exact qcV (by assumption)|exact q0r (by assumption)|assumption)
local macro_rules| `(tactic| walk_at "hp")=> `(tactic| first|with_reducible assumption|with_reducible exact qe|((with_reducible apply q1j);(rotate_left;(with_reducible assumption));walk_at "hp")|exact qe)
local macro_rules| `(tactic| walk_at "sq")=> `(tactic| first|with_reducible assumption|((with_reducible apply SqT.of);walk_at "hp")|((with_reducible apply SqL.of);walk_at "hp")|((with_reducible refine' Same.seq ?s ?h);(case h=>with_reducible assumption);(case s=>walk_at "sm"))|((with_reducible refine' Same.tup ?s ?h);(case h=>with_reducible assumption);(case s=>walk_at "sm")))
local macro_rules| `(tactic| walk_at "sm")=> `(tactic| first|with_reducible assumption|with_reducible exact Same.refl _|((with_reducible refine Same.trans ?_ (Same.upd (by assumption)));walk_at "sm"))
local macro_rules| `(tactic| walk_at "side")=> `(tactic| first|assumption|omega|(exact⟨by omega,by omega⟩)|(exact Or.inl ⟨by omega,by omega⟩)|(exact Or.inr ⟨by omega,by omega⟩)|(exact⟨by omega,by omega,by omega⟩)|(exact⟨by omega,by omega,by decide⟩)|(exact⟨⟨by omega,by omega⟩,by omega,by omega⟩))
local macro_rules| `(tactic| walk_at "rd1")=> `(tactic| first|((with_reducible refine' r_var ?h ?_);(case h=>rfl))|(with_reducible first|refine' r_op ?_|refine' r_c ?_|refine' r_cons ?_|refine' r_nil ?_)|((with_reducible refine' r_seqZ ?_);intro _ _)|(with_reducible first|refine' r_asg ?_|refine' r_name ?_|refine' r_call ?_|refine' r_cb ?_|refine' r_I0 ?_|refine' r_test ?_|refine' r_bl ?_|refine' r_B ?_|refine' r_ifS ?_|refine' r_ret ?_|refine' r_eqI ?_|refine' r_eqS ?_|refine' r_eqB ?_|refine' r_neI ?_|refine' r_neS ?_|refine' r_and ?_|refine' r_or ?_|refine' r_not ?_|refine' r_un ?_|refine' r_U ?_|refine' r_notN ?_|refine' r_andV ?_|refine' r_orV ?_|refine' r_notV ?_|refine' r_if ?_|refine' r_tup ?_|refine' r_lst ?_|refine' r_sl ?_|refine' r_np ?_|refine' r_pt ?_|refine' r_int ?_|refine' r_fld0 ?_|refine' qbI ?_|refine' r_vm0 ?_|refine' r_make ?_|refine' qbO ?_|refine' r_max2 ?_|refine' r_min2 ?_|refine' r_intb ?_|refine' r_next ?_|refine' r_drop ?_|refine' r_augS ?_|refine' r_ipI ?_|refine' r_gc ?_|refine' r_gn ?_|refine' r_bm ?_|refine' r_bm0 ?_|refine' r_for ?_|refine' r_rng1 ?_|refine' r_rng2 ?_|refine' r_comp ?_|refine' r_yes ?_|refine' r_iL ?_|refine' r_iT ?_|refine' r_eL ?_|refine' r_eT ?_|refine' iteT ?_|refine' iteF ?_|refine' ifnT ?_|refine' ifnF ?_|refine' q9Y ?_|refine' q9Z ?_|refine' qa0 ?_|refine' r_dnew ?_|refine' r_din ?_|refine' r_dnin ?_|refine' r_dput ?_|refine' r_hold ?_|refine' r_dk ?_|refine' r_cont ?_|refine' qbN ?_|refine' q9X ?_|refine' r_tryF ?_|refine' r_bTry ?_)|((with_reducible refine' r_I ?h ?_);(case h=>walk_at "side"))|((with_reducible refine' r_al ?h ?_);(case h=>rfl))|((with_reducible refine' q3C ?h ?e ?_);(case h=>walk_at "sq");(case e=>walk_at "at"))|((with_reducible refine' q6o ?h ?e ?_);(case h=>walk_at "sq");(case e=>walk_at "at"))|((with_reducible refine' r_lenT ?h ?_);(case h=>walk_at "sq"))|((with_reducible refine' r_lenL ?h ?_);(case h=>walk_at "sq"))|((with_reducible refine' r_refT ?h ?_);(case h=>walk_at "sq"))|((with_reducible refine' r_refL ?h ?_);(case h=>walk_at "sq"))|((with_reducible refine' qbJ ?h ?_);(case h=>walk_at "sq"))|((with_reducible refine' qbK ?h ?_);(case h=>walk_at "sq"))|((with_reducible refine' r_tyL ?h ?_);(case h=>walk_at "hp"))|((with_reducible refine' r_gT ?h ?e ?_);(case h=>walk_at "sq");(case e=>rfl))|((with_reducible refine' r_rg ?h ?_);(case h=>walk_at "side"))|((with_reducible refine' r_rg2 ?h ?_);(case h=>walk_at "side"))|((with_reducible refine' r_unz ?h ?_);(case h=>assumption))|((dsimp only);(with_reducible refine' r_unz ?h ?_);(case h=>assumption)))
local macro_rules| `(tactic| walk_at "r")=> `(tactic| repeat (walk_at "rd1"))
local macro_rules| `(tactic| walk_at "rc")=> `(tactic| repeat (first|with_reducible refine' r_seq ?_|walk_at "rd1"))
open Ce
def q6h:Sp:=fun vs H Q _=>∃x t,vs=[.int x,.int t]/\0<=t/\Q (.bl (bit x t.toNat)) H
def q6c:Sp:=fun vs H Q _=>∃(p:Addr) (C:Cl),vs=[.ref p]/\ClAt H p C/\∀(q:Addr) (H':Hp),Same H H'->H' q=some (.tup [.int C.fst,.int 0,.int 0,.int C.bars,.int C.water])->Q (.ref q) H'
def dkV (g:Gt):V:=match g.dk with
 |some k=> .int k
 |none=> .non
def spDk:Sp:=fun vs H Q _=>∃(p:Addr) (C:Cl),vs=[.ref p]/\ClAt H p C/\ClOk C/\∀(q:Addr) (H':Hp),Same H H'->H q=none->H' q=some (.lst (C.ways.map fun x=>dkV x.g))->Q (.ref q) H'
def q5m:Sp:=fun vs H Q _=>∃(p q:Addr) (C:Cl) (rm tk op b wt:Int),vs=[.ref p,.ref q]/\ClAt H p C/\ClOk C/\H q=some (.tup [.int rm,.int tk,.int op,.int b,.int wt])/\(∀i,i<C.ways.length->bit op i=true->(dsOf C i).isSome=true)/\
 ∀(r:Addr) (H':Hp),Same H H'->H r=none->H' r=some (.lst (cl (hold C tk op)))->Q (.ref r) H'
theorem q50 {xs:List Int}{j:Nat}(h:j<xs.length):atI (xs.map V.int) (j:Int)=some (.int (xs.getD j 0)):=q0r (by simp[List.getD,h])
theorem q9n {C:Cl}{tk k:Int}{i:Nat}(hi:i<C.things.length):(cnt (tP C tk k) (i+1):Int)=(cnt (tP C tk k) i:Int)+(if bit tk i=true then(if k=C.things[i].2 then 1 else 0) else 0):=by
 show((cnt _ i+_:Nat):Int)=_
 have e:C.things.getD i (0,0)=C.things[i]:=by simp[List.getD,hi]
 unfold tP
 rw[e]
 by_cases h1:bit tk i=true
 ·by_cases h2:C.things[i].2=k
  ·simp [h1,h2]
  ·have:¬k=C.things[i].2:=fun z=>h2 z.symm
   simp[h1,h2,this]
 ·simp [h1]
theorem q9p {C:Cl}{op k:Int}{i:Nat}(hi:i<C.ways.length):(cnt (dP (dsOf C) op k) (i+1):Int)=(cnt (dP (dsOf C) op k) i:Int)+(if bit op i=true then(if C.ways[i].g.dk=some k then 1 else 0) else 0):=by
 show((cnt _ i+_:Nat):Int)=_
 have e:dsOf C i=C.ways[i].g.dk:=by simp[dsOf,hi]
 unfold dP
 rw[e]
 by_cases h1:bit op i=true
 ·by_cases h2:C.ways[i].g.dk=some k
  ·simp [h1,h2]
  ·simp [h1,h2]
 ·simp [h1]
section
variable {P:Program}{w:World}{K:W.Frag}{mg:Str->Option Value}{base:Heap}{cs:Cs}
theorem q7x (T:Txt mg cs)(L:Laid K mg "has_bit" q2Y ["bits","place"]):Cal P w K mg base 1 "has_bit" ["bits","place"] q6h:=by
 refine L.cal (k:=0) q7q (fun vs H Q E h=>?_) (fun f cdv A outer s H vs Q E hr h=>?_)
 ·obtain ⟨x,t,rfl,_⟩:=h
  rfl
 ·obtain ⟨x,t,rfl,h0,k⟩:=h
  refine⟨_,(qi (qp (qR qS (qk q3T (qk q4p (pv 0) (pv 1)) qc) qc (qu _)))),?_⟩
  walk_at "r"
  rw[q2C]
  exact k
theorem qai (T:Txt mg cs)(L:Laid K mg "start" q4N ["cellar"]):Cal P w K mg base 1 "start" ["cellar"] q6c:=by
 obtain⟨t1,vN⟩:=T.vN
 obtain⟨t2,w6⟩:=T.w6
 obtain⟨t3,wX⟩:=T.wX
 refine L.cal (k:=0) q9S (fun vs H Q E h=>?_) (fun f cdv A outer s H vs Q E hr h=>?_)
 ·obtain ⟨p,C,rfl,_⟩:=h
  rfl
 ·obtain ⟨p,C,rfl,hC,k⟩:=h
  obtain⟨pw,pt,pl,pv',h0,_⟩:=hC.ex
  refine⟨_,(qi (qp (qz (qa (qm (qj K) (pv 0) (qx (v:= .int 1) rfl vN ⟨_,rfl⟩) (fun _ _=>rfl)) (qa qc (qa qc (qa (qm (qj K) (pv 0) (qx (v:= .int 7) rfl w6 ⟨_,rfl⟩) (fun _ _=>rfl)) (qa (qm (qj K) (pv 0) (qx (v:= .int 8) rfl wX ⟨_,rfl⟩) (fun _ _=>rfl)) qd)))))))),?_⟩
  walk_at "r"
  intro q hq
  exact k q _ (Same.upd hq) qe
theorem ok_dk (T:Txt mg cs)(L:Laid K mg "door_kinds" q0U ["cellar"]):Cal P w K mg base 1 "door_kinds" ["cellar"] spDk:=by
 obtain⟨t1,wG⟩:=T.wG
 refine L.cal (k:=0) q4I (fun vs H Q E h=>?_) (fun f cdv A outer s H vs Q E hr h=>?_)
 ·obtain ⟨p,C,rfl,_⟩:=h
  rfl
 ·obtain ⟨p,C,rfl,hC,ok,k⟩:=h
  obtain⟨pw,pt,pl,pv',h0,h1,_⟩:=hC.ex
  obtain⟨wv,hw,hwl,hwg⟩:=h1.get
  have big:=qF
  refine⟨_,(qi (qp (q1o (q0L (N:=["a","b","gate","back"]) (own:=4) (caps:=[]) ["cellar"] (qh q0U) (by walk_at "k")) rfl (qbW K (qm (qj K) (pv 0) (qx (v:= .int 3) rfl wG ⟨_,rfl⟩) (fun _ _=>rfl))) (fun _ _ _ _=>(q0v (n:=4) K rfl (qA (qr (i:=0) (show List.Nodup (["a","b","gate","back"]:List Str) by walk_at "k") rfl (Or.inl rfl)) (qA (qr (i:=1) (show List.Nodup (["a","b","gate","back"]:List Str) by walk_at "k") rfl (Or.inl rfl)) (qA (qr (i:=2) (show List.Nodup (["a","b","gate","back"]:List Str) by walk_at "k") rfl (Or.inl rfl)) (qA (qr (i:=3) (show List.Nodup (["a","b","gate","back"]:List Str) by walk_at "k") rfl (Or.inl rfl)) q0u)))))) (fun _ _ _ _=>q1H) (fun _ _ _ _=>(q70 (qw qS (qm (qj K) (pv 2) qc (fun _ _=>rfl)) qM (qu _)) (qm (qj K) (pv 2) qc (fun _ _=>rfl)) qbb))))),?_⟩
  walk_at "r"
  intro D hD
  refine qaT wv (fun i σ H'=>∃v0 v1 v2 v3,σ=[v0,v1,v2,v3]/\Same H H'/\H' D=some (.lst ((C.ways.take i).map fun x=>dkV x.g))) ⟨none,none,none,none,rfl,Same.upd hD,by rw[qe];rfl⟩ ?_ ?_ ?_
  ·rintro i σ H' ⟨_,_,_,_,rfl,s1,_⟩
   exact SqT.of (s1 _ _ hw)
  ·rintro i x σ H' hx ⟨v0,v1,v2,v3,rfl,s1,hD1⟩
   have hi:i<C.ways.length:=by rw[<-hwl];exact(yA hx).1
   obtain⟨p1,e,g,hp1,hg⟩:=hwg i hi
   rw[hx] at e
   cases e
   have hp2:=s1 _ _ hp1
   have hg2:=s1 _ _ hg
   have hl:=ok.wl
   rw[Gt.vs_eq] at hg2
   have fin:∀v,v=dkV C.ways[i].g->∃ys,H' D=some (.lst ys)/\ys.length<sizeLine/\∃v0 v1 v2 v3,([some (.int C.ways[i].a),some (.int C.ways[i].b),some (.ref g),some (.bl C.ways[i].back)]:St)=[v0,v1,v2,v3]/\Same H (upd H' D (.lst (ys++[v])))/\(upd H' D (.lst (ys++[v]))) D=some (.lst ((C.ways.take (i+1)).map fun x=>dkV x.g)):=by
    intro v ev
    subst ev
    refine⟨_,hD1,by simp;omega,_,_,_,_,rfl,s1.put hD,?_⟩
    rw[qe,q7Y (fun x:Way=>dkV x.g) C.ways hi]
   walk_at "r"
   refine ifd (fun hd=>?_) (fun hd=>?_)
   ·obtain ⟨k1,ek⟩:=q9e hd
    rw[ek] at hg2
    walk_at "r"
    exact fin _ (by rw[ek];rfl)
   ·walk_at "r"
    refine fin _ ?_
    cases eg:C.ways[i].g with
    |door k1=>rw[eg] at hd;exact absurd rfl hd
    |_=>rfl
  ·rintro σ H' ⟨_,_,_,_,rfl,s1,hD1⟩
   rw[show wv.length=C.ways.length from hwl,zQ] at hD1
   exact k D H' s1 hD hD1
theorem qcb (T:Txt mg cs)(L:Laid K mg "held" q6S ["cellar","stand"])(wg:Cal P w K mg base 1 "has_bit" ["bits","place"] q6h)(wJ:Cal P w K mg base 1 "door_kinds" ["cellar"] spDk):Cal P w K mg base 2 "held" ["cellar","stand"] q5m:=by
 obtain⟨t1,vj⟩:=T.vj
 obtain⟨t2,wm⟩:=T.wm
 obtain⟨t3,wD⟩:=T.wD
 obtain⟨t4,wC⟩:=T.wC
 refine L.cal (k:=1) q3j (fun vs H Q E h=>?_) (fun f cdv A outer s H vs Q E hr h=>?_)
 ·obtain ⟨p,q,C,_,_,_,_,_,rfl,_⟩:=h
  rfl
 ·obtain ⟨p,q,C,rm,tk,op,b,wt,rfl,hC,ok,hq,hdr,k⟩:=h
  obtain⟨pw,pt,pl,pv',h0,h1,h2,_⟩:=hC.ex
  obtain⟨tv,ht,htl,htg⟩:=h2.get
  have big:=qF
  refine⟨_,(qg (qC (i:=2) q3j.nd rfl (Or.inl rfl) (qk op_rep (q0p (qa qc qd)) (qk q03 (qx (v:= .int 11) rfl vj ⟨_,rfl⟩) qc)))
   (qg (q0K PassesOwn.never rfl (q8z K rfl T.vh (qa (qm (qj K) (pv 0) (qx (v:= .int 4) rfl wC ⟨_,rfl⟩) (fun _ _=>rfl)) qd)) (q0v (n:=2) K rfl (qA (qr (i:=3) q3j.nd rfl (Or.inl rfl)) (qA (qr (i:=4) q3j.nd rfl (Or.inl rfl)) q0u))) (qi (qO (q0J (qB wg hr (by decide) rfl (qa (qm (qj K) (pv 1) (qx (v:= .int 1) rfl wD ⟨_,rfl⟩) (fun _ _=>rfl)) (qa (pv 3) qd)))) (qi (q8v (pv 2) (qm (qj K) (pv 4) qc (fun _ _=>rfl)) (q5X K) qc ip_add q6R)) qy)))
   (qg (q0K PassesOwn.never rfl (q5P K rfl T.vh (qa (qB wJ hr (by decide) rfl (qa (pv 0) qd)) qd)) (q0v (n:=2) K rfl (qA (qr (i:=3) q3j.nd rfl (Or.inl rfl)) (qA (qr (i:=5) q3j.nd rfl (Or.inl rfl)) q0u))) (qi (qO (q0J (qB wg hr (by decide) rfl (qa (qm (qj K) (pv 1) (qx (v:= .int 2) rfl wm ⟨_,rfl⟩) (fun _ _=>rfl)) (qa (pv 3) qd)))) (qi (q8v (pv 2) (pv 5) (q5X K) qc ip_sub q6R)) qy)))
   (qi (qp (pv 2)))))),?_⟩
  walk_at "r"
  intro p1 hp1
  walk_at "r"
  refine⟨p1,_,_,rfl,rfl,qe,by decide,by decide,by show 1*12<=sizeLine;decide,fun cs hcs=>?_⟩
  have hcs0:H cs=none:=(Same.upd hp1).free hcs
  have s0:Same H (upd (upd H p1 (.lst [.int 0])) cs (.lst (List.replicate (11+1:Int).toNat [V.int 0]).flatten)):=(Same.upd hp1).trans (Same.upd hcs)
  have h0':=s0 _ _ h0
  have ht':=s0 _ _ ht
  walk_at "r"
  refine q96 tv (fun i σ H'=>∃v3 v4 v5,σ=[some (.ref p),some (.ref q),some (.ref cs),v3,v4,v5]/\Same H H'/\H' cs=some (.lst (cl fun k=>(cnt (tP C tk k) i:Int)))) ⟨none,none,none,rfl,s0,by rw[qe];rfl⟩ ?_ ?_ ?_
  ·rintro i σ H' ⟨_,_,_,rfl,s1,_⟩
   exact SqT.of (s1 _ _ ht)
  ·rintro i x σ H' T1 hx ⟨v3,v4,v5,rfl,s1,hc⟩ hT1
   have hi:i<C.things.length:=by rw[<-htl];exact(yA hx).1
   obtain⟨p2,e,hp2⟩:=htg i hi
   rw[hx] at e
   cases e
   have hp3:H' p2=_:=s1 _ _ hp2
   have hq3:=s1 _ _ hq
   obtain⟨_,k0,k1⟩:=ok.t _ (zL hi)
   have sT:Same H (upd H' T1 (.tup [.int (i:Nat),.ref p2])):=s1.trans (Same.upd hT1)
   have hcT:(upd H' T1 (.tup [.int (i:Nat),.ref p2])) cs=some (.lst (cl fun k=>(cnt (tP C tk k) i:Int))):=q1j hc hT1
   walk_at "r"
   refine⟨tk,i,rfl,by omega,?_⟩
   rw[zp]
   walk_at "r"
   refine ite2 (fun hb=>?_) (fun hb=>?_)
   ·walk_at "r"
    refine q6o (SqL.of hcT) (q9s k0 k1) ?_
    walk_at "r"
    refine qb7 hcT (cl_ix k0 k1) ?_
    refine⟨_,_,_,rfl,sT.put hcs0,?_⟩
    rw[qe,qbm k0 k1]
    congr 2
    refine q3e fun k _ _=>?_
    rw[q9n hi,zt hb]
    by_cases ek:k=C.things[i].2
    ·rw [zt ek,zt ek,ek]
    ·rw [zo ek,zo ek];omega
   ·walk_at "r"
    refine⟨_,_,_,rfl,sT,?_⟩
    rw[hcT]
    congr 2
    refine q3e fun k _ _=>?_
    rw[q9n hi,zo hb];omega
  ·rintro σ H' ⟨v3,v4,v5,rfl,s1,hc⟩
   rw[show tv.length=C.things.length from htl] at hc
   walk_at "r"
   refine⟨p,C,rfl,hC.mono s1.ts,ok,fun dk H2 s2 hdk hdk2=>?_⟩
   have s12:=s1.trans s2
   have hc2:=s2 _ _ hc
   walk_at "r"
   refine q96 (C.ways.map fun x=>dkV x.g) (fun i σ H'=>∃v3 v4 v5,σ=[some (.ref p),some (.ref q),some (.ref cs),v3,v4,v5]/\Same H H'/\H' dk=some (.lst (C.ways.map fun x=>dkV x.g))/\H' cs=some (.lst (cl fun k=>(cnt (tP C tk k) C.things.length:Int) - (cnt (dP (dsOf C) op k) i:Int)))) ⟨v3,v4,v5,rfl,s12,hdk2,?_⟩ ?_ ?_ ?_
   ·rw [hc2]
    refine zae (fun l=>some (HO.lst l)) (q3e fun k _ _=>?_)
    show _=_ - ((0:Nat):Int)
    omega
   ·rintro i σ H' ⟨_,_,_,rfl,s3,h3,_⟩
    exact SqL.of h3
   ·rintro i x σ H' T1 hx ⟨v3,v4,v5,rfl,s3,hd3,hc3⟩ hT1
    have hi:i<C.ways.length:=by have:=(yA hx).1;simpa using this
    have ex:x=dkV C.ways[i].g:=by simpa[hi] using hx.symm
    subst ex
    have hq3:=s3 _ _ hq
    have hne:dk≠cs:=fun z=>by rw[z] at hdk;rw[hdk] at hc;cases hc
    have sT:Same H (upd H' T1 (.tup [.int (i:Nat),dkV C.ways[i].g])):=s3.trans (Same.upd hT1)
    have hcT:(upd H' T1 (.tup [.int (i:Nat),dkV C.ways[i].g])) cs=_:=q1j hc3 hT1
    have hdT:(upd H' T1 (.tup [.int (i:Nat),dkV C.ways[i].g])) dk=_:=q1j hd3 hT1
    walk_at "r"
    refine⟨op,i,rfl,by omega,?_⟩
    rw[zp]
    walk_at "r"
    refine ite2 (fun hb=>?_) (fun hb=>?_)
    ·have hsome:=hdr i hi hb
     have eds:dsOf C i=C.ways[i].g.dk:=by simp[dsOf,hi]
     rw[eds] at hsome
     obtain⟨k2,ek2⟩:=Option.isSome_iff_exists.mp hsome
     have hgok:=(ok.w _ (zL hi)).2.2.2
     have hk2:0<=k2/\k2<12:=by
      cases eg:C.ways[i].g with
      |door j=>rw[eg] at ek2 hgok;cases ek2;exact hgok
      |_=>rw[eg] at ek2;cases ek2
     have ev:dkV C.ways[i].g= .int k2:=by unfold dkV;rw[ek2]
     rw[ev] at hcT hdT sT ⊢
     walk_at "r"
     refine q6o (SqL.of hcT) (q9s hk2.1 hk2.2) ?_
     walk_at "r"
     refine qb7 hcT (cl_ix hk2.1 hk2.2) ?_
     refine⟨_,_,_,rfl,sT.put hcs0,up_oth hdT hne,?_⟩
     rw[qe,qbm hk2.1 hk2.2]
     congr 2
     refine q3e fun k _ _=>?_
     rw[q9p hi,zt hb,ek2]
     by_cases ek:k=k2
     ·rw [zt ek,zt (by rw[ek]),ek];omega
     ·rw [zo ek,zo (by intro z;exact ek (zC z).symm)];omega
    ·walk_at "r"
     refine⟨_,_,_,rfl,sT,hdT,?_⟩
     rw[hcT]
     congr 2
     refine q3e fun k _ _=>?_
     rw[q9p hi,zo hb];omega
   ·rintro σ H' ⟨v3,v4,v5,rfl,s3,hd3,hc3⟩
    walk_at "r"
    rw[yC] at hc3
    exact k cs H' s3 hcs0 hc3
def q9q (cs:Cs):Gt->Addr
 | .plain=>cs.Plain
 | .door _=>cs.Door
 | .need _=>cs.Need
 | .bar _=>cs.Bar
 | .wade _ _=>cs.Wade
 | .float _=>cs.Float
def fldB (q:Addr)(g:Gt):List (Str×V):=putF "numbers" (.ref q) (putF "word" (.str g.word) [])
def flds (q:Addr):Gt->List (Str×V)
 | .need k=>putF "kind" (.int k) (fldB q (.need k))
 | .bar b=>putF "bar" (.int b) (fldB q (.bar b))
 | .wade h k=>putF "kind" (.int k) (putF "height" (.int h) (fldB q (.wade h k)))
 | .float h=>putF "height" (.int h) (fldB q (.float h))
 |g=>fldB q g
theorem qcB (q:Addr)(g:Gt):(flds q g).lookup ("lets":Str)=none:=by
 cases g<;>(unfold flds;first|unfold fldB|skip)<;>simp only[fldB,qQ]<;>repeat (first|rfl|rw[zo (by walk_at "k")])
theorem qaN (q:Addr)(k:Int):(flds q (.need k)).lookup ("kind":Str)=some (.int k):=by
 unfold flds;rw[qQ,if_pos rfl]
theorem qcC (q:Addr)(k:Int):(flds q (.bar k)).lookup ("bar":Str)=some (.int k):=by
 unfold flds;rw[qQ,if_pos rfl]
theorem qaL (q:Addr)(h k:Int):(flds q (.wade h k)).lookup ("kind":Str)=some (.int k):=by
 unfold flds;rw[qQ,if_pos rfl]
theorem qaM (q:Addr)(h k:Int):(flds q (.wade h k)).lookup ("height":Str)=some (.int h):=by
 unfold flds;rw[qQ,if_neg (by walk_at "k"),qQ,if_pos rfl]
theorem q97 (q:Addr)(h:Int):(flds q (.float h)).lookup ("height":Str)=some (.int h):=by
 unfold flds;rw[qQ,if_pos rfl]
structure GObj (cs:Cs)(H:Hp)(p:Addr)(g:Gt):Prop where
 ex:∃dx q,H p=some (.ins (q9q cs g) dx (flds q g))/\H q=some (.tup (g.ns.map V.int))
theorem GObj.mono {cs:Cs}{H H':Hp}{p:Addr}{g:Gt}(s:Same H H')(h:GObj cs H p g):GObj cs H' p g:=let ⟨dx,q,h1,h2⟩:=h.ex;⟨dx,q,s _ _ h1,s _ _ h2⟩
def q2m (K:W.Frag):Sp:=fun vs H Q _=>∃(p C dx q:Addr) (z:Str),vs=[.ref p,.str z,.ref q]/\H p=some (.ins C dx [])/\Cls K C/\qK K C "word"/\qK K C "numbers"/\Q .non (upd H p (.ins C dx (putF "numbers" (.ref q) (putF "word" (.str z) []))))
def spMk (cs:Cs)(wd:Str):Sp:=fun vs H Q _=>∃(p dx:Addr) (g:Gt),vs= .ref p::g.ns.map V.int/\g.word=wd/\H p=some (.ins (q9q cs g) dx [])/\∀H',(∀b o,H b=some o->b≠p->H' b=some o)->GObj cs H' p g->Q .non H'
def qbz (cs:Cs):Sp:=fun vs H Q _=>∃(p:Addr) (g:Gt),vs=[.ref p]/\H p=some (.tup g.vs)/\∀(x:Addr) (H':Hp),Same H H'->H x=none->GObj cs H' x g->Q (.ref x) H'
def q3r (cs:Cs)(wd:Str):Sp:=fun vs H Q _=>∃(p hl:Addr) (g:Gt) (f:Int->Int) (op:Bool) (bars wt:Int),vs=[.ref p,.ref hl,.bl op,.int bars,.int wt]/\g.word=wd/\GObj cs H p g/\g.ok/\H hl=some (.lst (cl f))/\Q (.bl (q3W g f op bars wt)) H
theorem qan (T:Txt mg cs)(L:LaidC K mg "Gate" "__init__" "Gate.__init__" q29 ["self","word","numbers"]):CCal P w K mg base 1 "Gate" "__init__" ["self","word","numbers"] (q2m K):=by
 refine L.cc (k:=0) q5G (fun vs H Q E h=>?_) (fun f cdv A outer s H vs Q E hr h=>?_)
 ·obtain ⟨p,C,dx,q,z,rfl,_⟩:=h
  rfl
 ·obtain ⟨p,C,dx,q,z,rfl,hp,cl,nw,nn,k⟩:=h
  refine⟨_,(qg (q1C K (pv 0) (pv 1) rfl)
   (qi (q1C K (pv 0) (pv 2) rfl))),?_⟩
  walk_at "r"
  refine q2E hp cl nw (by decide) ?_
  walk_at "r"
  refine q2E qe cl nn (by show 1<1000;decide) ?_
  rw[q2l]
  exact k
theorem qav (T:Txt mg cs)(TC:Tcl K cs)(L:LaidI K mg "Plain" cs.Plain "Plain.__init__" q1v ["self"])(wb:CCal P w K mg base 1 "Gate" "__init__" ["self","word","numbers"] (q2m K)):Makes P w K mg base 2 "Plain" cs.Plain ["self"] (spMk cs "plain"):=by
 refine L.makes (k:=1) q4K (fun vs H Q E h=>?_) (fun f cdv A outer s H vs Q E hr h=>?_)
 ·obtain ⟨p,dx,g,rfl,hw,_⟩:=h
  cases g<;>first|rfl|exact absurd hw (by simp only[Gt.word];walk_at "k")
 ·obtain ⟨p,dx,g,rfl,hw,hp,k⟩:=h
  cases g<;>first|exact absurd hw (by simp only[Gt.word];walk_at "k")|skip
  refine⟨_,(qi (q08 (q3S wb hr (by decide) rfl (qa (pv 0) (qa qM (qa (qz qd) qd)))))),?_⟩
  walk_at "r"
  intro t ht
  refine⟨p,cs.Plain,dx,t,_,rfl,q1j hp ht,TC.cl_Plain,TC.no_Plain_word,TC.no_Plain_numbers,?_⟩
  walk_at "r"
  have hpt:p≠t:=qv hp ht
  refine k _ (fun b o hb hbp=>?_) ⟨dx,t,qe,by rw[qq hpt.symm];exact qe⟩
  rw[qq hbp,qq (qv hb ht)]
  exact hb
theorem qco (T:Txt mg cs)(TC:Tcl K cs)(L:LaidI K mg "Door" cs.Door "Door.__init__" q2b ["self","kind"])(wb:CCal P w K mg base 1 "Gate" "__init__" ["self","word","numbers"] (q2m K)):Makes P w K mg base 2 "Door" cs.Door ["self","kind"] (spMk cs "door"):=by
 refine L.makes (k:=1) q5I (fun vs H Q E h=>?_) (fun f cdv A outer s H vs Q E hr h=>?_)
 ·obtain ⟨p,dx,g,rfl,hw,_⟩:=h
  cases g<;>first|rfl|exact absurd hw (by simp only[Gt.word];walk_at "k")
 ·obtain ⟨p,dx,g,rfl,hw,hp,k⟩:=h
  cases g<;>first|exact absurd hw (by simp only[Gt.word];walk_at "k")|skip
  rename_i n
  refine⟨_,(qi (q08 (q3S wb hr (by decide) rfl (qa (pv 0) (qa qM (qa (qz (qa (pv 1) qd)) qd)))))),?_⟩
  walk_at "r"
  intro t ht
  refine⟨p,cs.Door,dx,t,_,rfl,q1j hp ht,TC.cl_Door,TC.no_Door_word,TC.no_Door_numbers,?_⟩
  walk_at "r"
  have hpt:p≠t:=qv hp ht
  refine k _ (fun b o hb hbp=>?_) ⟨dx,t,qe,by rw[qq hpt.symm];exact qe⟩
  rw[qq hbp,qq (qv hb ht)]
  exact hb
theorem qcn (T:Txt mg cs)(TC:Tcl K cs)(L:LaidI K mg "Need" cs.Need "Need.__init__" q28 ["self","kind"])(wb:CCal P w K mg base 1 "Gate" "__init__" ["self","word","numbers"] (q2m K)):Makes P w K mg base 2 "Need" cs.Need ["self","kind"] (spMk cs "need"):=by
 refine L.makes (k:=1) q5F (fun vs H Q E h=>?_) (fun f cdv A outer s H vs Q E hr h=>?_)
 ·obtain ⟨p,dx,g,rfl,hw,_⟩:=h
  cases g<;>first|rfl|exact absurd hw (by simp only[Gt.word];walk_at "k")
 ·obtain ⟨p,dx,g,rfl,hw,hp,k⟩:=h
  cases g<;>first|exact absurd hw (by simp only[Gt.word];walk_at "k")|skip
  rename_i n
  refine⟨_,(qg (q08 (q3S wb hr (by decide) rfl (qa (pv 0) (qa qM (qa (qz (qa (pv 1) qd)) qd)))))
   (qi (q1C K (pv 0) (pv 1) rfl))),?_⟩
  walk_at "r"
  intro t ht
  refine⟨p,cs.Need,dx,t,_,rfl,q1j hp ht,TC.cl_Need,TC.no_Need_word,TC.no_Need_numbers,?_⟩
  walk_at "r"
  refine q2E qe TC.cl_Need TC.no_Need_kind (by show 2<1000;decide) ?_
  rw[q2l]
  have hpt:p≠t:=qv hp ht
  refine k _ (fun b o hb hbp=>?_) ⟨dx,t,qe,by rw[qq hpt.symm];exact qe⟩
  rw[qq hbp,qq (qv hb ht)]
  exact hb
theorem mk_bar (T:Txt mg cs)(TC:Tcl K cs)(L:LaidI K mg "Bar" cs.Bar "Bar.__init__" q2x ["self","bar"])(wb:CCal P w K mg base 1 "Gate" "__init__" ["self","word","numbers"] (q2m K)):Makes P w K mg base 2 "Bar" cs.Bar ["self","bar"] (spMk cs "bar"):=by
 refine L.makes (k:=1) q6m (fun vs H Q E h=>?_) (fun f cdv A outer s H vs Q E hr h=>?_)
 ·obtain ⟨p,dx,g,rfl,hw,_⟩:=h
  cases g<;>first|rfl|exact absurd hw (by simp only[Gt.word];walk_at "k")
 ·obtain ⟨p,dx,g,rfl,hw,hp,k⟩:=h
  cases g<;>first|exact absurd hw (by simp only[Gt.word];walk_at "k")|skip
  rename_i n
  refine⟨_,(qg (q08 (q3S wb hr (by decide) rfl (qa (pv 0) (qa qM (qa (qz (qa (pv 1) qd)) qd)))))
   (qi (q1C K (pv 0) (pv 1) rfl))),?_⟩
  walk_at "r"
  intro t ht
  refine⟨p,cs.Bar,dx,t,_,rfl,q1j hp ht,TC.cl_Bar,TC.no_Bar_word,TC.no_Bar_numbers,?_⟩
  walk_at "r"
  refine q2E qe TC.cl_Bar TC.no_Bar_bar (by show 2<1000;decide) ?_
  rw[q2l]
  have hpt:p≠t:=qv hp ht
  refine k _ (fun b o hb hbp=>?_) ⟨dx,t,qe,by rw[qq hpt.symm];exact qe⟩
  rw[qq hbp,qq (qv hb ht)]
  exact hb
theorem qaw (T:Txt mg cs)(TC:Tcl K cs)(L:LaidI K mg "Float" cs.Float "Float.__init__" q1x ["self","height"])(wb:CCal P w K mg base 1 "Gate" "__init__" ["self","word","numbers"] (q2m K)):Makes P w K mg base 2 "Float" cs.Float ["self","height"] (spMk cs "float"):=by
 refine L.makes (k:=1) q4M (fun vs H Q E h=>?_) (fun f cdv A outer s H vs Q E hr h=>?_)
 ·obtain ⟨p,dx,g,rfl,hw,_⟩:=h
  cases g<;>first|rfl|exact absurd hw (by simp only[Gt.word];walk_at "k")
 ·obtain ⟨p,dx,g,rfl,hw,hp,k⟩:=h
  cases g<;>first|exact absurd hw (by simp only[Gt.word];walk_at "k")|skip
  rename_i n
  refine⟨_,(qg (q08 (q3S wb hr (by decide) rfl (qa (pv 0) (qa qM (qa (qz (qa (pv 1) qd)) qd)))))
   (qi (q1C K (pv 0) (pv 1) rfl))),?_⟩
  walk_at "r"
  intro t ht
  refine⟨p,cs.Float,dx,t,_,rfl,q1j hp ht,TC.cl_Float,TC.no_Float_word,TC.no_Float_numbers,?_⟩
  walk_at "r"
  refine q2E qe TC.cl_Float TC.no_Float_height (by show 2<1000;decide) ?_
  rw[q2l]
  have hpt:p≠t:=qv hp ht
  refine k _ (fun b o hb hbp=>?_) ⟨dx,t,qe,by rw[qq hpt.symm];exact qe⟩
  rw[qq hbp,qq (qv hb ht)]
  exact hb
theorem qcj (T:Txt mg cs)(TC:Tcl K cs)(L:LaidI K mg "Wade" cs.Wade "Wade.__init__" q1R ["self","height","kind"])(wb:CCal P w K mg base 1 "Gate" "__init__" ["self","word","numbers"] (q2m K)):Makes P w K mg base 2 "Wade" cs.Wade ["self","height","kind"] (spMk cs "wade"):=by
 refine L.makes (k:=1) q5v (fun vs H Q E h=>?_) (fun f cdv A outer s H vs Q E hr h=>?_)
 ·obtain ⟨p,dx,g,rfl,hw,_⟩:=h
  cases g<;>first|rfl|exact absurd hw (by simp only[Gt.word];walk_at "k")
 ·obtain ⟨p,dx,g,rfl,hw,hp,k⟩:=h
  cases g<;>first|exact absurd hw (by simp only[Gt.word];walk_at "k")|skip
  rename_i n1 n2
  refine⟨_,(qg (q08 (q3S wb hr (by decide) rfl (qa (pv 0) (qa qM (qa (qz (qa (pv 1) (qa (pv 2) qd))) qd)))))
   (qg (q1C K (pv 0) (pv 1) rfl)
   (qi (q1C K (pv 0) (pv 2) rfl)))),?_⟩
  walk_at "r"
  intro t ht
  refine⟨p,cs.Wade,dx,t,_,rfl,q1j hp ht,TC.cl_Wade,TC.no_Wade_word,TC.no_Wade_numbers,?_⟩
  walk_at "r"
  refine q2E qe TC.cl_Wade TC.no_Wade_height (by show 2<1000;decide) ?_
  walk_at "r"
  refine q2E qe TC.cl_Wade TC.no_Wade_kind (by show 3<1000;decide) ?_
  rw[q2l,q2l]
  have hpt:p≠t:=qv hp ht
  refine k _ (fun b o hb hbp=>?_) ⟨dx,t,qe,by rw[qq hpt.symm];exact qe⟩
  rw[qq hbp,qq (qv hb ht)]
  exact hb
theorem q2y {H:Hp}{Q:VK}{g:Gt}{x dx:Addr}(hx:H x=none)(hdx:H dx=none)(ne:dx≠x)(k:∀(x:Addr) (H':Hp),Same H H'->H x=none->GObj cs H' x g->Q (.ref x) H'):spMk cs g.word (.ref x::(g.ns.map V.int++[])) (upd (upd H dx (.own x)) x (.ins (q9q cs g) dx [])) (fun v H2=>v= .non/\Q (.ref x) H2) E0:=by
 refine⟨x,dx,g,by rw[zJ],rfl,qe,fun H' hk ho=>⟨rfl,k x H' (fun b o hb=>?_) hx ho⟩⟩
 refine hk b o ?_ (qv hb hx)
 rw[qq (qv hb hx),qq (qv hb hdx)]
 exact hb
theorem q7y (T:Txt mg cs)(L:Laid K mg "gate_of" q2Z ["gate"])(wN:Makes P w K mg base 2 "Plain" cs.Plain ["self"] (spMk cs "plain"))(wV:Makes P w K mg base 2 "Door" cs.Door ["self","kind"] (spMk cs "door"))(wU:Makes P w K mg base 2 "Need" cs.Need ["self","kind"] (spMk cs "need"))
  (vi:Makes P w K mg base 2 "Bar" cs.Bar ["self","bar"] (spMk cs "bar"))(wT:Makes P w K mg base 2 "Wade" cs.Wade ["self","height","kind"] (spMk cs "wade"))(wL:Makes P w K mg base 2 "Float" cs.Float ["self","height"] (spMk cs "float")):Cal P w K mg base 4 "gate_of" ["gate"] (qbz cs):=by
 refine L.cal (k:=3) q4m (fun vs H Q E h=>?_) (fun f cdv A outer s H vs Q E hr h=>?_)
 ·obtain ⟨p,g,rfl,_⟩:=h
  rfl
 ·obtain ⟨p,g,rfl,hp,k⟩:=h
  refine⟨_,(qg (qC (i:=1) q4m.nd rfl (Or.inl rfl) (qm (qj K) (pv 0) qc (fun _ _=>rfl)))
   (qg (qO (qw qS (pv 1) qM (qu _)) (qi (qp (qc0 wN hr (by decide) rfl))) qy)
   (qg (qO (qw qS (pv 1) qM (qu _)) (qi (qp (q1n wV hr (by decide) rfl (qa (qm (qj K) (pv 0) qc (fun _ _=>rfl)) qd)))) qy)
   (qg (qO (qw qS (pv 1) qM (qu _)) (qi (qp (q1n wU hr (by decide) rfl (qa (qm (qj K) (pv 0) qc (fun _ _=>rfl)) qd)))) qy)
   (qg (qO (qw qS (pv 1) qM (qu _)) (qi (qp (q1n vi hr (by decide) rfl (qa (qm (qj K) (pv 0) qc (fun _ _=>rfl)) qd)))) qy)
   (qg (qO (qw qS (pv 1) qM (qu _)) (qi (qp (q1n wT hr (by decide) rfl (qa (qm (qj K) (pv 0) qc (fun _ _=>rfl)) (qa (qm (qj K) (pv 0) qc (fun _ _=>rfl)) qd))))) qy)
   (qg (qO (qw qS (pv 1) qM (qu _)) (qi (qp (q1n wL hr (by decide) rfl (qa (qm (qj K) (pv 0) qc (fun _ _=>rfl)) qd)))) qy)
   (qi q6Z)))))))),?_⟩
  have hp':=hp
  rw[Gt.vs_eq] at hp'
  walk_at "r"
  refine ifd (fun h1=>?_) (fun h1=>?_)
  ·cases g<;>first|exact absurd h1 (by simp only[Gt.word];walk_at "k")|skip
   walk_at "r"
   exact fun x dx hx hdx ne=>q2y hx hdx ne k
  walk_at "r"
  refine ifd (fun h2=>?_) (fun h2=>?_)
  ·cases g<;>first|exact absurd h2 (by simp only[Gt.word];walk_at "k")|skip
   walk_at "r"
   exact fun x dx hx hdx ne=>q2y hx hdx ne k
  walk_at "r"
  refine ifd (fun h3=>?_) (fun h3=>?_)
  ·cases g<;>first|exact absurd h3 (by simp only[Gt.word];walk_at "k")|skip
   walk_at "r"
   exact fun x dx hx hdx ne=>q2y hx hdx ne k
  walk_at "r"
  refine ifd (fun h4=>?_) (fun h4=>?_)
  ·cases g<;>first|exact absurd h4 (by simp only[Gt.word];walk_at "k")|skip
   walk_at "r"
   exact fun x dx hx hdx ne=>q2y hx hdx ne k
  walk_at "r"
  refine ifd (fun h5=>?_) (fun h5=>?_)
  ·cases g<;>first|exact absurd h5 (by simp only[Gt.word];walk_at "k")|skip
   walk_at "r"
   exact fun x dx hx hdx ne=>q2y hx hdx ne k
  walk_at "r"
  refine ifd (fun h6=>?_) (fun h6=>?_)
  ·cases g<;>first|exact absurd h6 (by simp only[Gt.word];walk_at "k")|skip
   walk_at "r"
   exact fun x dx hx hdx ne=>q2y hx hdx ne k
  cases g
  ·exact absurd rfl h1
  ·exact absurd rfl h2
  ·exact absurd rfl h3
  ·exact absurd rfl h4
  ·exact absurd rfl h5
  ·exact absurd rfl h6
theorem q4y (T:Txt mg cs)(TC:Tcl K cs)(L:LaidM K cs.Plain "lets" "Plain.lets" q1u ["self","held","opened","bars","water"]):VMeth P w K mg base 2 cs.Plain "lets" ["self","held","opened","bars","water"] (q3r cs "plain"):=by
 refine L.vm (k:=1) TC.cl_Plain q4J (fun vs H Q E h=>?_) (fun f cdv A outer s H vs Q E hr h=>?_)
 ·obtain ⟨p,hl,g,fn,op,bars,wt,rfl,_⟩:=h
  rfl
 ·obtain ⟨p,hl,g,fn,op,bars,wt,rfl,hw,ho,ok,hh,k⟩:=h
  obtain⟨dx,q,hp,hq⟩:=ho.ex
  cases g<;>first|exact absurd hw (by simp only[Gt.word];walk_at "k")|skip
  refine⟨_,(qi (qp q1D)),?_⟩
  walk_at "r"
  exact k
theorem q58 (T:Txt mg cs)(TC:Tcl K cs)(L:LaidM K cs.Door "lets" "Door.lets" q2a ["self","held","opened","bars","water"]):VMeth P w K mg base 2 cs.Door "lets" ["self","held","opened","bars","water"] (q3r cs "door"):=by
 refine L.vm (k:=1) TC.cl_Door q5H (fun vs H Q E h=>?_) (fun f cdv A outer s H vs Q E hr h=>?_)
 ·obtain ⟨p,hl,g,fn,op,bars,wt,rfl,_⟩:=h
  rfl
 ·obtain ⟨p,hl,g,fn,op,bars,wt,rfl,hw,ho,ok,hh,k⟩:=h
  obtain⟨dx,q,hp,hq⟩:=ho.ex
  cases g<;>first|exact absurd hw (by simp only[Gt.word];walk_at "k")|skip
  rename_i n
  refine⟨_,(qi (qp (pv 2))),?_⟩
  walk_at "r"
  exact k
theorem q57 (T:Txt mg cs)(TC:Tcl K cs)(L:LaidM K cs.Need "lets" "Need.lets" q27 ["self","held","opened","bars","water"]):VMeth P w K mg base 2 cs.Need "lets" ["self","held","opened","bars","water"] (q3r cs "need"):=by
 refine L.vm (k:=1) TC.cl_Need q5E (fun vs H Q E h=>?_) (fun f cdv A outer s H vs Q E hr h=>?_)
 ·obtain ⟨p,hl,g,fn,op,bars,wt,rfl,_⟩:=h
  rfl
 ·obtain ⟨p,hl,g,fn,op,bars,wt,rfl,hw,ho,ok,hh,k⟩:=h
  obtain⟨dx,q,hp,hq⟩:=ho.ex
  cases g<;>first|exact absurd hw (by simp only[Gt.word];walk_at "k")|skip
  rename_i n
  refine⟨_,(qi (qp (qR q4j (qm (q0d K) (pv 1) (q0w K (pv 0) rfl) (fun _ _=>rfl)) qc (qu _)))),?_⟩
  have ok':0<=n/\n<12:=ok
  walk_at "r"
  refine q1G hp TC.cl_Need TC.no_Need_kind (qaN q n) ?_
  refine q6o (SqL.of hh) (q9s ok'.1 ok'.2) ?_
  walk_at "r"
  exact k
theorem q6a (T:Txt mg cs)(TC:Tcl K cs)(L:LaidM K cs.Bar "lets" "Bar.lets" q2w ["self","held","opened","bars","water"])(wg:Cal P w K mg base 1 "has_bit" ["bits","place"] q6h):VMeth P w K mg base 2 cs.Bar "lets" ["self","held","opened","bars","water"] (q3r cs "bar"):=by
 refine L.vm (k:=1) TC.cl_Bar q6l (fun vs H Q E h=>?_) (fun f cdv A outer s H vs Q E hr h=>?_)
 ·obtain ⟨p,hl,g,fn,op,bars,wt,rfl,_⟩:=h
  rfl
 ·obtain ⟨p,hl,g,fn,op,bars,wt,rfl,hw,ho,ok,hh,k⟩:=h
  obtain⟨dx,q,hp,hq⟩:=ho.ex
  cases g<;>first|exact absurd hw (by simp only[Gt.word];walk_at "k")|skip
  rename_i n
  refine⟨_,(qi (qp (qB wg hr (by decide) rfl (qa (pv 3) (qa (q0w K (pv 0) rfl) qd))))),?_⟩
  have ok':0<=n/\n<8:=ok
  walk_at "r"
  refine q1G hp TC.cl_Bar TC.no_Bar_bar (qcC q n) ?_
  walk_at "r"
  exact⟨bars,n,rfl,ok'.1,k⟩
theorem q56 (T:Txt mg cs)(TC:Tcl K cs)(L:LaidM K cs.Wade "lets" "Wade.lets" q1Q ["self","held","opened","bars","water"]):VMeth P w K mg base 2 cs.Wade "lets" ["self","held","opened","bars","water"] (q3r cs "wade"):=by
 refine L.vm (k:=1) TC.cl_Wade q5u (fun vs H Q E h=>?_) (fun f cdv A outer s H vs Q E hr h=>?_)
 ·obtain ⟨p,hl,g,fn,op,bars,wt,rfl,_⟩:=h
  rfl
 ·obtain ⟨p,hl,g,fn,op,bars,wt,rfl,hw,ho,ok,hh,k⟩:=h
  obtain⟨dx,q,hp,hq⟩:=ho.ex
  cases g<;>first|exact absurd hw (by simp only[Gt.word];walk_at "k")|skip
  rename_i n1 n2
  refine⟨_,(qi (qp (qaa (qR qag (pv 4) (q0w K (pv 0) rfl) (qu _)) (q2F (qR q4j (qm (q0d K) (pv 1) (q0w K (pv 0) rfl) (fun _ _=>rfl)) qc (qu _)))))),?_⟩
  have ok':(0<=n1/\n1<10)/\0<=n2/\n2<12:=ok
  walk_at "r"
  refine q1G hp TC.cl_Wade TC.no_Wade_height (qaM q n1 n2) ?_
  walk_at "r"
  have k':Q (.bl (decide (wt<=n1)||decide (0<fn n2))) H:=k
  refine ifd (fun h1=>?_) (fun h1=>?_)
  ·rw [zr h1,Bool.true_or] at k'
   exact k'
  ·rw [zq h1,zb9] at k'
   walk_at "r"
   refine q1G hp TC.cl_Wade TC.no_Wade_kind (qaL q n1 n2) ?_
   refine q6o (SqL.of hh) (q9s ok'.2.1 ok'.2.2) ?_
   walk_at "r"
   exact k'
theorem q4z (T:Txt mg cs)(TC:Tcl K cs)(L:LaidM K cs.Float "lets" "Float.lets" q1w ["self","held","opened","bars","water"]):VMeth P w K mg base 2 cs.Float "lets" ["self","held","opened","bars","water"] (q3r cs "float"):=by
 refine L.vm (k:=1) TC.cl_Float q4L (fun vs H Q E h=>?_) (fun f cdv A outer s H vs Q E hr h=>?_)
 ·obtain ⟨p,hl,g,fn,op,bars,wt,rfl,_⟩:=h
  rfl
 ·obtain ⟨p,hl,g,fn,op,bars,wt,rfl,hw,ho,ok,hh,k⟩:=h
  obtain⟨dx,q,hp,hq⟩:=ho.ex
  cases g<;>first|exact absurd hw (by simp only[Gt.word];walk_at "k")|skip
  rename_i n
  refine⟨_,(qi (qp (qR q7w (pv 4) (q0w K (pv 0) rfl) (qu _)))),?_⟩
  walk_at "r"
  refine q1G hp TC.cl_Float TC.no_Float_height (q97 q n) ?_
  walk_at "r"
  exact k
def dcls (cs:Cs):Wd->Addr
 | .go=>cs.Go
 | .pull=>cs.Pull
 | .take=>cs.Take
 | .turn=>cs.Turn
 | .unlock=>cs.Unlock
def dfl (d:Wd)(n:Int):List (Str×V):=putF "part" (.int d.part) (putF "number" (.int n) (putF "word" (.str d.str) []))
theorem qcK (d:Wd)(n:Int):(dfl d n).lookup ("word":Str)=some (.str d.str):=by
 unfold dfl;simp only[qQ];repeat (first|rw[if_pos rfl]|rw[if_pos trivial]|rw[if_neg (by walk_at "k")])
theorem q0h (d:Wd)(n:Int):(dfl d n).lookup ("number":Str)=some (.int n):=by
 unfold dfl;simp only[qQ];repeat (first|rw[if_pos rfl]|rw[if_pos trivial]|rw[if_neg (by walk_at "k")])
theorem q9f (d:Wd)(n:Int):(dfl d n).lookup ("part":Str)=some (.int d.part):=by
 unfold dfl;simp only[qQ];repeat (first|rw[if_pos rfl]|rw[if_pos trivial]|rw[if_neg (by walk_at "k")])
theorem q40 (d:Wd)(n:Int){m:Str}(h1:m≠"part")(h2:m≠"number")(h3:m≠"word"):(dfl d n).lookup m=none:=by
 unfold dfl;simp only[qQ];rw[if_neg h1,if_neg h2,if_neg h3];rfl
theorem qbk (d:Wd)(n:Int):(dfl d n).lookup ("can":Str)=none:=q40 d n (by walk_at "k") (by walk_at "k") (by walk_at "k")
theorem qcM (d:Wd)(n:Int):(dfl d n).lookup ("fits":Str)=none:=q40 d n (by walk_at "k") (by walk_at "k") (by walk_at "k")
theorem q9g (d:Wd)(n:Int):(dfl d n).lookup ("done":Str)=none:=q40 d n (by walk_at "k") (by walk_at "k") (by walk_at "k")
theorem qcL (d:Wd)(n:Int):(dfl d n).lookup ("told":Str)=none:=q40 d n (by walk_at "k") (by walk_at "k") (by walk_at "k")
theorem q3z (d:Wd)(n:Int):(dfl d n).lookup ("own_part":Str)=none:=q40 d n (by walk_at "k") (by walk_at "k") (by walk_at "k")
structure DObj (cs:Cs)(H:Hp)(p:Addr)(d:Wd)(n:Int):Prop where
 ex:∃dx,H p=some (.ins (dcls cs d) dx (dfl d n))
theorem DObj.mono {cs:Cs}{H H':Hp}{p:Addr}{d:Wd}{n:Int}(s:Same H H')(h:DObj cs H p d n):DObj cs H' p d n:=let ⟨dx,h1⟩:=h.ex;⟨dx,s _ _ h1⟩
structure DCl (K:W.Frag)(cs:Cs)(d:Wd):Prop where
 cl:Cls K (dcls cs d)
 nw:qK K (dcls cs d) "word"
 nn:qK K (dcls cs d) "number"
 np:qK K (dcls cs d) "part"
theorem q2L {K:W.Frag}{cs:Cs}(TC:Tcl K cs)(d:Wd):DCl K cs d:=by
 cases d
 ·exact ⟨TC.cl_Go,TC.no_Go_word,TC.no_Go_number,TC.no_Go_part⟩
 ·exact ⟨TC.cl_Pull,TC.no_Pull_word,TC.no_Pull_number,TC.no_Pull_part⟩
 ·exact ⟨TC.cl_Take,TC.no_Take_word,TC.no_Take_number,TC.no_Take_part⟩
 ·exact ⟨TC.cl_Turn,TC.no_Turn_word,TC.no_Turn_number,TC.no_Turn_part⟩
 ·exact ⟨TC.cl_Unlock,TC.no_Unlock_word,TC.no_Unlock_number,TC.no_Unlock_part⟩
def RowAt (H:Hp)(C:Cl)(i:Nat)(r:Addr):Wd->Prop
 | .go=>∃x,C.ways[i]? =some x/\q2t H r x
 | .pull=>∃x,C.levers[i]? =some x/\q05 H r x
 | .take=>∃x,C.things[i]? =some x/\q05 H r x
 | .turn=>∃x,C.wheels[i]? =some x/\q05 H r x
 | .unlock=>∃x,C.ways[i]? =some x/\q2t H r x
def q2W:Sp:=fun vs H Q _=>∃n a b:Int,vs=[.int n,.int a,.int b]/\Q (.bl (decide (a<=n)&&decide (n<=b))) H
def q4F:Sp:=fun vs H Q _=>∃(r:Addr) (x:Way) (rm:Int),vs=[.ref r,.int rm]/\q2t H r x/\Q (.bl (q0W x rm)) H
def q6f:Sp:=fun vs H Q _=>∃(q:Addr) (s:Sd) (j:Nat) (n:Int),vs=[.ref q,.int j,.int n]/\j<5/\H q=some (.tup s.vs)/\∀(r:Addr) (H':Hp),Same H H'->H' r=some (.tup (s.vs.set j (.int n)))->Q (.ref r) H'
def q2N (K:W.Frag):Sp:=fun vs H Q _=>∃(p C dx:Addr) (z:Str) (n t:Int),vs=[.ref p,.str z,.int n,.int t]/\H p=some (.ins C dx [])/\Cls K C/\qK K C "word"/\qK K C "number"/\qK K C "part"/\Q .non (upd H p (.ins C dx (putF "part" (.int t) (putF "number" (.int n) (putF "word" (.str z) [])))))
def q1r (cs:Cs)(d:Wd):Sp:=fun vs H Q _=>∃(p dx:Addr) (n:Int),vs=[.ref p,.int n]/\H p=some (.ins (dcls cs d) dx [])/\∀H',(∀b o,H b=some o->b≠p->H' b=some o)->DObj cs H' p d n->Q .non H'
def q4a (cs:Cs)(d:Wd):Sp:=fun vs H Q _=>∃(p c:Addr) (C:Cl) (i:Nat),vs=[.ref p,.ref c]/\DObj cs H p d i/\ClAt H c C/\i<C.num d/\∀r,RowAt H C i r d->Q (.ref r) H
def q3N (cs:Cs)(d:Wd):Sp:=fun vs H Q _=>∃(p c q:Addr) (C:Cl) (s:Sd) (i:Nat),vs=[.ref p,.ref c,.ref q]/\DObj cs H p d i/\ClAt H c C/\ClOk C/\H q=some (.tup s.vs)/\s.ok C/\i<C.num d/\∀H',Same H H'->Q (.bl (canB C s i d)) H'
def q9R (cs:Cs)(d:Wd):Sp:=fun vs H Q _=>∃(p c q:Addr) (C:Cl) (s:Sd) (n:Int),vs=[.ref p,.ref c,.ref q]/\DObj cs H p d n/\ClAt H c C/\ClOk C/\H q=some (.tup s.vs)/\s.ok C/\∀H',Same H H'->Q (.bl (canD C s d n)) H'
def q3s (cs:Cs)(d:Wd):Sp:=fun vs H Q _=>∃(p c q:Addr) (C:Cl) (s:Sd) (n:Int),vs=[.ref p,.ref c,.ref q]/\DObj cs H p d n/\ClAt H c C/\ClOk C/\H q=some (.tup s.vs)/\s.ok C/\canD C s d n=true/\∀(r:Addr) (H':Hp),Same H H'->H' r=some (.tup (q1p C s d n).vs)->Q (.ref r) H'
def q6e (cs:Cs)(d:Wd):Sp:=fun vs H Q _=>∃(p:Addr) (n:Int),vs=[.ref p]/\DObj cs H p d n/\∀(r:Addr) (H':Hp),Same H H'->H' r=some (.tup [.str d.str,.int n])->Q (.ref r) H'
def qbA (cs:Cs):Sp:=fun vs H Q _=>∃(t:Addr) (d:Wd) (n:Int),vs=[.ref t]/\H t=some (.tup [.str d.str,.int n])/\∀(x:Addr) (H':Hp),Same H H'->H x=none->DObj cs H' x d n->Q (.ref x) H'
theorem q8I (T:Txt mg cs)(L:Laid K mg "within" q3E ["number","least","most"]):Cal P w K mg base 1 "within" ["number","least","most"] q2W:=by
 refine L.cal (k:=0) q8f (fun vs H Q E h=>?_) (fun f cdv A outer s H vs Q E hr h=>?_)
 ·obtain ⟨n,a,b,rfl,_⟩:=h
  rfl
 ·obtain ⟨n,a,b,rfl,k⟩:=h
  refine⟨_,(qg (qO (PW.pt (q2O (q0J (qD q44 rfl T.va q2f (qa (pv 0) (qa (q6q (v:= .ty "bool") rfl T.waU q9D rfl) qd)))) (q2j (q2k (q0J (qD q44 rfl T.va q2f (qa (pv 0) (qa (q6q (v:= .ty "int") rfl T.waO q9C rfl) qd)))))))) (qi (qp q1D)) qy)
   (qi (qp (qae qag qag (pv 1) (pv 0) (pv 2))))),?_⟩
  walk_at "r"
  refine ifd (fun h=>?_) (fun h=>?_)
  ·walk_at "r"
   rw[zr h,zaI] at k
   exact k
  ·rw [zq h,za3] at k
   exact k
theorem qap (T:Txt mg cs)(L:Laid K mg "can_enter" q1L ["way","room"]):Cal P w K mg base 1 "can_enter" ["way","room"] q4F:=by
 obtain⟨t1,w4⟩:=T.w4
 obtain⟨t2,ve⟩:=T.ve
 obtain⟨t3,vw⟩:=T.vw
 refine L.cal (k:=0) q5s (fun vs H Q E h=>?_) (fun f cdv A outer s H vs Q E hr h=>?_)
 ·obtain ⟨r,x,rm,rfl,_⟩:=h
  rfl
 ·obtain ⟨r,x,rm,rfl,hW,k⟩:=h
  obtain⟨g,hr1,hg⟩:=hW
  unfold q0W at k
  refine⟨_,(qi (qp (qaa (qR qS (pv 1) (qm (qj K) (pv 0) (qx (v:= .int 0) rfl w4 ⟨_,rfl⟩) (fun _ _=>rfl)) (qu _)) (q2F (q2G (qR qS (pv 1) (qm (qj K) (pv 0) (qx (v:= .int 1) rfl ve ⟨_,rfl⟩) (fun _ _=>rfl)) (qu _)) (q2F (qm (qj K) (pv 0) (qx (v:= .int 3) rfl vw ⟨_,rfl⟩) (fun _ _=>rfl)))))))),?_⟩
  walk_at "r"
  refine ifd (fun h=>?_) (fun h=>?_)
  ·rw [zr h,Bool.true_or] at k
   exact k
  ·rw [zq h,zb9] at k
   walk_at "r"
   refine ifd (fun h=>?_) (fun h=>?_)
   ·rw [zr h,zaI] at k
    walk_at "r"
    exact k
   ·rw [zq h,za3] at k
    exact k
theorem q7A (T:Txt mg cs)(L:Laid K mg "changed" q31 ["parts","place","part"]):Cal P w K mg base 1 "changed" ["parts","place","part"] q6f:=by
 refine L.cal (k:=0) q7r (fun vs H Q E h=>?_) (fun f cdv A outer s H vs Q E hr h=>?_)
 ·obtain ⟨q,s,j,n,rfl,_⟩:=h
  rfl
 ·obtain ⟨q,st,j,n,rfl,hj,hq,k⟩:=h
  have big:=qF
  refine⟨_,(qi (qp (qk (q0s K) (qk (q0s K) (qE (q0l K) (pv 0) qP (qH (pv 1))) (qz (qa (pv 2) qd))) (qE (q0l K) (pv 0) (qH (qk q03 (pv 1) qc)) qP)))),?_⟩
  obtain rfl|rfl|rfl|rfl|rfl:j=0\/j=1\/j=2\/j=3\/j=4:=by omega
  ·walk_at "r"
   refine⟨q,_,rfl,SqT.of hq,fun e=>absurd (show(0:Nat)=5 from zae List.length e) (by decide),fun t1 ht1=>?_⟩
   have s1:=Same.upd (o:= .tup (cutV st.vs none (some ((0:Nat):Int)))) ht1
   have h1:(upd H t1 (.tup (cutV st.vs none (some ((0:Nat):Int))))) t1=some (.tup []):=qe
   generalize upd H t1 (.tup (cutV st.vs none (some ((0:Nat):Int))))=H1 at s1 h1 ⊢
   walk_at "r"
   intro t2 ht2
   have s2:=Same.upd (o:= .tup [.int n]) ht2
   have h2:=qe (H:=H1) (a:=t2) (o:= .tup [.int n])
   have h12:=s2 _ _ h1
   generalize upd H1 t2 (.tup [.int n])=H2 at s2 h2 h12 ⊢
   refine qbQ (SqT.of h12) (SqT.of h2) (by show 1<=sizeLine;omega) ?_
   have hq2:=s2 _ _ (s1 _ _ hq)
   walk_at "r"
   refine⟨q,_,rfl,SqT.of hq2,fun e=>absurd (show(4:Nat)=5 from zae List.length e) (by decide),fun t3 ht3=>?_⟩
   have s3:=Same.upd (o:= .tup (cutV st.vs (some (((0:Nat):Int)+1)) none)) ht3
   have h3:(upd H2 t3 (.tup (cutV st.vs (some (((0:Nat):Int)+1)) none))) t3=some (.tup [.int st.tk,.int st.op,.int st.b,.int st.wt]):=qe
   generalize upd H2 t3 (.tup (cutV st.vs (some (((0:Nat):Int)+1)) none))=H3 at s3 h3 ⊢
   refine q2o (SqT.of (s3 _ _ h2)) (SqT.of h3) rfl fun t4 ht4=>?_
   exact k t4 _ (((s1.trans s2).trans s3).trans (Same.upd ht4)) qe
  ·walk_at "r"
   refine⟨q,_,rfl,SqT.of hq,fun e=>absurd (show(1:Nat)=5 from zae List.length e) (by decide),fun t1 ht1=>?_⟩
   have s1:=Same.upd (o:= .tup (cutV st.vs none (some ((1:Nat):Int)))) ht1
   have h1:(upd H t1 (.tup (cutV st.vs none (some ((1:Nat):Int))))) t1=some (.tup [.int st.rm]):=qe
   generalize upd H t1 (.tup (cutV st.vs none (some ((1:Nat):Int))))=H1 at s1 h1 ⊢
   walk_at "r"
   intro t2 ht2
   have s2:=Same.upd (o:= .tup [.int n]) ht2
   have h2:=qe (H:=H1) (a:=t2) (o:= .tup [.int n])
   have h12:=s2 _ _ h1
   generalize upd H1 t2 (.tup [.int n])=H2 at s2 h2 h12 ⊢
   refine q2o (SqT.of h12) (SqT.of h2) rfl fun t5 ht5=>?_
   have s5:=Same.upd (o:= .tup [.int st.rm,.int n]) ht5
   have h5:=qe (H:=H2) (a:=t5) (o:= .tup [.int st.rm,.int n])
   have hq2:=s5 _ _ (s2 _ _ (s1 _ _ hq))
   show(tSl _ _ _ _) _ (upd H2 t5 (.tup [.int st.rm,.int n])) _
   generalize upd H2 t5 (.tup [.int st.rm,.int n])=H5 at s5 h5 hq2 ⊢
   walk_at "r"
   refine⟨q,_,rfl,SqT.of hq2,fun e=>absurd (show(3:Nat)=5 from zae List.length e) (by decide),fun t3 ht3=>?_⟩
   have s3:=Same.upd (o:= .tup (cutV st.vs (some (((1:Nat):Int)+1)) none)) ht3
   have h3:(upd H5 t3 (.tup (cutV st.vs (some (((1:Nat):Int)+1)) none))) t3=some (.tup [.int st.op,.int st.b,.int st.wt]):=qe
   generalize upd H5 t3 (.tup (cutV st.vs (some (((1:Nat):Int)+1)) none))=H3 at s3 h3 ⊢
   refine q2o (SqT.of (s3 _ _ h5)) (SqT.of h3) rfl fun t4 ht4=>?_
   exact k t4 _ ((((s1.trans s2).trans s5).trans s3).trans (Same.upd ht4)) qe
  ·walk_at "r"
   refine⟨q,_,rfl,SqT.of hq,fun e=>absurd (show(2:Nat)=5 from zae List.length e) (by decide),fun t1 ht1=>?_⟩
   have s1:=Same.upd (o:= .tup (cutV st.vs none (some ((2:Nat):Int)))) ht1
   have h1:(upd H t1 (.tup (cutV st.vs none (some ((2:Nat):Int))))) t1=some (.tup [.int st.rm,.int st.tk]):=qe
   generalize upd H t1 (.tup (cutV st.vs none (some ((2:Nat):Int))))=H1 at s1 h1 ⊢
   walk_at "r"
   intro t2 ht2
   have s2:=Same.upd (o:= .tup [.int n]) ht2
   have h2:=qe (H:=H1) (a:=t2) (o:= .tup [.int n])
   have h12:=s2 _ _ h1
   generalize upd H1 t2 (.tup [.int n])=H2 at s2 h2 h12 ⊢
   refine q2o (SqT.of h12) (SqT.of h2) rfl fun t5 ht5=>?_
   have s5:=Same.upd (o:= .tup [.int st.rm,.int st.tk,.int n]) ht5
   have h5:=qe (H:=H2) (a:=t5) (o:= .tup [.int st.rm,.int st.tk,.int n])
   have hq2:=s5 _ _ (s2 _ _ (s1 _ _ hq))
   show(tSl _ _ _ _) _ (upd H2 t5 (.tup [.int st.rm,.int st.tk,.int n])) _
   generalize upd H2 t5 (.tup [.int st.rm,.int st.tk,.int n])=H5 at s5 h5 hq2 ⊢
   walk_at "r"
   refine⟨q,_,rfl,SqT.of hq2,fun e=>absurd (show(2:Nat)=5 from zae List.length e) (by decide),fun t3 ht3=>?_⟩
   have s3:=Same.upd (o:= .tup (cutV st.vs (some (((2:Nat):Int)+1)) none)) ht3
   have h3:(upd H5 t3 (.tup (cutV st.vs (some (((2:Nat):Int)+1)) none))) t3=some (.tup [.int st.b,.int st.wt]):=qe
   generalize upd H5 t3 (.tup (cutV st.vs (some (((2:Nat):Int)+1)) none))=H3 at s3 h3 ⊢
   refine q2o (SqT.of (s3 _ _ h5)) (SqT.of h3) rfl fun t4 ht4=>?_
   exact k t4 _ ((((s1.trans s2).trans s5).trans s3).trans (Same.upd ht4)) qe
  ·walk_at "r"
   refine⟨q,_,rfl,SqT.of hq,fun e=>absurd (show(3:Nat)=5 from zae List.length e) (by decide),fun t1 ht1=>?_⟩
   have s1:=Same.upd (o:= .tup (cutV st.vs none (some ((3:Nat):Int)))) ht1
   have h1:(upd H t1 (.tup (cutV st.vs none (some ((3:Nat):Int))))) t1=some (.tup [.int st.rm,.int st.tk,.int st.op]):=qe
   generalize upd H t1 (.tup (cutV st.vs none (some ((3:Nat):Int))))=H1 at s1 h1 ⊢
   walk_at "r"
   intro t2 ht2
   have s2:=Same.upd (o:= .tup [.int n]) ht2
   have h2:=qe (H:=H1) (a:=t2) (o:= .tup [.int n])
   have h12:=s2 _ _ h1
   generalize upd H1 t2 (.tup [.int n])=H2 at s2 h2 h12 ⊢
   refine q2o (SqT.of h12) (SqT.of h2) rfl fun t5 ht5=>?_
   have s5:=Same.upd (o:= .tup [.int st.rm,.int st.tk,.int st.op,.int n]) ht5
   have h5:=qe (H:=H2) (a:=t5) (o:= .tup [.int st.rm,.int st.tk,.int st.op,.int n])
   have hq2:=s5 _ _ (s2 _ _ (s1 _ _ hq))
   show(tSl _ _ _ _) _ (upd H2 t5 (.tup [.int st.rm,.int st.tk,.int st.op,.int n])) _
   generalize upd H2 t5 (.tup [.int st.rm,.int st.tk,.int st.op,.int n])=H5 at s5 h5 hq2 ⊢
   walk_at "r"
   refine⟨q,_,rfl,SqT.of hq2,fun e=>absurd (show(1:Nat)=5 from zae List.length e) (by decide),fun t3 ht3=>?_⟩
   have s3:=Same.upd (o:= .tup (cutV st.vs (some (((3:Nat):Int)+1)) none)) ht3
   have h3:(upd H5 t3 (.tup (cutV st.vs (some (((3:Nat):Int)+1)) none))) t3=some (.tup [.int st.wt]):=qe
   generalize upd H5 t3 (.tup (cutV st.vs (some (((3:Nat):Int)+1)) none))=H3 at s3 h3 ⊢
   refine q2o (SqT.of (s3 _ _ h5)) (SqT.of h3) rfl fun t4 ht4=>?_
   exact k t4 _ ((((s1.trans s2).trans s5).trans s3).trans (Same.upd ht4)) qe
  ·walk_at "r"
   refine⟨q,_,rfl,SqT.of hq,fun e=>absurd (show(4:Nat)=5 from zae List.length e) (by decide),fun t1 ht1=>?_⟩
   have s1:=Same.upd (o:= .tup (cutV st.vs none (some ((4:Nat):Int)))) ht1
   have h1:(upd H t1 (.tup (cutV st.vs none (some ((4:Nat):Int))))) t1=some (.tup [.int st.rm,.int st.tk,.int st.op,.int st.b]):=qe
   generalize upd H t1 (.tup (cutV st.vs none (some ((4:Nat):Int))))=H1 at s1 h1 ⊢
   walk_at "r"
   intro t2 ht2
   have s2:=Same.upd (o:= .tup [.int n]) ht2
   have h2:=qe (H:=H1) (a:=t2) (o:= .tup [.int n])
   have h12:=s2 _ _ h1
   generalize upd H1 t2 (.tup [.int n])=H2 at s2 h2 h12 ⊢
   refine q2o (SqT.of h12) (SqT.of h2) rfl fun t5 ht5=>?_
   have s5:=Same.upd (o:= .tup [.int st.rm,.int st.tk,.int st.op,.int st.b,.int n]) ht5
   have h5:=qe (H:=H2) (a:=t5) (o:= .tup [.int st.rm,.int st.tk,.int st.op,.int st.b,.int n])
   have hq2:=s5 _ _ (s2 _ _ (s1 _ _ hq))
   show(tSl _ _ _ _) _ (upd H2 t5 (.tup [.int st.rm,.int st.tk,.int st.op,.int st.b,.int n])) _
   generalize upd H2 t5 (.tup [.int st.rm,.int st.tk,.int st.op,.int st.b,.int n])=H5 at s5 h5 hq2 ⊢
   walk_at "r"
   refine⟨q,_,rfl,SqT.of hq2,fun e=>absurd (show(0:Nat)=5 from zae List.length e) (by decide),fun t3 ht3=>?_⟩
   have s3:=Same.upd (o:= .tup (cutV st.vs (some (((4:Nat):Int)+1)) none)) ht3
   have h3:(upd H5 t3 (.tup (cutV st.vs (some (((4:Nat):Int)+1)) none))) t3=some (.tup []):=qe
   generalize upd H5 t3 (.tup (cutV st.vs (some (((4:Nat):Int)+1)) none))=H3 at s3 h3 ⊢
   refine qbP (SqT.of (s3 _ _ h5)) (SqT.of h3) (by show 5<=sizeLine;omega) ?_
   exact k t5 _ (((s1.trans s2).trans s5).trans s3) (s3 _ _ h5)
theorem qaq (T:Txt mg cs)(L:LaidC K mg "Deed" "__init__" "Deed.__init__" q2c ["self","word","number","part"]):CCal P w K mg base 1 "Deed" "__init__" ["self","word","number","part"] (q2N K):=by
 refine L.cc (k:=0) q5K (fun vs H Q E h=>?_) (fun f cdv A outer s H vs Q E hr h=>?_)
 ·obtain ⟨p,C,dx,z,n,t,rfl,_⟩:=h
  rfl
 ·obtain ⟨p,C,dx,z,n,t,rfl,hp,cl,nw,nn,np,k⟩:=h
  refine⟨_,(qg (q1C K (pv 0) (pv 1) rfl)
   (qg (q1C K (pv 0) (pv 2) rfl)
   (qi (q1C K (pv 0) (pv 3) rfl)))),?_⟩
  walk_at "r"
  refine q2E hp cl nw (by decide) ?_
  walk_at "r"
  refine q2E qe cl nn (by show 1<1000;decide) ?_
  walk_at "r"
  refine q2E qe cl np (by show 2<1000;decide) ?_
  rw[q2l,q2l]
  exact k
theorem q5S {H:Hp}{Q:VK}{p dx:Addr}{d:Wd}{n:Int}(k:∀H',(∀b o,H b=some o->b≠p->H' b=some o)->DObj cs H' p d n->Q .non H'):Q .non (upd H p (.ins (dcls cs d) dx (putF "part" (.int d.part) (putF "number" (.int n) (putF "word" (.str d.str) []))))):=
 k _ (fun b o hb hbp=>by rw[qq hbp];exact hb) ⟨dx,qe⟩
theorem mk_go (T:Txt mg cs)(TC:Tcl K cs)(L:LaidI K mg "Go" cs.Go "Go.__init__" q32 ["self","number"])(wf:CCal P w K mg base 1 "Deed" "__init__" ["self","word","number","part"] (q2N K)):Makes P w K mg base 2 "Go" cs.Go ["self","number"] (q1r cs .go):=by
 obtain⟨t1,wG⟩:=T.wG
 have D:=q2L TC .go
 refine L.makes (k:=1) q7s (fun vs H Q E h=>?_) (fun f cdv A outer s H vs Q E hr h=>?_)
 ·obtain ⟨p,dx,n,rfl,_⟩:=h
  rfl
 ·obtain ⟨p,dx,n,rfl,hp,k⟩:=h
  refine⟨_,(qi (q08 (q3S wf hr (by decide) rfl (qa (pv 0) (qa qM (qa (pv 1) (qa (qx (v:= .int 3) rfl wG ⟨_,rfl⟩) qd))))))),?_⟩
  walk_at "r"
  refine⟨p,_,dx,_,n,_,rfl,hp,D.cl,D.nw,D.nn,D.np,?_⟩
  walk_at "r"
  exact q5S k
theorem qcm (T:Txt mg cs)(TC:Tcl K cs)(L:LaidI K mg "Pull" cs.Pull "Pull.__init__" q1Y ["self","number"])(wf:CCal P w K mg base 1 "Deed" "__init__" ["self","word","number","part"] (q2N K)):Makes P w K mg base 2 "Pull" cs.Pull ["self","number"] (q1r cs .pull):=by
 obtain⟨t1,wY⟩:=T.wY
 have D:=q2L TC .pull
 refine L.makes (k:=1) q5B (fun vs H Q E h=>?_) (fun f cdv A outer s H vs Q E hr h=>?_)
 ·obtain ⟨p,dx,n,rfl,_⟩:=h
  rfl
 ·obtain ⟨p,dx,n,rfl,hp,k⟩:=h
  refine⟨_,(qi (q08 (q3S wf hr (by decide) rfl (qa (pv 0) (qa qM (qa (pv 1) (qa (qx (v:= .int 5) rfl wY ⟨_,rfl⟩) qd))))))),?_⟩
  walk_at "r"
  refine⟨p,_,dx,_,n,_,rfl,hp,D.cl,D.nw,D.nn,D.np,?_⟩
  walk_at "r"
  exact q5S k
theorem qcl (T:Txt mg cs)(TC:Tcl K cs)(L:LaidI K mg "Take" cs.Take "Take.__init__" q1V ["self","number"])(wf:CCal P w K mg base 1 "Deed" "__init__" ["self","word","number","part"] (q2N K)):Makes P w K mg base 2 "Take" cs.Take ["self","number"] (q1r cs .take):=by
 obtain⟨t1,wC⟩:=T.wC
 have D:=q2L TC .take
 refine L.makes (k:=1) q5y (fun vs H Q E h=>?_) (fun f cdv A outer s H vs Q E hr h=>?_)
 ·obtain ⟨p,dx,n,rfl,_⟩:=h
  rfl
 ·obtain ⟨p,dx,n,rfl,hp,k⟩:=h
  refine⟨_,(qi (q08 (q3S wf hr (by decide) rfl (qa (pv 0) (qa qM (qa (pv 1) (qa (qx (v:= .int 4) rfl wC ⟨_,rfl⟩) qd))))))),?_⟩
  walk_at "r"
  refine⟨p,_,dx,_,n,_,rfl,hp,D.cl,D.nw,D.nn,D.np,?_⟩
  walk_at "r"
  exact q5S k
theorem qck (T:Txt mg cs)(TC:Tcl K cs)(L:LaidI K mg "Turn" cs.Turn "Turn.__init__" q1S ["self","number"])(wf:CCal P w K mg base 1 "Deed" "__init__" ["self","word","number","part"] (q2N K)):Makes P w K mg base 2 "Turn" cs.Turn ["self","number"] (q1r cs .turn):=by
 obtain⟨t1,wZ⟩:=T.wZ
 have D:=q2L TC .turn
 refine L.makes (k:=1) q5w (fun vs H Q E h=>?_) (fun f cdv A outer s H vs Q E hr h=>?_)
 ·obtain ⟨p,dx,n,rfl,_⟩:=h
  rfl
 ·obtain ⟨p,dx,n,rfl,hp,k⟩:=h
  refine⟨_,(qi (q08 (q3S wf hr (by decide) rfl (qa (pv 0) (qa qM (qa (pv 1) (qa (qx (v:= .int 6) rfl wZ ⟨_,rfl⟩) qd))))))),?_⟩
  walk_at "r"
  refine⟨p,_,dx,_,n,_,rfl,hp,D.cl,D.nw,D.nn,D.np,?_⟩
  walk_at "r"
  exact q5S k
theorem q8M (T:Txt mg cs)(TC:Tcl K cs)(L:LaidI K mg "Unlock" cs.Unlock "Unlock.__init__" q1b ["self","number"])(wf:CCal P w K mg base 1 "Deed" "__init__" ["self","word","number","part"] (q2N K)):Makes P w K mg base 2 "Unlock" cs.Unlock ["self","number"] (q1r cs .unlock):=by
 obtain⟨t1,wG⟩:=T.wG
 have D:=q2L TC .unlock
 refine L.makes (k:=1) q4d (fun vs H Q E h=>?_) (fun f cdv A outer s H vs Q E hr h=>?_)
 ·obtain ⟨p,dx,n,rfl,_⟩:=h
  rfl
 ·obtain ⟨p,dx,n,rfl,hp,k⟩:=h
  refine⟨_,(qi (q08 (q3S wf hr (by decide) rfl (qa (pv 0) (qa qM (qa (pv 1) (qa (qx (v:= .int 3) rfl wG ⟨_,rfl⟩) qd))))))),?_⟩
  walk_at "r"
  refine⟨p,_,dx,_,n,_,rfl,hp,D.cl,D.nw,D.nn,D.np,?_⟩
  walk_at "r"
  exact q5S k
theorem q1I {H:Hp}{Q:VK}{d:Wd}{n:Int}{x dx:Addr}(hx:H x=none)(hdx:H dx=none)(ne:dx≠x)(k:∀(x:Addr) (H':Hp),Same H H'->H x=none->DObj cs H' x d n->Q (.ref x) H'):q1r cs d (.ref x::([.int n]++[])) (upd (upd H dx (.own x)) x (.ins (dcls cs d) dx [])) (fun v H2=>v= .non/\Q (.ref x) H2) E0:=by
 refine⟨x,dx,n,rfl,qe,fun H' hk ho=>⟨rfl,k x H' (fun b o hb=>?_) hx ho⟩⟩
 refine hk b o ?_ (qv hb hx)
 rw[qq (qv hb hx),qq (qv hb hdx)]
 exact hb
theorem q7z (T:Txt mg cs)(L:Laid K mg "deed_of" q30 ["deed"])(wS:Makes P w K mg base 2 "Go" cs.Go ["self","number"] (q1r cs .go))(wE:Makes P w K mg base 2 "Pull" cs.Pull ["self","number"] (q1r cs .pull))(wF:Makes P w K mg base 2 "Take" cs.Take ["self","number"] (q1r cs .take))
  (wH:Makes P w K mg base 2 "Turn" cs.Turn ["self","number"] (q1r cs .turn))(wu:Makes P w K mg base 2 "Unlock" cs.Unlock ["self","number"] (q1r cs .unlock)):Cal P w K mg base 4 "deed_of" ["deed"] (qbA cs):=by
 refine L.cal (k:=3) q4n (fun vs H Q E h=>?_) (fun f cdv A outer s H vs Q E hr h=>?_)
 ·obtain ⟨t,d,n,rfl,_⟩:=h
  rfl
 ·obtain ⟨t,d,n,rfl,ht,k⟩:=h
  refine⟨_,(qg (qC (i:=1) q4n.nd rfl (Or.inl rfl) (qm (qj K) (pv 0) qc (fun _ _=>rfl)))
   (qg (qO (qw qS (pv 1) qM (qu _)) (qi (qp (q1n wS hr (by decide) rfl (qa (qm (qj K) (pv 0) qc (fun _ _=>rfl)) qd)))) qy)
   (qg (qO (qw qS (pv 1) qM (qu _)) (qi (qp (q1n wE hr (by decide) rfl (qa (qm (qj K) (pv 0) qc (fun _ _=>rfl)) qd)))) qy)
   (qg (qO (qw qS (pv 1) qM (qu _)) (qi (qp (q1n wF hr (by decide) rfl (qa (qm (qj K) (pv 0) qc (fun _ _=>rfl)) qd)))) qy)
   (qg (qO (qw qS (pv 1) qM (qu _)) (qi (qp (q1n wH hr (by decide) rfl (qa (qm (qj K) (pv 0) qc (fun _ _=>rfl)) qd)))) qy)
   (qg (qO (qw qS (pv 1) qM (qu _)) (qi (qp (q1n wu hr (by decide) rfl (qa (qm (qj K) (pv 0) qc (fun _ _=>rfl)) qd)))) qy)
   (qi q6Z))))))),?_⟩
  walk_at "r"
  refine ifd (fun h1=>?_) (fun h1=>?_)
  ·cases d<;>first|exact absurd h1 (by walk_at "k")|skip
   walk_at "r"
   exact fun x dx hx hdx ne=>q1I hx hdx ne k
  walk_at "r"
  refine ifd (fun h2=>?_) (fun h2=>?_)
  ·cases d<;>first|exact absurd h2 (by walk_at "k")|skip
   walk_at "r"
   exact fun x dx hx hdx ne=>q1I hx hdx ne k
  walk_at "r"
  refine ifd (fun h3=>?_) (fun h3=>?_)
  ·cases d<;>first|exact absurd h3 (by walk_at "k")|skip
   walk_at "r"
   exact fun x dx hx hdx ne=>q1I hx hdx ne k
  walk_at "r"
  refine ifd (fun h4=>?_) (fun h4=>?_)
  ·cases d<;>first|exact absurd h4 (by walk_at "k")|skip
   walk_at "r"
   exact fun x dx hx hdx ne=>q1I hx hdx ne k
  walk_at "r"
  refine ifd (fun h5=>?_) (fun h5=>?_)
  ·cases d<;>first|exact absurd h5 (by walk_at "k")|skip
   walk_at "r"
   exact fun x dx hx hdx ne=>q1I hx hdx ne k
  cases d
  ·exact absurd rfl h1
  ·exact absurd rfl h2
  ·exact absurd rfl h3
  ·exact absurd rfl h4
  ·exact absurd rfl h5
theorem q55 {d:Wd}(L:LaidM K (dcls cs d) "own_part" "Deed.own_part" qJ ["self","cellar"])(D:DCl K cs d):VMeth P w K mg base 1 (dcls cs d) "own_part" ["self","cellar"] (q4a cs d):=by
 refine L.vm (k:=0) D.cl q3B (fun vs H Q E h=>?_) (fun f cdv A outer s H vs Q E hr h=>?_)
 ·obtain ⟨p,c,C,i,rfl,_⟩:=h
  rfl
 ·obtain ⟨p,c,C,i,rfl,ho,hC,hi,k⟩:=h
  obtain⟨dx,hp⟩:=ho.ex
  obtain⟨pw,pt,pl,pv',h0,hw,ht,hl,hv⟩:=hC.ex
  refine⟨_,(qi (qp (qm (qj K) (qm (qj K) (pv 1) (q0w K (pv 0) rfl) (fun _ _=>rfl)) (q0w K (pv 0) rfl) (fun _ _=>rfl)))),?_⟩
  walk_at "r"
  refine q1G hp D.cl D.np (q9f d i) ?_
  cases d
  ·obtain ⟨xs,hx,hxl,hxg⟩:=hw.get
   obtain⟨r,e,hr1⟩:=hxg i hi
   refine q3C (SqT.of h0) (v:= .ref pw) rfl ?_
   walk_at "r"
   refine q1G hp D.cl D.nn (q0h _ i) ?_
   refine q3C (SqT.of hx) (q0r e) ?_
   exact k r ⟨_,yB hi,hr1⟩
  ·obtain ⟨xs,hx,hxl,hxg⟩:=hl.get
   obtain⟨r,e,hr1⟩:=hxg i hi
   refine q3C (SqT.of h0) (v:= .ref pl) rfl ?_
   walk_at "r"
   refine q1G hp D.cl D.nn (q0h _ i) ?_
   refine q3C (SqT.of hx) (q0r e) ?_
   exact k r ⟨_,yB hi,hr1⟩
  ·obtain ⟨xs,hx,hxl,hxg⟩:=ht.get
   obtain⟨r,e,hr1⟩:=hxg i hi
   refine q3C (SqT.of h0) (v:= .ref pt) rfl ?_
   walk_at "r"
   refine q1G hp D.cl D.nn (q0h _ i) ?_
   refine q3C (SqT.of hx) (q0r e) ?_
   exact k r ⟨_,yB hi,hr1⟩
  ·obtain ⟨xs,hx,hxl,hxg⟩:=hv.get
   obtain⟨r,e,hr1⟩:=hxg i hi
   refine q3C (SqT.of h0) (v:= .ref pv') rfl ?_
   walk_at "r"
   refine q1G hp D.cl D.nn (q0h _ i) ?_
   refine q3C (SqT.of hx) (q0r e) ?_
   exact k r ⟨_,yB hi,hr1⟩
  ·obtain ⟨xs,hx,hxl,hxg⟩:=hw.get
   obtain⟨r,e,hr1⟩:=hxg i hi
   refine q3C (SqT.of h0) (v:= .ref pw) rfl ?_
   walk_at "r"
   refine q1G hp D.cl D.nn (q0h _ i) ?_
   refine q3C (SqT.of hx) (q0r e) ?_
   exact k r ⟨_,yB hi,hr1⟩
theorem num_at {H:Hp}{c:Addr}{C:Cl}(hC:ClAt H c C)(d:Wd):∃(vs:List V) (p:Addr) (xs:List V),H c=some (.tup vs)/\atI vs d.part=some (.ref p)/\H p=some (.tup xs)/\xs.length=C.num d/\atI vs 2=some (.int C.lst):=by
 obtain⟨pw,pt,pl,pv',h0,hw,ht,hl,hv⟩:=hC.ex
 cases d
 ·obtain ⟨xs,hx,hxl,_⟩:=hw.get
  exact⟨_,pw,xs,h0,rfl,hx,hxl,rfl⟩
 ·obtain ⟨xs,hx,hxl,_⟩:=hl.get
  exact⟨_,pl,xs,h0,rfl,hx,hxl,rfl⟩
 ·obtain ⟨xs,hx,hxl,_⟩:=ht.get
  exact⟨_,pt,xs,h0,rfl,hx,hxl,rfl⟩
 ·obtain ⟨xs,hx,hxl,_⟩:=hv.get
  exact⟨_,pv',xs,h0,rfl,hx,hxl,rfl⟩
 ·obtain ⟨xs,hx,hxl,_⟩:=hw.get
  exact⟨_,pw,xs,h0,rfl,hx,hxl,rfl⟩
theorem q5f {d:Wd}(T:Txt mg cs)(L:LaidM K (dcls cs d) "can" "Deed.can" q09 ["self","cellar","stand"])(D:DCl K cs d)(wy:Cal P w K mg base 1 "within" ["number","least","most"] q2W)(vf:VMeth P w K mg base 5 (dcls cs d) "fits" ["self","cellar","stand"] (q3N cs d)):VMeth P w K mg base 6 (dcls cs d) "can" ["self","cellar","stand"] (q9R cs d):=by
 obtain⟨t1,we⟩:=T.we
 obtain⟨t2,vz⟩:=T.vz
 refine L.vm (k:=5) D.cl q6k (fun vs H Q E h=>?_) (fun f cdv A outer s H vs Q E hr h=>?_)
 ·obtain ⟨p,c,q,C,st,n,rfl,_⟩:=h
  rfl
 ·obtain ⟨p,c,q,C,st,n,rfl,ho,hC,ok,hq,sok,k⟩:=h
  obtain⟨dx,hp⟩:=ho.ex
  obtain⟨vs,pp,xs,h0,hpp,hx,hxl,hlast⟩:=num_at hC d
  have hq':H q=some (.tup [.int st.rm,.int st.tk,.int st.op,.int st.b,.int st.wt]):=hq
  refine⟨_,(qg (qO (PW.pt (q2O (qw qS (qm (qj K) (pv 2) (qx (v:= .int 0) rfl we ⟨_,rfl⟩) (fun _ _=>rfl)) (qm (qj K) (pv 1) (qx (v:= .int 2) rfl vz ⟨_,rfl⟩) (fun _ _=>rfl)) (qu _)) (q2j (q2k (q0J (qB wy hr (by decide) rfl (qa (q0w K (pv 0) rfl) (qa qc (qa (qk q3x (qD (lenK K) rfl T.ww q0i (qa (qm (qj K) (pv 1) (q0w K (pv 0) rfl) (fun _ _=>rfl)) qd)) qc) qd))))))))) (qi (qp q1D)) qy)
   (qi (qp (q3n (k:=5) (hr.mono (by decide)) (pv 0) (qa (pv 1) (qa (pv 2) qd)))))),?_⟩
  walk_at "r"
  refine ifd (fun h1=>?_) (fun h1=>?_)
  ·walk_at "r"
   have:=k H (Same.refl _)
   rw[q61 h1] at this
   exact this
  walk_at "r"
  refine q1G hp D.cl D.nn (q0h d n) ?_
  walk_at "r"
  refine q1G hp D.cl D.np (q9f d n) ?_
  refine q3C (SqT.of h0) hpp ?_
  walk_at "r"
  refine⟨n,0,_,rfl,?_⟩
  walk_at "r"
  by_cases hin:0<=n/\n<(C.num d:Int)
  ·have e:(decide (0<=n)&&decide (n<=(xs.length:Int) - 1))=true:=by
    rw[zr (p:=0<=n) hin.1,zr (p:=n<=(xs.length:Int) - 1) (by rw[hxl];omega)]
    rfl
   rw[e]
   walk_at "r"
   obtain⟨i,rfl⟩:∃i:Nat,n=(i:Int):=⟨n.toNat,by omega⟩
   refine r_vm hp vf (qcM d _) ?_
   walk_at "r"
   refine⟨p,c,q,C,st,i,rfl,ho,hC,ok,hq,sok,by omega,fun H' s'=>?_⟩
   have:=k H' s'
   rw[q9u h1] at this
   exact this
  ·have e:(decide (0<=n)&&decide (n<=(xs.length:Int) - 1))=false:=by
    rw[Bool.and_eq_false_iff]
    by_cases h3:0<=n
    ·right;rw[hxl];exact zq (by omega)
    ·left;exact zq h3
   rw[e]
   walk_at "r"
   have:=k H (Same.refl _)
   rw[show canD C st d n=false from by
    by_cases h3:0<=n
    ·exact q6G (by omega)
    ·exact q7d (by omega)] at this
   exact this
theorem q2S {d:Wd}(L:LaidM K (dcls cs d) "told" "Deed.told" q00 ["self"])(D:DCl K cs d):VMeth P w K mg base 1 (dcls cs d) "told" ["self"] (q6e cs d):=by
 refine L.vm (k:=0) D.cl q5J (fun vs H Q E h=>?_) (fun f cdv A outer s H vs Q E hr h=>?_)
 ·obtain ⟨p,n,rfl,_⟩:=h
  rfl
 ·obtain ⟨p,n,rfl,ho,k⟩:=h
  obtain⟨dx,hp⟩:=ho.ex
  refine⟨_,(qi (qp (qz (qa (q0w K (pv 0) rfl) (qa (q0w K (pv 0) rfl) qd))))),?_⟩
  walk_at "r"
  refine q1G hp D.cl D.nw (qcK d n) ?_
  walk_at "r"
  refine q1G hp D.cl D.nn (q0h d n) ?_
  walk_at "r"
  intro r hr1
  exact k r _ (Same.upd hr1) qe
theorem q7h (T:Txt mg cs)(D:DCl K cs .go)(L:LaidM K cs.Go "fits" "Go.fits" q33 ["self","cellar","stand"])(vo:VMeth P w K mg base 1 (dcls cs .go) "own_part" ["self","cellar"] (q4a cs .go))(wM:Cal P w K mg base 1 "can_enter" ["way","room"] q4F)(wg:Cal P w K mg base 1 "has_bit" ["bits","place"] q6h)
  (vK:Cal P w K mg base 4 "gate_of" ["gate"] (qbz cs))(vl:∀g:Gt,VMeth P w K mg base 2 (q9q cs g) "lets" ["self","held","opened","bars","water"] (q3r cs g.word))(w8:Cal P w K mg base 2 "held" ["cellar","stand"] q5m):VMeth P w K mg base 5 (dcls cs .go) "fits" ["self","cellar","stand"] (q3N cs .go):=by
 obtain⟨t1,we⟩:=T.we
 obtain⟨t2,wm⟩:=T.wm
 obtain⟨t3,wK⟩:=T.wK
 obtain⟨t4,wQ⟩:=T.wQ
 obtain⟨t5,wI⟩:=T.wI
 refine LaidM.vm (k:=4) L D.cl q3k (fun vs H Q E h=>?_) (fun f cdv A outer s H vs Q E hr h=>?_)
 ·obtain ⟨p,c,q,C,st,i,rfl,_⟩:=h
  rfl
 ·obtain ⟨p,c,q,C,st,i,rfl,ho,hC,ok,hq,sok,hi,k⟩:=h
  obtain⟨dx,hp⟩:=ho.ex
  replace hq:H q=some (.tup [.int st.rm,.int st.tk,.int st.op,.int st.b,.int st.wt]):=hq
  refine⟨_,(qg (qC (i:=3) q3k.nd rfl (Or.inl rfl) (q3n (k:=1) (hr.mono (by decide)) (pv 0) (qa (pv 1) qd)))
   (qg (qO (q2k (q0J (qB wM hr (by decide) rfl (qa (pv 3) (qa (qm (qj K) (pv 2) (qx (v:= .int 0) rfl we ⟨_,rfl⟩) (fun _ _=>rfl)) qd))))) (qi (qp q1D)) qy)
   (qg (qC (i:=4) q3k.nd rfl (Or.inl rfl) (qB wg hr (by decide) rfl (qa (qm (qj K) (pv 2) (qx (v:= .int 2) rfl wm ⟨_,rfl⟩) (fun _ _=>rfl)) (qa (q0w K (pv 0) rfl) qd))))
   (qi (qp (q3n (k:=2) (hr.mono (by decide)) (qB vK hr (by decide) rfl (qa (qm (qj K) (pv 3) (qx (v:= .int 2) rfl wK ⟨_,rfl⟩) (fun _ _=>rfl)) qd)) (qa (qB w8 hr (by decide) rfl (qa (pv 1) (qa (pv 2) qd))) (qa (pv 4) (qa (qm (qj K) (pv 2) (qx (v:= .int 3) rfl wQ ⟨_,rfl⟩) (fun _ _=>rfl)) (qa (qm (qj K) (pv 2) (qx (v:= .int 4) rfl wI ⟨_,rfl⟩) (fun _ _=>rfl)) qd)))))))))),?_⟩
  walk_at "r"
  refine r_vm hp vo (q3z _ _) ?_
  walk_at "r"
  refine⟨p,c,C,i,rfl,ho,hC,hi,fun r hrow=>?_⟩
  obtain⟨x,hx,hW⟩:=hrow
  have xok:=ok.w x (za1 hx)
  have ecan:canB C st i .go=(q0W x st.rm&&q3W x.g (hold C st.tk st.op) (bit st.op i) st.b st.wt):=by simp[canB,hx]
  obtain⟨g,hr1,hg⟩:=id hW
  walk_at "r"
  refine⟨r,x,st.rm,rfl,hW,?_⟩
  walk_at "r"
  cases he:q0W x st.rm with
  |false=>
   walk_at "r"
   have:=k H (Same.refl _)
   rw[ecan,he] at this
   exact this
  |true=>
   walk_at "r"
   refine q1G hp D.cl D.nn (q0h _ _) ?_
   walk_at "r"
   refine⟨st.op,i,rfl,by omega,?_⟩
   rw[zp]
   walk_at "r"
   refine⟨g,x.g,rfl,hg,fun o H1 s1 ho0 hob=>?_⟩
   obtain⟨dxo,qo,hpo,hqo⟩:=hob.ex
   have hq1:=s1 _ _ hq
   refine r_vm hpo (vl x.g) (qcB qo x.g) ?_
   walk_at "r"
   refine⟨c,q,C,st.rm,st.tk,st.op,st.b,st.wt,rfl,hC.mono s1.ts,ok,hq1,sok.dr,fun hl H2 s2 hl0 hl2=>?_⟩
   have hq2:=s2 _ _ hq1
   walk_at "r"
   refine⟨o,hl,x.g,hold C st.tk st.op,_,_,_,rfl,rfl,hob.mono s2,xok.2.2.2,hl2,?_⟩
   have:=k H2 (s1.trans s2)
   rw[ecan,he,zaI] at this
   exact this
theorem q5b (T:Txt mg cs)(D:DCl K cs .pull)(L:LaidM K cs.Pull "fits" "Pull.fits" q1Z ["self","cellar","stand"])(vo:VMeth P w K mg base 1 (dcls cs .pull) "own_part" ["self","cellar"] (q4a cs .pull)):VMeth P w K mg base 5 (dcls cs .pull) "fits" ["self","cellar","stand"] (q3N cs .pull):=by
 obtain⟨t1,we⟩:=T.we
 obtain⟨t2,wz⟩:=T.wz
 refine LaidM.vm (k:=4) L D.cl q5C (fun vs H Q E h=>?_) (fun f cdv A outer s H vs Q E hr h=>?_)
 ·obtain ⟨p,c,q,C,st,i,rfl,_⟩:=h
  rfl
 ·obtain ⟨p,c,q,C,st,i,rfl,ho,hC,ok,hq,sok,hi,k⟩:=h
  obtain⟨dx,hp⟩:=ho.ex
  replace hq:H q=some (.tup [.int st.rm,.int st.tk,.int st.op,.int st.b,.int st.wt]):=hq
  refine⟨_,(qi (qp (qR qS (qm (qj K) (pv 2) (qx (v:= .int 0) rfl we ⟨_,rfl⟩) (fun _ _=>rfl)) (qm (qj K) (q3n (k:=1) (hr.mono (by decide)) (pv 0) (qa (pv 1) qd)) (qx (v:= .int 0) rfl wz ⟨_,rfl⟩) (fun _ _=>rfl)) (qu _)))),?_⟩
  walk_at "r"
  refine r_vm hp vo (q3z _ _) ?_
  walk_at "r"
  refine⟨p,c,C,i,rfl,ho,hC,hi,fun r hrow=>?_⟩
  obtain⟨x,hx,hP⟩:=hrow
  have ecan:canB C st i .pull=decide (st.rm=x.1):=by simp[canB,hx]
  replace hP:H r=some (.tup [.int x.1,.int x.2]):=hP
  walk_at "r"
  have:=k H (Same.refl _)
  rw[ecan] at this
  exact this
theorem q5a (T:Txt mg cs)(D:DCl K cs .take)(L:LaidM K cs.Take "fits" "Take.fits" q1W ["self","cellar","stand"])(vo:VMeth P w K mg base 1 (dcls cs .take) "own_part" ["self","cellar"] (q4a cs .take))(wg:Cal P w K mg base 1 "has_bit" ["bits","place"] q6h):VMeth P w K mg base 5 (dcls cs .take) "fits" ["self","cellar","stand"] (q3N cs .take):=by
 obtain⟨t1,we⟩:=T.we
 obtain⟨t2,wz⟩:=T.wz
 obtain⟨t3,wD⟩:=T.wD
 refine LaidM.vm (k:=4) L D.cl q5z (fun vs H Q E h=>?_) (fun f cdv A outer s H vs Q E hr h=>?_)
 ·obtain ⟨p,c,q,C,st,i,rfl,_⟩:=h
  rfl
 ·obtain ⟨p,c,q,C,st,i,rfl,ho,hC,ok,hq,sok,hi,k⟩:=h
  obtain⟨dx,hp⟩:=ho.ex
  replace hq:H q=some (.tup [.int st.rm,.int st.tk,.int st.op,.int st.b,.int st.wt]):=hq
  refine⟨_,(qi (qp (q2G (qR qS (qm (qj K) (pv 2) (qx (v:= .int 0) rfl we ⟨_,rfl⟩) (fun _ _=>rfl)) (qm (qj K) (q3n (k:=1) (hr.mono (by decide)) (pv 0) (qa (pv 1) qd)) (qx (v:= .int 0) rfl wz ⟨_,rfl⟩) (fun _ _=>rfl)) (qu _)) (q2F (pe_not (qB wg hr (by decide) rfl (qa (qm (qj K) (pv 2) (qx (v:= .int 1) rfl wD ⟨_,rfl⟩) (fun _ _=>rfl)) (qa (q0w K (pv 0) rfl) qd)))))))),?_⟩
  walk_at "r"
  refine r_vm hp vo (q3z _ _) ?_
  walk_at "r"
  refine⟨p,c,C,i,rfl,ho,hC,hi,fun r hrow=>?_⟩
  obtain⟨x,hx,hP⟩:=hrow
  have ecan:canB C st i .take=(decide (st.rm=x.1)&& !bit st.tk i):=by simp[canB,hx]
  replace hP:H r=some (.tup [.int x.1,.int x.2]):=hP
  have k':=k H (Same.refl _)
  rw[ecan] at k'
  walk_at "r"
  refine ifd (fun h1=>?_) (fun h1=>?_)
  ·rw [zr h1,zaI] at k'
   walk_at "r"
   refine q1G hp D.cl D.nn (q0h _ _) ?_
   walk_at "r"
   refine⟨st.tk,i,rfl,by omega,?_⟩
   rw[zp]
   walk_at "r"
   exact k'
  ·rw [zq h1,za3] at k'
   exact k'
theorem q59 (T:Txt mg cs)(D:DCl K cs .turn)(L:LaidM K cs.Turn "fits" "Turn.fits" q1T ["self","cellar","stand"])(vo:VMeth P w K mg base 1 (dcls cs .turn) "own_part" ["self","cellar"] (q4a cs .turn)):VMeth P w K mg base 5 (dcls cs .turn) "fits" ["self","cellar","stand"] (q3N cs .turn):=by
 obtain⟨t1,we⟩:=T.we
 obtain⟨t2,wz⟩:=T.wz
 obtain⟨t3,wI⟩:=T.wI
 obtain⟨t4,wn⟩:=T.wn
 refine LaidM.vm (k:=4) L D.cl q3u (fun vs H Q E h=>?_) (fun f cdv A outer s H vs Q E hr h=>?_)
 ·obtain ⟨p,c,q,C,st,i,rfl,_⟩:=h
  rfl
 ·obtain ⟨p,c,q,C,st,i,rfl,ho,hC,ok,hq,sok,hi,k⟩:=h
  obtain⟨dx,hp⟩:=ho.ex
  replace hq:H q=some (.tup [.int st.rm,.int st.tk,.int st.op,.int st.b,.int st.wt]):=hq
  refine⟨_,(qg (qC (i:=3) q3u.nd rfl (Or.inl rfl) (q3n (k:=1) (hr.mono (by decide)) (pv 0) (qa (pv 1) qd)))
   (qi (qp (q2G (qR qS (qm (qj K) (pv 2) (qx (v:= .int 0) rfl we ⟨_,rfl⟩) (fun _ _=>rfl)) (qm (qj K) (pv 3) (qx (v:= .int 0) rfl wz ⟨_,rfl⟩) (fun _ _=>rfl)) (qu _)) (q2F (qR q5R (qm (qj K) (pv 2) (qx (v:= .int 4) rfl wI ⟨_,rfl⟩) (fun _ _=>rfl)) (qm (qj K) (pv 3) (qx (v:= .int 1) rfl wn ⟨_,rfl⟩) (fun _ _=>rfl)) (qu _))))))),?_⟩
  walk_at "r"
  refine r_vm hp vo (q3z _ _) ?_
  walk_at "r"
  refine⟨p,c,C,i,rfl,ho,hC,hi,fun r hrow=>?_⟩
  obtain⟨x,hx,hP⟩:=hrow
  have ecan:canB C st i .turn=(decide (st.rm=x.1)&& !decide (st.wt=x.2)):=by simp[canB,hx]
  replace hP:H r=some (.tup [.int x.1,.int x.2]):=hP
  have k':=k H (Same.refl _)
  rw[ecan] at k'
  walk_at "r"
  refine ifd (fun h1=>?_) (fun h1=>?_)
  ·rw [zr h1,zaI] at k'
   walk_at "r"
   exact k'
  ·rw [zq h1,za3] at k'
   exact k'
theorem q48 (T:Txt mg cs)(D:DCl K cs .unlock)(L:LaidM K cs.Unlock "fits" "Unlock.fits" q1c ["self","cellar","stand"])(vo:VMeth P w K mg base 1 (dcls cs .unlock) "own_part" ["self","cellar"] (q4a cs .unlock))(wM:Cal P w K mg base 1 "can_enter" ["way","room"] q4F)(wg:Cal P w K mg base 1 "has_bit" ["bits","place"] q6h)
  (w8:Cal P w K mg base 2 "held" ["cellar","stand"] q5m):VMeth P w K mg base 5 (dcls cs .unlock) "fits" ["self","cellar","stand"] (q3N cs .unlock):=by
 obtain⟨t1,we⟩:=T.we
 obtain⟨t2,wm⟩:=T.wm
 obtain⟨t3,wK⟩:=T.wK
 refine LaidM.vm (k:=4) L D.cl q1B (fun vs H Q E h=>?_) (fun f cdv A outer s H vs Q E hr h=>?_)
 ·obtain ⟨p,c,q,C,st,i,rfl,_⟩:=h
  rfl
 ·obtain ⟨p,c,q,C,st,i,rfl,ho,hC,ok,hq,sok,hi,k⟩:=h
  obtain⟨dx,hp⟩:=ho.ex
  replace hq:H q=some (.tup [.int st.rm,.int st.tk,.int st.op,.int st.b,.int st.wt]):=hq
  refine⟨_,(qg (qC (i:=3) q1B.nd rfl (Or.inl rfl) (q3n (k:=1) (hr.mono (by decide)) (pv 0) (qa (pv 1) qd)))
   (qg (qC (i:=4) q1B.nd rfl (Or.inl rfl) (qm (qj K) (pv 3) (qx (v:= .int 2) rfl wK ⟨_,rfl⟩) (fun _ _=>rfl)))
   (qg (qO (PW.pt (q2O (qw q5R (qm (qj K) (pv 4) qc (fun _ _=>rfl)) qM (qu _)) (q2O (q2k (q0J (qB wM hr (by decide) rfl (qa (pv 3) (qa (qm (qj K) (pv 2) (qx (v:= .int 0) rfl we ⟨_,rfl⟩) (fun _ _=>rfl)) qd))))) (q2j (q0J (qB wg hr (by decide) rfl (qa (qm (qj K) (pv 2) (qx (v:= .int 2) rfl wm ⟨_,rfl⟩) (fun _ _=>rfl)) (qa (q0w K (pv 0) rfl) qd)))))))) (qi (qp q1D)) qy)
   (qi (qp (qR q4j (qm (q0d K) (qB w8 hr (by decide) rfl (qa (pv 1) (qa (pv 2) qd))) (qm (qj K) (pv 4) qc (fun _ _=>rfl)) (fun _ _=>rfl)) qc (qu _))))))),?_⟩
  walk_at "r"
  refine r_vm hp vo (q3z _ _) ?_
  walk_at "r"
  refine⟨p,c,C,i,rfl,ho,hC,hi,fun r hrow=>?_⟩
  obtain⟨x,hx,hW⟩:=hrow
  have xok:=ok.w x (za1 hx)
  obtain⟨g,hr1,hg⟩:=id hW
  have hg':=hg
  rw[Gt.vs_eq] at hg'
  walk_at "r"
  refine ifn (fun hn=>?_) (fun hn=>?_)
  ·walk_at "r"
   have hdk:x.g.dk=none:=by
    have:=q54 x.g
    rw[zq hn] at this
    cases e:x.g.dk with
    |none=>rfl
    |some k=>rw[e] at this;cases this
   have:=k H (Same.refl _)
   rw[show canB C st i .unlock=false by simp[canB,hx,hdk]] at this
   exact this
  obtain⟨kd,ekd⟩:=q9e hn
  have hk:0<=kd/\kd<12:=by have:=xok.2.2.2;rw[ekd] at this;exact this
  have edk:x.g.dk=some kd:=by rw[ekd];rfl
  have ecan:canB C st i .unlock=((q0W x st.rm&& !bit st.op i)&&decide (0<hold C st.tk st.op kd)):=by simp[canB,hx,edk]
  have hg2:H g=some (.tup [.str "door",.int kd]):=by rw[ekd] at hg;exact hg
  walk_at "r"
  refine⟨r,x,st.rm,rfl,hW,?_⟩
  walk_at "r"
  cases he:q0W x st.rm with
  |false=>
   walk_at "r"
   have:=k H (Same.refl _)
   rw[ecan,he] at this
   exact this
  |true=>
   walk_at "r"
   refine q1G hp D.cl D.nn (q0h _ _) ?_
   walk_at "r"
   refine⟨st.op,i,rfl,by omega,?_⟩
   rw[zp]
   walk_at "r"
   cases hb:bit st.op i with
   |true=>
    walk_at "r"
    have:=k H (Same.refl _)
    rw[ecan,he,hb] at this
    exact this
   |false=>
    walk_at "r"
    refine⟨c,q,C,st.rm,st.tk,st.op,st.b,st.wt,rfl,hC,ok,hq,sok.dr,fun hl H2 s2 hl0 hl2=>?_⟩
    have hg3:=s2 _ _ hg2
    walk_at "r"
    refine q6o (SqL.of hl2) (q9s hk.1 hk.2) ?_
    walk_at "r"
    have:=k H2 s2
    rw[ecan,he,hb] at this
    exact this
theorem q7i (T:Txt mg cs)(D:DCl K cs .go)(L:LaidM K cs.Go "done" "Go.done" q34 ["self","cellar","stand"])(vo:VMeth P w K mg base 1 (dcls cs .go) "own_part" ["self","cellar"] (q4a cs .go))(wj:Cal P w K mg base 1 "changed" ["parts","place","part"] q6f):VMeth P w K mg base 2 (dcls cs .go) "done" ["self","cellar","stand"] (q3s cs .go):=by
 obtain⟨t1,we⟩:=T.we
 obtain⟨t2,w4⟩:=T.w4
 obtain⟨t3,ve⟩:=T.ve
 refine LaidM.vm (k:=1) L D.cl q3l (fun vs H Q E h=>?_) (fun f cdv A outer s H vs Q E hr h=>?_)
 ·obtain ⟨p,c,q,C,st,n,rfl,_⟩:=h
  rfl
 ·obtain ⟨p,c,q,C,st,n,rfl,ho,hC,ok,hq,sok,hcan,k⟩:=h
  obtain⟨hl,i,rfl,hi,hcb⟩:=q2e hcan
  obtain⟨dx,hp⟩:=ho.ex
  have hq':H q=some (.tup [.int st.rm,.int st.tk,.int st.op,.int st.b,.int st.wt]):=hq
  refine⟨_,(qg (qC (i:=3) q3l.nd rfl (Or.inl rfl) (q3n (k:=1) (hr.mono (by decide)) (pv 0) (qa (pv 1) qd)))
   (qg (qC (i:=4) q3l.nd rfl (Or.inl rfl) (q70 (qw qS (qm (qj K) (pv 2) (qx (v:= .int 0) rfl we ⟨_,rfl⟩) (fun _ _=>rfl)) (qm (qj K) (pv 3) (qx (v:= .int 0) rfl w4 ⟨_,rfl⟩) (fun _ _=>rfl)) (qu _)) (qm (qj K) (pv 3) (qx (v:= .int 1) rfl ve ⟨_,rfl⟩) (fun _ _=>rfl)) (qm (qj K) (pv 3) (qx (v:= .int 0) rfl w4 ⟨_,rfl⟩) (fun _ _=>rfl))))
   (qi (qp (qB wj hr (by decide) rfl (qa (pv 2) (qa (qx (v:= .int 0) rfl we ⟨_,rfl⟩) (qa (pv 4) qd)))))))),?_⟩
  walk_at "r"
  refine r_vm hp vo (q3z _ _) ?_
  walk_at "r"
  refine⟨p,c,C,i,rfl,ho,hC,hi,fun r hrow=>?_⟩
  obtain⟨x,hx,hW⟩:=hrow
  obtain⟨g,hr1,hg⟩:=id hW
  have edone:q1p C st .go (i:Int)={st with rm:=if st.rm=x.a then x.b else x.a}:=by
   show q1E C st ((i:Int)).toNat .go=_
   rw[zp];simp[q1E,hx]
  rw[edone] at k
  walk_at "r"
  refine ifd (fun h1=>?_) (fun h1=>?_)
  ·rw [zt h1] at k
   walk_at "r"
   exact⟨q,st,0,_,rfl,by decide,hq,fun r H' s' hr'=>k r H' s' hr'⟩
  ·rw [zo h1] at k
   walk_at "r"
   exact⟨q,st,0,_,rfl,by decide,hq,fun r H' s' hr'=>k r H' s' hr'⟩
theorem q5e (T:Txt mg cs)(D:DCl K cs .pull)(L:LaidM K cs.Pull "done" "Pull.done" q26 ["self","cellar","stand"])(vo:VMeth P w K mg base 1 (dcls cs .pull) "own_part" ["self","cellar"] (q4a cs .pull))(wj:Cal P w K mg base 1 "changed" ["parts","place","part"] q6f):VMeth P w K mg base 2 (dcls cs .pull) "done" ["self","cellar","stand"] (q3s cs .pull):=by
 obtain⟨t1,wQ⟩:=T.wQ
 obtain⟨t2,wn⟩:=T.wn
 refine LaidM.vm (k:=1) L D.cl q5D (fun vs H Q E h=>?_) (fun f cdv A outer s H vs Q E hr h=>?_)
 ·obtain ⟨p,c,q,C,st,n,rfl,_⟩:=h
  rfl
 ·obtain ⟨p,c,q,C,st,n,rfl,ho,hC,ok,hq,sok,hcan,k⟩:=h
  obtain⟨hl,i,rfl,hi,hcb⟩:=q2e hcan
  obtain⟨dx,hp⟩:=ho.ex
  have hq':H q=some (.tup [.int st.rm,.int st.tk,.int st.op,.int st.b,.int st.wt]):=hq
  refine⟨_,(qi (qp (qB wj hr (by decide) rfl (qa (pv 2) (qa (qx (v:= .int 3) rfl wQ ⟨_,rfl⟩) (qa (qk q8D (qm (qj K) (pv 2) (qx (v:= .int 3) rfl wQ ⟨_,rfl⟩) (fun _ _=>rfl)) (qm (qj K) (q3n (k:=1) (hr.mono (by decide)) (pv 0) (qa (pv 1) qd)) (qx (v:= .int 1) rfl wn ⟨_,rfl⟩) (fun _ _=>rfl))) qd)))))),?_⟩
  walk_at "r"
  refine r_vm hp vo (q3z _ _) ?_
  walk_at "r"
  refine⟨p,c,C,i,rfl,ho,hC,hi,fun r hrow=>?_⟩
  obtain⟨x,hx,hP⟩:=hrow
  replace hP:H r=some (.tup [.int x.1,.int x.2]):=hP
  have edone:q1p C st .pull (i:Int)={st with b:=Builtin.bitXor st.b x.2}:=by
   show q1E C st ((i:Int)).toNat .pull=_
   rw[zp];simp[q1E,hx]
  rw[edone] at k
  walk_at "r"
  exact⟨q,st,3,_,rfl,by decide,hq,fun r H' s' hr'=>k r H' s' hr'⟩
theorem q5d (T:Txt mg cs)(D:DCl K cs .take)(L:LaidM K cs.Take "done" "Take.done" q1X ["self","cellar","stand"])(wj:Cal P w K mg base 1 "changed" ["parts","place","part"] q6f):VMeth P w K mg base 2 (dcls cs .take) "done" ["self","cellar","stand"] (q3s cs .take):=by
 obtain⟨t1,wD⟩:=T.wD
 refine LaidM.vm (k:=1) L D.cl q5A (fun vs H Q E h=>?_) (fun f cdv A outer s H vs Q E hr h=>?_)
 ·obtain ⟨p,c,q,C,st,n,rfl,_⟩:=h
  rfl
 ·obtain ⟨p,c,q,C,st,n,rfl,ho,hC,ok,hq,sok,hcan,k⟩:=h
  obtain⟨hl,i,rfl,hi,hcb⟩:=q2e hcan
  obtain⟨dx,hp⟩:=ho.ex
  have hq':H q=some (.tup [.int st.rm,.int st.tk,.int st.op,.int st.b,.int st.wt]):=hq
  have hi8:(i:Int)<8:=by have h2:i<C.things.length:=hi;have:=ok.tl;omega
  have hb:bit st.tk i=false:=by
   have h2:i<C.things.length:=hi
   simp only[canB,yB h2,Bool.and_eq_true,Bool.not_eq_true'] at hcb
   exact hcb.2
  have edone:q1p C st .take (i:Int)={st with tk:=st.tk+2 ^ i}:=by
   show q1E C st ((i:Int)).toNat .take=_
   rw[zp];rfl
  rw[edone] at k
  refine⟨_,(qi (qp (qB wj hr (by decide) rfl (qa (pv 2) (qa (qx (v:= .int 1) rfl wD ⟨_,rfl⟩) (qa (qk qc4 (qm (qj K) (pv 2) (qx (v:= .int 1) rfl wD ⟨_,rfl⟩) (fun _ _=>rfl)) (qk q2H qc (q0w K (pv 0) rfl))) qd)))))),?_⟩
  walk_at "r"
  refine q1G hp D.cl D.nn (q0h _ _) ?_
  walk_at "r"
  rw[zp,zaK,q9E hb]
  exact⟨q,st,1,_,rfl,by decide,hq,fun r H' s' hr'=>k r H' s' hr'⟩
theorem q5c (T:Txt mg cs)(D:DCl K cs .turn)(L:LaidM K cs.Turn "done" "Turn.done" q1U ["self","cellar","stand"])(vo:VMeth P w K mg base 1 (dcls cs .turn) "own_part" ["self","cellar"] (q4a cs .turn))(wj:Cal P w K mg base 1 "changed" ["parts","place","part"] q6f):VMeth P w K mg base 2 (dcls cs .turn) "done" ["self","cellar","stand"] (q3s cs .turn):=by
 obtain⟨t1,wI⟩:=T.wI
 obtain⟨t2,wn⟩:=T.wn
 refine LaidM.vm (k:=1) L D.cl q5x (fun vs H Q E h=>?_) (fun f cdv A outer s H vs Q E hr h=>?_)
 ·obtain ⟨p,c,q,C,st,n,rfl,_⟩:=h
  rfl
 ·obtain ⟨p,c,q,C,st,n,rfl,ho,hC,ok,hq,sok,hcan,k⟩:=h
  obtain⟨hl,i,rfl,hi,hcb⟩:=q2e hcan
  obtain⟨dx,hp⟩:=ho.ex
  refine⟨_,(qi (qp (qB wj hr (by decide) rfl (qa (pv 2) (qa (qx (v:= .int 4) rfl wI ⟨_,rfl⟩) (qa (qm (qj K) (q3n (k:=1) (hr.mono (by decide)) (pv 0) (qa (pv 1) qd)) (qx (v:= .int 1) rfl wn ⟨_,rfl⟩) (fun _ _=>rfl)) qd)))))),?_⟩
  walk_at "r"
  refine r_vm hp vo (q3z _ _) ?_
  walk_at "r"
  refine⟨p,c,C,i,rfl,ho,hC,hi,fun r hrow=>?_⟩
  obtain⟨x,hx,hP⟩:=hrow
  replace hP:H r=some (.tup [.int x.1,.int x.2]):=hP
  have edone:q1p C st .turn (i:Int)={st with wt:=x.2}:=by
   show q1E C st ((i:Int)).toNat .turn=_
   rw[zp];simp[q1E,hx]
  rw[edone] at k
  walk_at "r"
  exact⟨q,st,4,_,rfl,by decide,hq,fun r H' s' hr'=>k r H' s' hr'⟩
theorem q49 (T:Txt mg cs)(D:DCl K cs .unlock)(L:LaidM K cs.Unlock "done" "Unlock.done" q1d ["self","cellar","stand"])(wj:Cal P w K mg base 1 "changed" ["parts","place","part"] q6f):VMeth P w K mg base 2 (dcls cs .unlock) "done" ["self","cellar","stand"] (q3s cs .unlock):=by
 obtain⟨t1,wm⟩:=T.wm
 refine LaidM.vm (k:=1) L D.cl q4e (fun vs H Q E h=>?_) (fun f cdv A outer s H vs Q E hr h=>?_)
 ·obtain ⟨p,c,q,C,st,n,rfl,_⟩:=h
  rfl
 ·obtain ⟨p,c,q,C,st,n,rfl,ho,hC,ok,hq,sok,hcan,k⟩:=h
  obtain⟨hl,i,rfl,hi,hcb⟩:=q2e hcan
  obtain⟨dx,hp⟩:=ho.ex
  have hq':H q=some (.tup [.int st.rm,.int st.tk,.int st.op,.int st.b,.int st.wt]):=hq
  have hi20:(i:Int)<20:=by have h2:i<C.ways.length:=hi;have:=ok.wl;omega
  have hb:bit st.op i=false:=by
   have h2:i<C.ways.length:=hi
   cases hk:C.ways[i].g.dk with
   |none=>simp[canB,h2,hk] at hcb
   |some kd=>
    simp only[canB,yB h2,hk,Bool.and_eq_true,Bool.not_eq_true'] at hcb
    exact hcb.1.2
  have edone:q1p C st .unlock (i:Int)={st with op:=st.op+2 ^ i}:=by
   show q1E C st ((i:Int)).toNat .unlock=_
   rw[zp];rfl
  rw[edone] at k
  refine⟨_,(qi (qp (qB wj hr (by decide) rfl (qa (pv 2) (qa (qx (v:= .int 2) rfl wm ⟨_,rfl⟩) (qa (qk qc4 (qm (qj K) (pv 2) (qx (v:= .int 2) rfl wm ⟨_,rfl⟩) (fun _ _=>rfl)) (qk q2H qc (q0w K (pv 0) rfl))) qd)))))),?_⟩
  walk_at "r"
  refine q1G hp D.cl D.nn (q0h _ _) ?_
  walk_at "r"
  rw[zp,zaK,q9E hb]
  exact⟨q,st,2,_,rfl,by decide,hq,fun r H' s' hr'=>k r H' s' hr'⟩
def DAt (cs:Cs)(H:Hp)(p:Addr)(x:Wd×Nat):Prop:=DObj cs H p x.1 ((x.2:Nat):Int)
def TAt (H:Hp)(p:Addr)(x:Wd×Nat):Prop:=H p=some (.tup [.str x.1.str,.int ((x.2:Nat):Int)])
theorem DAt.mono {cs:Cs}{H H':Hp}(s:Same H H'){p:Addr}{x:Wd×Nat}(h:DAt cs H p x):DAt cs H' p x:=DObj.mono s h
theorem TAt.mono {H H':Hp}(s:q0m H H'){p:Addr}{x:Wd×Nat}(h:TAt H p x):TAt H' p x:=s _ _ h
theorem DAt.put {cs:Cs}{H:Hp}{D:Addr}{xs:List V}{o:HO}(hD:H D=some (.lst xs)){p:Addr}{x:Wd×Nat}(h:DAt cs H p x):DAt cs (upd H D o) p x:=by
 obtain⟨dx,hp⟩:=h.ex
 exact⟨dx,by rw[qq (q6s hp hD (by intro z;cases z))];exact hp⟩
theorem q0f {α:Type}{At:Hp->Addr->α->Prop}{H:Hp}{D x:Addr}{ps:List Addr}{xs:List α}{y:α}(mo:∀q z,At H q z->At (upd H D (.lst (ps.map V.ref++[.ref x]))) q z)(hr:Rows At H ps xs)(hx:At H x y):q01 At (upd H D (.lst (ps.map V.ref++[.ref x]))) D (xs++[y]):=
 ⟨ps++[x],by rw[qe,zM];rfl,(hr.mono mo).snoc (mo _ _ hx)⟩
theorem q3H {α:Type}{At:Hp->Addr->α->Prop}{H:Hp}{ps qs:List Addr}{xs ys:List α}(a:Rows At H ps xs)(b:Rows At H qs ys):Rows At H (ps++qs) (xs++ys):=by
 refine⟨by rw[zx,zx,a.1,b.1],fun i p x h1 h2=>?_⟩
 by_cases hi:i<ps.length
 ·rw [zS hi] at h1
  rw[zS (by rw[<-a.1];exact hi)] at h2
  exact a.2 i p x h1 h2
 ·rw [zag (by omega)] at h1
  rw[zag (by rw[<-a.1];omega),<-a.1] at h2
  exact b.2 _ p x h1 h2
def q89 (cs:Cs):Sp:=fun vs H Q _=>∃(c:Addr) (C:Cl),vs=[.ref c]/\ClAt H c C/\ClOk C/\∀(l:Addr) (H':Hp),Same H H'->H l=none->q01 (DAt cs) H' l (rowD .go C.ways.length)->Q (.ref l) H'
def q8c (cs:Cs):Sp:=fun vs H Q _=>∃(c:Addr) (C:Cl),vs=[.ref c]/\ClAt H c C/\ClOk C/\∀(l:Addr) (H':Hp),Same H H'->H l=none->q01 (DAt cs) H' l (allD C)->Q (.ref l) H'
def q8a (cs:Cs):Sp:=fun vs H Q _=>∃(c q:Addr) (C:Cl) (s:Sd),vs=[.ref c,.ref q]/\ClAt H c C/\ClOk C/\H q=some (.tup s.vs)/\s.ok C/\∀(l:Addr) (H':Hp),Same H H'->H l=none->q01 (DAt cs) H' l (fitD C s)->Q (.ref l) H'
theorem q35 {H0 H':Hp}{D:Addr}{d:Wd}{i:Nat}{v:Option V}{ps:List Addr}{x dx:Addr}(hD:H0 D=none)(s2:Same H0 H')(hi:i<100)(hps:H' D=some (.lst (ps.map V.ref)))(hrw:Rows (DAt cs) H' ps (rowD d i))(hx:H' x=none)(hdx:H' dx=none)(ne:dx≠x):
  q1r cs d (.ref x::([.int (0+((i:Nat):Int))]++[])) (upd (upd H' dx (.own x)) x (.ins (dcls cs d) dx [])) (fun w H2=>w= .non/\∃ys,H2 D=some (.lst ys)/\ys.length<sizeLine/\∃v0,([v]:St)=[v0]/\Same H0 (upd H2 D (.lst (ys++[.ref x])))/\q01 (DAt cs) (upd H2 D (.lst (ys++[.ref x]))) D (rowD d (i+1))) E0:=by
 have big:=qF
 rw[zau]
 refine q1I (Q:=fun y H2=>∃ys,H2 D=some (.lst ys)/\ys.length<sizeLine/\∃v0,([v]:St)=[v0]/\Same H0 (upd H2 D (.lst (ys++[y])))/\q01 (DAt cs) (upd H2 D (.lst (ys++[y]))) D (rowD d (i+1))) hx hdx ne fun x H3 s3 hx0 hob=>?_
 have hp3:=s3 _ _ hps
 refine⟨_,hp3,by rw[yC,hrw.1,q36];omega,_,rfl,(s2.trans s3).put hD,?_⟩
 rw[q5M]
 exact q0f (fun _ _=>DAt.put hp3) (hrw.mono fun _ _=>DAt.mono s3) hob
theorem qcd (T:Txt mg cs)(L:Laid K mg "all_goes" q1F ["cellar"])(wS:Makes P w K mg base 2 "Go" cs.Go ["self","number"] (q1r cs .go)):Cal P w K mg base 4 "all_goes" ["cellar"] (q89 cs):=by
 obtain⟨t1,wG⟩:=T.wG
 refine L.cal (k:=3) q6j (fun vs H Q E h=>?_) (fun f cdv A outer s H vs Q E hr h=>?_)
 ·obtain ⟨c,C,rfl,_⟩:=h
  rfl
 ·obtain ⟨c,C,rfl,hC,ok,k⟩:=h
  obtain⟨pw,pt,pl,pv',h0,hw,ht,hl,hv⟩:=hC.ex
  obtain⟨wv,hwv,hwl,hwg⟩:=hw.get
  have okw:=ok.wl
  have hwl2:(wv.length:Int)<=20:=by omega
  refine⟨_,(qi (qp (q1o (q0L (N:=["number"]) (own:=1) (caps:=[]) ["cellar"] (qh q1F) (by walk_at "k")) rfl (q0a rfl T.wB (qa (qD (lenK K) rfl T.ww q0i (qa (qm (qj K) (pv 0) (qx (v:= .int 3) rfl wG ⟨_,rfl⟩) (fun _ _=>rfl)) qd)) qd)) (fun _ _ _ _=>(qr (i:=0) (show List.Nodup (["number"]:List Str) by walk_at "k") rfl (Or.inl rfl))) (fun _ _ _ _=>q1H) (fun _ _ _ _=>(q1n wS hr (by decide) rfl (qa (pv 0) qd)))))),?_⟩
  walk_at "r"
  intro D hD
  refine q2B (fun i σ H'=>∃v0,σ=[v0]/\Same H H'/\q01 (DAt cs) H' D (rowD .go i)) ⟨none,rfl,Same.upd hD,⟨[],qe,Rows.nil⟩⟩ ?_ ?_
  ·rintro i σ H' hi ⟨v0,rfl,s2,ps,hps,hrw⟩
   walk_at "r"
   exact fun x dx hx hdx ne => q35 hD s2 (by have:i<wv.length:=by simpa using hi
                                             omega) hps hrw hx hdx ne
  ·rintro σ H' ⟨v0,rfl,s2,hlst⟩
   rw[zp,hwl] at hlst
   exact k D H' s2 hD hlst
theorem qcg (T:Txt mg cs)(L:Laid K mg "all_deeds" q0n ["cellar"])(vG:Cal P w K mg base 4 "all_goes" ["cellar"] (q89 cs))(wE:Makes P w K mg base 2 "Pull" cs.Pull ["self","number"] (q1r cs .pull))(wF:Makes P w K mg base 2 "Take" cs.Take ["self","number"] (q1r cs .take))
  (wH:Makes P w K mg base 2 "Turn" cs.Turn ["self","number"] (q1r cs .turn))(wu:Makes P w K mg base 2 "Unlock" cs.Unlock ["self","number"] (q1r cs .unlock)):Cal P w K mg base 5 "all_deeds" ["cellar"] (q8c cs):=by
 obtain⟨t1,wG⟩:=T.wG
 obtain⟨t2,wY⟩:=T.wY
 obtain⟨t3,wC⟩:=T.wC
 obtain⟨t4,wZ⟩:=T.wZ
 refine L.cal (k:=4) q0T (fun vs H Q E h=>?_) (fun f cdv A outer s H vs Q E hr h=>?_)
 ·obtain ⟨c,C,rfl,_⟩:=h
  rfl
 ·obtain ⟨c,C,rfl,hC,ok,k⟩:=h
  have big:=qF
  obtain⟨pw,pt,pl,pv',h0,hw,ht,hl,hv⟩:=hC.ex
  obtain⟨wv,hwv,hwl,hwg⟩:=hw.get
  obtain⟨tv,htv,htl,htg⟩:=ht.get
  obtain⟨lv,hlv,hll,hlg⟩:=hl.get
  obtain⟨vv,hvv,hvl,hvg⟩:=hv.get
  have okw:=ok.wl
  have okt:=ok.tl
  have okl:=ok.ll
  have okv:=ok.vl
  have hwl2:(wv.length:Int)<=20:=by omega
  have htl2:(tv.length:Int)<=8:=by omega
  have hll2:(lv.length:Int)<=4:=by omega
  have hvl2:(vv.length:Int)<=4:=by omega
  refine⟨_,(qg (q2P (i:=1) q0T.nd rfl rfl (q0L (N:=["number"]) (own:=1) (caps:=[]) ["cellar","pulls","takes","turns","unlocks"] (qh q0n) (by walk_at "k")) rfl (q0a rfl T.wB (qa (qD (lenK K) rfl T.ww q0i (qa (qm (qj K) (pv 0) (qx (v:= .int 5) rfl wY ⟨_,rfl⟩) (fun _ _=>rfl)) qd)) qd)) (fun _ _ _ _=>(qr (i:=0) (show List.Nodup (["number"]:List Str) by walk_at "k") rfl (Or.inl rfl))) (fun _ _ _ _=>q1H) (fun _ _ _ _=>(q1n wE hr (by decide) rfl (qa (pv 0) qd))))
   (qg (q2P (i:=2) q0T.nd rfl rfl (q0L (N:=["number"]) (own:=1) (caps:=[]) ["cellar","pulls","takes","turns","unlocks"] (qh q0n) (by walk_at "k")) rfl (q0a rfl T.wB (qa (qD (lenK K) rfl T.ww q0i (qa (qm (qj K) (pv 0) (qx (v:= .int 4) rfl wC ⟨_,rfl⟩) (fun _ _=>rfl)) qd)) qd)) (fun _ _ _ _=>(qr (i:=0) (show List.Nodup (["number"]:List Str) by walk_at "k") rfl (Or.inl rfl))) (fun _ _ _ _=>q1H) (fun _ _ _ _=>(q1n wF hr (by decide) rfl (qa (pv 0) qd))))
   (qg (q2P (i:=3) q0T.nd rfl rfl (q0L (N:=["number"]) (own:=1) (caps:=[]) ["cellar","pulls","takes","turns","unlocks"] (qh q0n) (by walk_at "k")) rfl (q0a rfl T.wB (qa (qD (lenK K) rfl T.ww q0i (qa (qm (qj K) (pv 0) (qx (v:= .int 6) rfl wZ ⟨_,rfl⟩) (fun _ _=>rfl)) qd)) qd)) (fun _ _ _ _=>(qr (i:=0) (show List.Nodup (["number"]:List Str) by walk_at "k") rfl (Or.inl rfl))) (fun _ _ _ _=>q1H) (fun _ _ _ _=>(q1n wH hr (by decide) rfl (qa (pv 0) qd))))
   (qg (q2P (i:=4) q0T.nd rfl rfl (q0L (N:=["number"]) (own:=1) (caps:=[]) ["cellar","pulls","takes","turns","unlocks"] (qh q0n) (by walk_at "k")) rfl (q0a rfl T.wB (qa (qD (lenK K) rfl T.ww q0i (qa (qm (qj K) (pv 0) (qx (v:= .int 3) rfl wG ⟨_,rfl⟩) (fun _ _=>rfl)) qd)) qd)) (fun _ _ _ _=>(qr (i:=0) (show List.Nodup (["number"]:List Str) by walk_at "k") rfl (Or.inl rfl))) (fun _ _ _ _=>q1H) (fun _ _ _ _=>(q1n wu hr (by decide) rfl (qa (pv 0) qd))))
   (qi (qp (qk q0z (qk q0z (qk q0z (qk q0z (qB vG hr (by decide) rfl (qa (pv 0) qd)) (pv 1)) (pv 2)) (pv 3)) (pv 4)))))))),?_⟩
  walk_at "r"
  intro D1 hD1
  refine q2B (fun i σ H'=>∃v0,σ=[v0]/\Same H H'/\q01 (DAt cs) H' D1 (rowD .pull i)) ⟨none,rfl,Same.upd hD1,⟨[],qe,Rows.nil⟩⟩ ?_ ?_
  ·rintro i σ H' hi ⟨v0,rfl,s2,ps,hps,hrw⟩
   walk_at "r"
   exact fun x dx hx hdx ne => q35 hD1 s2 (by have:i<lv.length:=by simpa using hi
                                              omega) hps hrw hx hdx ne
  rintro σ H1 ⟨v0,rfl,s1,m1⟩
  rw[zp,hll] at m1
  have h01:=s1 _ _ h0
  have htv1:=s1 _ _ htv
  walk_at "r"
  intro D2 hD2
  refine q2B (fun i σ H'=>∃v0,σ=[v0]/\Same H1 H'/\q01 (DAt cs) H' D2 (rowD .take i)) ⟨none,rfl,Same.upd hD2,⟨[],qe,Rows.nil⟩⟩ ?_ ?_
  ·rintro i σ H' hi ⟨v0,rfl,s2,ps,hps,hrw⟩
   walk_at "r"
   exact fun x dx hx hdx ne => q35 hD2 s2 (by have:i<tv.length:=by simpa using hi
                                              omega) hps hrw hx hdx ne
  rintro σ H2 ⟨v0,rfl,s2,m2⟩
  rw[zp,htl] at m2
  have s02:=s1.trans s2
  have h02:=s02 _ _ h0
  have hvv2:=s02 _ _ hvv
  walk_at "r"
  intro D3 hD3
  refine q2B (fun i σ H'=>∃v0,σ=[v0]/\Same H2 H'/\q01 (DAt cs) H' D3 (rowD .turn i)) ⟨none,rfl,Same.upd hD3,⟨[],qe,Rows.nil⟩⟩ ?_ ?_
  ·rintro i σ H' hi ⟨v0,rfl,s2,ps,hps,hrw⟩
   walk_at "r"
   exact fun x dx hx hdx ne => q35 hD3 s2 (by have:i<vv.length:=by simpa using hi
                                              omega) hps hrw hx hdx ne
  rintro σ H3 ⟨v0,rfl,s3,m3⟩
  rw[zp,hvl] at m3
  have s03:=s02.trans s3
  have h03:=s03 _ _ h0
  have hwv3:=s03 _ _ hwv
  walk_at "r"
  intro D4 hD4
  refine q2B (fun i σ H'=>∃v0,σ=[v0]/\Same H3 H'/\q01 (DAt cs) H' D4 (rowD .unlock i)) ⟨none,rfl,Same.upd hD4,⟨[],qe,Rows.nil⟩⟩ ?_ ?_
  ·rintro i σ H' hi ⟨v0,rfl,s2,ps,hps,hrw⟩
   walk_at "r"
   exact fun x dx hx hdx ne => q35 hD4 s2 (by have:i<wv.length:=by simpa using hi
                                              omega) hps hrw hx hdx ne
  rintro σ H4 ⟨v0,rfl,s4,m4⟩
  rw[zp,hwl] at m4
  have s04:=s03.trans s4
  walk_at "r"
  refine⟨c,C,rfl,hC.mono s04.ts,ok,fun l5 H5 s5 hl5 m5=>?_⟩
  obtain⟨p1,e1,r1⟩:=m1
  obtain⟨p2,e2,r2⟩:=m2
  obtain⟨p3,e3,r3⟩:=m3
  obtain⟨p4,e4,r4⟩:=m4
  obtain⟨p5,e5,r5⟩:=m5
  have n1:=r1.1
  have n2:=r2.1
  have n3:=r3.1
  have n4:=r4.1
  have n5:=r5.1
  rw[q36] at n1 n2 n3 n4 n5
  have s45:=s4.trans s5
  have s35:=s3.trans s45
  have s25:=s2.trans s35
  walk_at "r"
  refine⟨l5,D1,_,_,rfl,rfl,e5,s25 _ _ e1,by simp;omega,fun l6 hl6=>?_⟩
  rw[<-zM]
  have s6:=Same.upd (o:= .lst ((p5++p1).map V.ref)) hl6
  have e6:=qe (H:=H5) (a:=l6) (o:= .lst ((p5++p1).map V.ref))
  generalize upd H5 l6 (.lst ((p5++p1).map V.ref))=H6 at s6 e6 ⊢
  walk_at "r"
  refine⟨l6,D2,_,_,rfl,rfl,e6,s6 _ _ (s35 _ _ e2),by simp;omega,fun l7 hl7=>?_⟩
  rw[<-zM]
  have s7:=Same.upd (o:= .lst ((p5++p1++p2).map V.ref)) hl7
  have e7:=qe (H:=H6) (a:=l7) (o:= .lst ((p5++p1++p2).map V.ref))
  generalize upd H6 l7 (.lst ((p5++p1++p2).map V.ref))=H7 at s7 e7 ⊢
  have s67:=s6.trans s7
  walk_at "r"
  refine⟨l7,D3,_,_,rfl,rfl,e7,s67 _ _ (s45 _ _ e3),by simp;omega,fun l8 hl8=>?_⟩
  rw[<-zM]
  have s8:=Same.upd (o:= .lst ((p5++p1++p2++p3).map V.ref)) hl8
  have e8:=qe (H:=H7) (a:=l8) (o:= .lst ((p5++p1++p2++p3).map V.ref))
  generalize upd H7 l8 (.lst ((p5++p1++p2++p3).map V.ref))=H8 at s8 e8 ⊢
  have s68:=s67.trans s8
  walk_at "r"
  refine⟨l8,D4,_,_,rfl,rfl,e8,s68 _ _ (s5 _ _ e4),by simp;omega,fun l9 hl9=>?_⟩
  rw[<-zM]
  have s9:=Same.upd (o:= .lst ((p5++p1++p2++p3++p4).map V.ref)) hl9
  have e9:=qe (H:=H8) (a:=l9) (o:= .lst ((p5++p1++p2++p3++p4).map V.ref))
  generalize upd H8 l9 (.lst ((p5++p1++p2++p3++p4).map V.ref))=H9 at s9 e9 ⊢
  have s69:=s68.trans s9
  have s09:=(s04.trans s5).trans s69
  refine k l9 H9 s09 ?_ ⟨_,e9,?_⟩
  ·exact (((s04.trans s5).trans s68).free hl9)
  ·exact q3H (q3H (q3H (q3H (r5.mono fun _ _=>DAt.mono s69) (r1.mono fun _ _=>DAt.mono (s25.trans s69))) (r2.mono fun _ _=>DAt.mono (s35.trans s69))) (r3.mono fun _ _=>DAt.mono (s45.trans s69))) (r4.mono fun _ _=>DAt.mono (s5.trans s69))
theorem qce (T:Txt mg cs)(L:Laid K mg "fit_deeds" q1k ["cellar","stand"])(vF:Cal P w K mg base 5 "all_deeds" ["cellar"] (q8c cs))(vc:∀d,VMeth P w K mg base 6 (dcls cs d) "can" ["self","cellar","stand"] (q9R cs d)):Cal P w K mg base 7 "fit_deeds" ["cellar","stand"] (q8a cs):=by
 refine L.cal (k:=6) q5q (fun vs H Q E h=>?_) (fun f cdv A outer s H vs Q E hr h=>?_)
 ·obtain ⟨c,q,C,st,rfl,_⟩:=h
  rfl
 ·obtain ⟨c,q,C,st,rfl,hC,ok,hq,sok,k⟩:=h
  have big:=qF
  have hal:=q7f ok
  refine⟨_,(qi (qp (q1o (q0L (N:=["deed","cellar","stand"]) (own:=1) (caps:=[0,1]) ["cellar","stand"] (qh q1k) (by walk_at "k")) rfl (q0b K (qB vF hr (by decide) rfl (qa (pv 0) qd))) (fun _ _ _ _=>(qr (i:=0) (show List.Nodup (["deed","cellar","stand"]:List Str) by walk_at "k") rfl (Or.inl rfl))) (fun _ _ _ _=>(q5Q (q0J (qba (k:=6) P w K mg base hr (by decide) (pv 0) (qa (pv 1) (qa (pv 2) qd)))))) (fun _ _ _ _=>(pv 0))))),?_⟩
  walk_at "r"
  refine⟨c,C,rfl,hC,ok,fun l H1 s1 hl0 m1=>?_⟩
  obtain⟨ps,e1,r1⟩:=m1
  walk_at "r"
  intro D hD
  refine q1f (ps.map V.ref) (fun i σ H'=>∃v0,σ=[v0,some (.ref c),some (.ref q)]/\Same H1 H'/\q01 (DAt cs) H' D (((allD C).take i).filter fun x=>canD C st x.1 (x.2:Int))) ⟨none,rfl,Same.upd hD,⟨[],qe,Rows.nil⟩⟩ ?_ ?_ ?_
  ·rintro i σ H' ⟨_,rfl,s2,_⟩
   exact SqL.of (s2 _ _ e1)
  ·rintro i x σ H' hx ⟨v0,rfl,s2,qs,hqs,hrw⟩
   have hi:i<(allD C).length:=by have:=(yA hx).1;rw[yC,r1.1] at this;exact this
   obtain⟨p,ep,hob⟩:=r1.get hi
   rw[hx] at ep
   cases ep
   have hob2:=DAt.mono s2 hob
   obtain⟨dx,hp⟩:=hob2.ex
   have s12:=s1.trans s2
   have hqlen:qs.length<=100:=by
    rw[hrw.1]
    refine zab (zbg _ _) ?_
    rw[zD];omega
   walk_at "r"
   refine r_vm hp (vc _) (qbk _ _) ?_
   walk_at "r"
   refine⟨p,c,q,C,st,_,rfl,hob2,hC.mono s12.ts,ok,s12 _ _ hq,sok,fun H3 s3=>?_⟩
   have hq3:=s3 _ _ hqs
   walk_at "r"
   rw[zw hi,zaW]
   refine ite2 (fun hc=>?_) (fun hc=>?_)
   ·walk_at "r"
    refine⟨_,hq3,by rw[yC];omega,_,rfl,(s2.trans s3).put hD,?_⟩
    rw[show([(allD C)[i]].filter fun x=>canD C st x.1 (x.2:Int))=[(allD C)[i]] by simp[hc]]
    exact q0f (fun _ _=>DAt.put hq3) (hrw.mono fun _ _=>DAt.mono s3) (DAt.mono s3 hob2)
   ·refine ⟨_,rfl,s2.trans s3,qs,hq3,?_⟩
    rw[show([(allD C)[i]].filter fun x=>canD C st x.1 (x.2:Int))=[] by simp[hc],zJ]
    exact hrw.mono fun _ _=>DAt.mono s3
  ·rintro σ H' ⟨v0,rfl,s2,m2⟩
   rw[yC,r1.1,zQ] at m2
   exact k D H' (s1.trans s2) (s1.free hD) m2
def qb6:Sp:=fun vs H Q _=>∃x y:Int,vs=[.int x,.int y]/\Q (.bl (hasB x y)) H
def q86:Sp:=fun vs H Q _=>∃(p:Addr) (C:Cl),vs=[.ref p]/\ClAt H p C/\ClOk C/\Q (.int (2 ^ C.things.length - 1)) H
def q8b:Sp:=fun vs H Q _=>∃(p:Addr) (C:Cl),vs=[.ref p]/\ClAt H p C/\ClOk C/\∀H',Same H H'->Q (.int (dbs (dsOf C) C.ways.length)) H'
def spIs:Sp:=fun vs H Q _=>∃(p q:Addr) (C:Cl) (xs:List Int),vs=[.ref p,.ref q]/\ClAt H p C/\ClOk C/\H q=some (.tup (xs.map V.int))/\xs.length<=10/\∀H',Same H H'->Q (.bl (stOk C xs)) H'
theorem qcc (T:Txt mg cs)(L:Laid K mg "has_bits_of" q0Y ["bits","all_bits"])(wy:Cal P w K mg base 1 "within" ["number","least","most"] q2W):Cal P w K mg base 2 "has_bits_of" ["bits","all_bits"] qb6:=by
 refine L.cal (k:=1) q4c (fun vs H Q E h=>?_) (fun f cdv A outer s H vs Q E hr h=>?_)
 ·obtain ⟨x,y,rfl,_⟩:=h
  rfl
 ·obtain ⟨x,y,rfl,k⟩:=h
  refine⟨_,(qi (qp (q2G (qB wy hr (by decide) rfl (qa (pv 0) (qa qc (qa (pv 1) qd)))) (q2F (qR qS (qk qc4 (pv 0) (pv 1)) (pv 1) (qu _)))))),?_⟩
  walk_at "r"
  refine⟨x,0,y,rfl,?_⟩
  walk_at "r"
  unfold hasB at k
  refine ite2 (fun h=>?_) (fun h=>?_)
  ·rw [h,zaI] at k
   walk_at "r"
   exact k
  ·rw [zbD] at h
   rw[h,za3] at k
   exact k
theorem qah (T:Txt mg cs)(L:Laid K mg "thing_bits" q1s ["cellar"]):Cal P w K mg base 1 "thing_bits" ["cellar"] q86:=by
 obtain⟨t1,wC⟩:=T.wC
 refine L.cal (k:=0) q4H (fun vs H Q E h=>?_) (fun f cdv A outer s H vs Q E hr h=>?_)
 ·obtain ⟨p,C,rfl,_⟩:=h
  rfl
 ·obtain ⟨p,C,rfl,hC,ok,k⟩:=h
  obtain⟨pw,pt,pl,pv',h0,h1,h2,_⟩:=hC.ex
  obtain⟨tv,ht,htl,htg⟩:=h2.get
  have okt:=ok.tl
  have htl2:(tv.length:Int)<=8:=by omega
  refine⟨_,(qi (qp (qk q3x (qk q2H qc (qD (lenK K) rfl T.ww q0i (qa (qm (qj K) (pv 0) (qx (v:= .int 4) rfl wC ⟨_,rfl⟩) (fun _ _=>rfl)) qd))) qc))),?_⟩
  walk_at "r"
  rw[zaK,zp,htl]
  exact k
theorem qar (T:Txt mg cs)(L:Laid K mg "door_bits" q1l ["cellar"])(wJ:Cal P w K mg base 1 "door_kinds" ["cellar"] spDk):Cal P w K mg base 2 "door_bits" ["cellar"] q8b:=by
 refine L.cal (k:=1) q5r (fun vs H Q E h=>?_) (fun f cdv A outer s H vs Q E hr h=>?_)
 ·obtain ⟨p,C,rfl,_⟩:=h
  rfl
 ·obtain ⟨p,C,rfl,hC,ok,k⟩:=h
  have big:=qF
  have okw:=ok.wl
  refine⟨_,(qi (qp (qD (sumLK K rfl) rfl T.wbY bt_sum (qa (q1o (q0L (N:=["number","kind"]) (own:=2) (caps:=[]) ["cellar"] (qh q1l) (by walk_at "k")) rfl (q5P K rfl T.vh (qa (qB wJ hr (by decide) rfl (qa (pv 0) qd)) qd)) (fun _ _ _ _=>(q0v (n:=2) K rfl (qA (qr (i:=0) (show List.Nodup (["number","kind"]:List Str) by walk_at "k") rfl (Or.inl rfl)) (qA (qr (i:=1) (show List.Nodup (["number","kind"]:List Str) by walk_at "k") rfl (Or.inl rfl)) q0u)))) (fun _ _ _ _=>(q5Q (q8p (qc3 (pv 1))))) (fun _ _ _ _=>(qk q2H qc (pv 0)))) qd)))),?_⟩
  walk_at "r"
  refine⟨p,C,rfl,hC,ok,fun dk H1 s1 hdk0 hdk=>?_⟩
  walk_at "r"
  intro D hD
  refine qaU (C.ways.map fun x=>dkV x.g) (fun i σ H'=>∃v0 v1,σ=[v0,v1]/\Same H1 H'/\∃ms:List Int,H' D=some (.lst (ms.map V.int))/\ms.length<=i/\ms.sum=dbs (dsOf C) i) ⟨none,none,rfl,Same.upd hD,[],qe,zn _,rfl⟩ ?_ ?_ ?_
  ·rintro i σ H' ⟨_,_,rfl,s2,_⟩
   exact SqL.of (s2 _ _ hdk)
  ·rintro i x σ H' T1 hx ⟨v0,v1,rfl,s2,ms,hm,hml,hms⟩ hT1
   have hi:i<C.ways.length:=by have:=(yA hx).1;simpa using this
   have ex:x=dkV C.ways[i].g:=by simpa[hi] using hx.symm
   subst ex
   have eds:dsOf C i=C.ways[i].g.dk:=by simp[dsOf,hi]
   have sT:Same H1 (upd H' T1 (.tup [.int (i:Nat),dkV C.ways[i].g])):=s2.trans (Same.upd hT1)
   have hmT:=q1j (o:= .tup [.int (i:Nat),dkV C.ways[i].g]) hm hT1
   have hi20:((i:Nat):Int)<=20:=by omega
   walk_at "r"
   have en:(!decide (dkV C.ways[i].g=V.non))=(dsOf C i).isSome:=by
    rw[eds]
    unfold dkV
    cases C.ways[i].g.dk with
    |none=>rfl
    |some k=>rfl
   rw[en]
   refine ite2 (fun hs=>?_) (fun hs=>?_)
   ·walk_at "r"
    refine⟨_,hmT,by rw[yC];omega,_,_,rfl,sT.put hD,ms++[2 ^ i],?_,?_,?_⟩
    ·rw [qe,zaK,zp]
     simp
    ·rw [zx,List.length_singleton];omega
    ·show (ms++[2 ^ i]).sum=dbs (dsOf C) i+_
     rw[zt hs,List.sum_append,hms]
     simp
   ·refine ⟨_,_,rfl,sT,ms,hmT,by omega,?_⟩
    show ms.sum=dbs (dsOf C) i+_
    rw[zo hs,hms,zbq]
  ·rintro σ H' ⟨v0,v1,rfl,s2,ms,hm,hml,hms⟩
   rw[yC] at hms
   walk_at "r"
   refine r_sumL (SqL.of hm) ?_
   rw[hms]
   exact k H' (s1.trans s2)
theorem qca (T:Txt mg cs)(L:Laid K mg "is_stand" q2u ["cellar","thing"])(wy:Cal P w K mg base 1 "within" ["number","least","most"] q2W)(wW:Cal P w K mg base 2 "has_bits_of" ["bits","all_bits"] qb6)(vA:Cal P w K mg base 1 "thing_bits" ["cellar"] q86)
  (vD:Cal P w K mg base 2 "door_bits" ["cellar"] q8b)(w8:Cal P w K mg base 2 "held" ["cellar","stand"] q5m):Cal P w K mg base 3 "is_stand" ["cellar","thing"] spIs:=by
 obtain⟨t1,vp⟩:=T.vp
 obtain⟨t2,wQ⟩:=T.wQ
 obtain⟨t3,wm⟩:=T.wm
 obtain⟨t4,vP⟩:=T.vP
 obtain⟨t5,we⟩:=T.we
 obtain⟨t6,vO⟩:=T.vO
 obtain⟨t7,wD⟩:=T.wD
 obtain⟨t8,vb⟩:=T.vb
 obtain⟨t9,wI⟩:=T.wI
 refine L.cal (k:=2) q6i (fun vs H Q E h=>?_) (fun f cdv A outer s H vs Q E hr h=>?_)
 ·obtain ⟨p,q,C,xs,rfl,_⟩:=h
  rfl
 ·obtain ⟨p,q,C,xs,rfl,hC,ok,hq,hl,k⟩:=h
  obtain⟨pw,pt,pl,pv',h0,_⟩:=hC.ex
  refine⟨_,(qg (qO (qw q5R (qD (lenK K) rfl T.ww q0i (qa (pv 1) qd)) (qx (v:= .int 5) rfl vP ⟨_,rfl⟩) (qu _)) (qi (qp q1D)) qy)
   (qi (qp (q2G (qB wy hr (by decide) rfl (qa (qm (qj K) (pv 1) (qx (v:= .int 0) rfl we ⟨_,rfl⟩) (fun _ _=>rfl)) (qa qc (qa (qk q3x (qm (qj K) (pv 0) (qx (v:= .int 0) rfl vO ⟨_,rfl⟩) (fun _ _=>rfl)) qc) qd)))) (q2G (qB wW hr (by decide) rfl (qa (qm (qj K) (pv 1) (qx (v:= .int 1) rfl wD ⟨_,rfl⟩) (fun _ _=>rfl)) (qa (qB vA hr (by decide) rfl (qa (pv 0) qd)) qd))) (q2G (qB wW hr (by decide) rfl (qa (qm (qj K) (pv 1) (qx (v:= .int 2) rfl wm ⟨_,rfl⟩) (fun _ _=>rfl)) (qa (qB vD hr (by decide) rfl (qa (pv 0) qd)) qd))) (q2G (qB wy hr (by decide) rfl (qa (qm (qj K) (pv 1) (qx (v:= .int 3) rfl wQ ⟨_,rfl⟩) (fun _ _=>rfl)) (qa qc (qa (qx (v:= .int 255) rfl vp ⟨_,rfl⟩) qd)))) (q2G (qB wy hr (by decide) rfl (qa (qm (qj K) (pv 1) (qx (v:= .int 4) rfl wI ⟨_,rfl⟩) (fun _ _=>rfl)) (qa qc (qa (qx (v:= .int 9) rfl vb ⟨_,rfl⟩) qd)))) (q2F (qR q7w (qD (minLK K rfl) rfl T.waN q9B (qa (qB w8 hr (by decide) rfl (qa (pv 0) (qa (pv 1) qd))) qd)) qc (qu _))))))))))),?_⟩
  walk_at "r"
  refine ifn (fun hn=>?_) (fun hn=>?_)
  ·walk_at "r"
   have:=k H (Same.refl _)
   rw[q4E (fun z=>hn (by rw[yC,z];rfl))] at this
   exact this
  have hn5:xs.length=5:=by rw[yC] at hn;omega
  obtain⟨rm,tk,op,b,wt,rfl⟩:∃rm tk op b wt,xs=[rm,tk,op,b,wt]:=by
   match xs,hn5 with
   |[rm,tk,op,b,wt],_=>exact⟨rm,tk,op,b,wt,rfl⟩
  replace hq:H q=some (.tup [.int rm,.int tk,.int op,.int b,.int wt]):=hq
  have fls:∀Hn,Same H Hn->stOk C [rm,tk,op,b,wt]=false->Q (.bl false) Hn:=fun Hn sn e=>by have:=k Hn sn;rw[e] at this;exact this
  rw[q3L] at fls k
  have e1:(decide (0<=rm)&&decide (rm<=C.rooms - 1))=decide (0<=rm/\rm<C.rooms):=by
   rw[zP];simp;omega
  have e4:(decide (0<=b)&&decide (b<=255))=decide (0<=b/\b<256):=by
   rw[zP];simp;omega
  have e5:(decide (0<=wt)&&decide (wt<=9))=decide (0<=wt/\wt<10):=by
   rw[zP];simp;omega
  walk_at "r"
  refine⟨rm,0,C.rooms - 1,rfl,?_⟩
  rw[e1]
  walk_at "r"
  refine ite2 (fun c1=>?_) (fun c1=>fls _ (Same.refl _) (by simp[c1]))
  walk_at "r"
  refine⟨p,C,rfl,hC,ok,?_⟩
  walk_at "r"
  refine⟨tk,_,rfl,?_⟩
  rw[qaH]
  walk_at "r"
  refine ite2 (fun c2=>?_) (fun c2=>fls _ (Same.refl _) (by simp[c2]))
  walk_at "r"
  refine⟨p,C,rfl,hC,ok,fun H1 s1=>?_⟩
  have hq1:=s1 _ _ hq
  have hC1:=hC.mono s1.ts
  walk_at "r"
  refine⟨op,_,rfl,?_⟩
  rw[q4t]
  walk_at "r"
  refine ite2 (fun c3=>?_) (fun c3=>fls _ s1 (by rw[zbD] at c3;rw[c3];simp))
  walk_at "r"
  refine⟨b,0,255,rfl,?_⟩
  rw[e4]
  walk_at "r"
  refine ite2 (fun c4=>?_) (fun c4=>fls _ s1 (by simp[c4]))
  walk_at "r"
  refine⟨wt,0,9,rfl,?_⟩
  rw[e5]
  walk_at "r"
  refine ite2 (fun c5=>?_) (fun c5=>fls _ s1 (by simp[c5]))
  walk_at "r"
  have hdr:∀i,i<C.ways.length->bit op i=true->(dsOf C i).isSome=true:=fun i hi hb=>by
   have:=(Bool.and_eq_true_iff.mp c3).2
   unfold drs at this
   have:=zaB.mp this i (za2.mpr hi)
   simpa[hb] using this
  refine⟨p,q,C,rm,tk,op,b,wt,rfl,hC1,ok,hq1,hdr,fun r H2 s2 hr0 hr2=>?_⟩
  rw[cl_map] at hr2
  walk_at "r"
  refine r_minL (SqL.of hr2) (by simp) fun M m1 m2=>?_
  walk_at "r"
  have:=k H2 (s1.trans s2)
  rw[qcp m1 m2,qaE]
  rw[c1,c2,c3,c4,c5] at this
  exact this
end
seal L2.PA L2.PE L2.PI L2.PS L2.PSs L2.PG L2.PT
def Sml (n:Int):Prop:=n.natAbs.log2<1920
theorem Sml.of {n:Int}(h:n.natAbs<2 ^ 1000):Sml n:=by
 unfold Sml
 by_cases h0:n.natAbs=0
 ·rw [h0];walk_at "k"
 ·have:=(Nat.log2_lt h0).mpr h
  omega
theorem sml_in {n:Int}(h1: -100000<=n)(h2:n<=100000):Sml n:= .of (by
 have:n.natAbs<=100000:=by omega
 exact zbp this (by walk_at "k"))
theorem qbf {A:Around}{k:Nat}(hr:Room k A):A.units+8<cLine:=by have:=hr.un;omega
theorem jc {y:Str}{ts:List TE}{n:Nat}{σ:St}{H:Hp}{Q:VK}(hy:y.length<=100)(hn:n<=500000)(q:∀m,m<=n+100->q5j ts m σ H Q):q5j (tC (.str y)::ts) n σ H Q:=⟨y,rfl,by have:=qF;omega,q _ (by omega)⟩
theorem jn {n:Nat}{σ:St}{H:Hp}{Q:VK}(q:∀z:Str,z.length<=n->Q (.str z) H):q5j [] n σ H Q:=fun z hz=>q z (by omega)
theorem jft {te:TE}{ts:List TE}{n:Nat}{σ:St}{H:Hp}{Q:VK}{p:Addr}{xs:List V}(hp:H p=some (.tup xs))(hl:xs.length<=20)(hx:∀y∈xs,q53 y)(hn:n<=500000)(ht:∀K:VK,K (.ref p) H->te σ H K)(q:∀m,m<=n+50000->q5j ts m σ H Q):q5j (tFt te::ts) n σ H Q:=
 ht _ ⟨p,xs,rfl,hp,hl,hx,fun z hz=>⟨z,rfl,by have:=qF;omega,q _ (by omega)⟩⟩
theorem q4w (x:Int)(t:Nat):decide (Builtin.bitAnd (x / 2 ^ t) 1=0)= !bit x t:=by
 unfold bit
 rw[PyProof.Rows.bitAnd_m1,zP]
 simp
 omega
def q9P (K:W.Frag):Sp:=fun vs H Q _=>∃(a:Addr) (ns:List Int),vs=[.ref a]/\SqL K H a (ns.map V.int)/\ns.length<=63/\∀H',Q (.bl true) H'
theorem qT {H H':Hp}{a:Addr}{o:HO}(e:upd H a o=H')(h:H a=none):Same H H':=e▸Same.upd h
theorem qV {H H':Hp}{a:Addr}{o:HO}(e:upd H a o=H'):H' a=some o:=e▸qe
theorem q3Y {A:Around}{k:Nat}(hr:Room k A):A.units+1+1<cLine:=by have:=hr.un;omega
theorem q01.pairs {H:Hp}{ps:List Addr}{R:List Sd}(h:Rows SAt H ps R):∃l:List (Addr×List Int),l.map (·.1)=ps/\l.map (·.2)=R.map Sd.ns/\∀x∈l,H x.1=some (.tup (x.2.map V.int))/\x.2.length=5:=by
 refine⟨List.zip ps (R.map Sd.ns),?_,?_,fun x hx=>?_⟩
 ·exact List.map_fst_zip (by rw[yC,h.1];exact zn _)
 ·exact List.map_snd_zip (by rw[yC,h.1];exact zn _)
 ·obtain ⟨i,hi,e⟩:=zbU hx
  rw[List.length_zip,yC] at hi
  have hi1:i<ps.length:=by omega
  have hi2:i<R.length:=by omega
  have:=h.2 i ps[i] R[i] (yB hi1) (yB hi2)
  rw[List.getElem_zip] at e
  subst e
  simp only[List.getElem_map]
  exact⟨this,rfl⟩
theorem q7n {H:Hp}{ps:List Addr}{R:List Sd}{l l':List (Addr×List Int)}(h2:l.map (·.2)=R.map Sd.ns)(h3:∀x∈l,H x.1=some (.tup (x.2.map V.int))/\x.2.length=5)(hp:l'.Perm l)(hs:l'.Pairwise fun a b=>¬b.2<a.2):
  ∃R',R'.Perm R/\Ord R'/\Rows SAt H (l'.map (·.1)) R':=by
 have ex:∀x∈l',∃s:Sd,x.2=s.ns:=fun x hx=>by
  have:x.2∈l.map (·.2):=zaN.mpr ⟨x,hp.mem_iff.mp hx,rfl⟩
  rw[h2] at this
  obtain⟨s,_,e⟩:=zaN.mp this
  exact⟨s,e.symm⟩
 obtain⟨R',hR⟩:∃R':List Sd,l'.map (·.2)=R'.map Sd.ns:=by
  clear hp hs
  induction l' with
  |nil=>exact⟨[],rfl⟩
  |cons x l' ih=>
   obtain⟨R',e⟩:=ih fun y hy=>ex y (zE _ hy)
   obtain⟨s,es⟩:=ex x (.head _)
   exact⟨s::R',by simp[e,es]⟩
 have pm:(R'.map Sd.ns).Perm (R.map Sd.ns):=by rw[<-hR,<-h2];exact hp.map _
 refine⟨R',?_,?_,?_⟩
 ·have inv:∀l:List Sd,(l.map Sd.ns).map (fun k:List Int=>(⟨k.getD 0 0,k.getD 1 0,k.getD 2 0,k.getD 3 0,k.getD 4 0⟩:Sd))=l:=fun l=>by
   rw[za6]
   exact(zax fun a _=>rfl).trans (zcs l)
  have:=pm.map fun k:List Int=>(⟨k.getD 0 0,k.getD 1 0,k.getD 2 0,k.getD 3 0,k.getD 4 0⟩:Sd)
  rwa [inv,inv] at this
 ·have:(l'.map (·.2)).Pairwise fun a b=>¬b<a:=zch.mpr hs
  rw[hR] at this
  exact zch.mp this
 ·have hl:l'.length=R'.length:=by have:=zae List.length hR;simpa using this
  refine⟨by simpa using hl,fun i p x hp' hx=>?_⟩
  have hi:i<R'.length:=(yA hx).1
  have e1:l'[i]'(by omega)∈l':=zL _
  have e2:=(h3 _ (hp.mem_iff.mp e1)).1
  have e3:(l'[i]'(by omega)).1=p:=by simpa[show i<l'.length by omega] using hp'
  have e4:(l'[i]'(by omega)).2=x.ns:=by
   have:=zae (fun z=>z[i]?) hR
   simp only[List.getElem?_map,hx,yB (show i<l'.length by omega),Option.map_some] at this
   exact zC this
  rw[e3,e4] at e2
  exact e2
theorem DAtS.lput {H:Hp}{R D:Addr}{l:Dk}{xs:List V}{o:HO}(hR:H R=some (.lst xs))(h:DAtS H D l):DAtS (upd H R o) D l:=by
 show upd H R o D=_
 rw[qq (q6s h hR (by intro z;cases z))]
 exact h
theorem Rd.same {H H':Hp}(s:Same H H'){a:Addr}{u:HO}(h:Rd H a u):Rd H' a u:=by
 rcases h with h|⟨o,h⟩
 ·exact .inl (s _ _ h)
 ·exact .inr ⟨o,s _ _ h⟩
theorem dT_ts {H:Hp}{D:Addr}{kvs:List (List Key×V)}{o:HO}(hD:H D=some (.dT kvs)):q0m H (upd H D o):=fun p xs h=>by rw[qq (q6s h hD (by intro z;cases z))];exact h
def Opn (I nx:St->Hp->Prop)(rt:VK)(P:Ends->Prop):Prop:=∀D:Ends,(∀σ H,I σ H->D.nx σ H)->(∀σ H,I σ H->D.ct σ H)->(∀σ H,nx σ H->D.bk σ H)->(∀v H,rt v H->D.rt v H)->P D
section
variable {K:W.Frag}{a:Addr}{g:TG}{tb:TS}{nx:St->Hp->Prop}{rt:VK}{σ:St}{H:Hp}
theorem q3a {lo:Int}{n:Nat}(Pv:Nat->St->Hp->Prop)(h0:Pv 0 σ H)(go:∀i σ H,i<n->Pv i σ H->Opn (Pv (i+1)) nx rt fun D=>g (.int (lo+(i:Nat))) σ H fun σ2 H2=>tb D σ2 H2)(stop:∀σ H,Pv n σ H->nx σ H):ForG (Itr lo n) g tb nx rt σ H:=
 q3Z Pv h0 (fun i σ H hi p=>go i σ H hi p ⟨Pv (i+1),rt,nx,Pv (i+1)⟩ (fun _ _ h=>h) (fun _ _ h=>h) (fun _ _ h=>h) fun _ _ h=>h) stop
theorem q2A (xs:List V)(Pv:Nat->St->Hp->Prop)(h0:Pv 0 σ H)(hl:∀i σ H,Pv i σ H->SqL K H a xs)(go:∀i x σ H,xs[i]? =some x->Pv i σ H->Opn (Pv (i+1)) nx rt fun D=>g x σ H fun σ2 H2=>tb D σ2 H2)(stop:∀σ H,Pv xs.length σ H->nx σ H):ForG (Itl K a) g tb nx rt σ H:=
 q6x xs Pv h0 hl (fun i x σ H hx p=>go i x σ H hx p ⟨Pv (i+1),rt,nx,Pv (i+1)⟩ (fun _ _ h=>h) (fun _ _ h=>h) (fun _ _ h=>h) fun _ _ h=>h) stop
end
def q6g (K:W.Frag):Sp:=fun vs H Q _=>∃(a:Addr) (ns:List Int) (i:Int),vs=[.ref a,.int i]/\SqL K H a (ns.map V.int)/\ns.length<=63/\0<=i/\Q (.int (ns.getD i.toNat 0)) H
section
variable {P:Program}{w:World}{K:W.Frag}{mg:Str->Option Value}{base:Heap}{cs:Cs}
theorem qas (T:Txt mg cs)(L:Laid K mg "_law_cell_at" q0P ["_law_script","_law_k"]):Cal P w K mg base 1 "_law_cell_at" ["_law_script","_law_k"] (q6g K):=by
 refine L.cal (k:=0) q3O (fun vs H Q E h=>?_) (fun f cdv A outer s H vs Q E hr h=>?_)
 ·obtain ⟨a,ns,i,rfl,_⟩:=h
  rfl
 ·obtain ⟨a,ns,i,rfl,hS,hl,h0,k⟩:=h
  refine⟨_,(qg (qO (qw q8F (pv 1) (qD (lenK K) rfl T.ww q0i (qa (pv 0) qd)) (qu _)) (qi (qp (qm (q0d K) (pv 0) (pv 1) (fun _ _=>rfl)))) qy)
   (qi (qp qc))),?_⟩
  walk_at "r"
  refine ifd (fun h=>?_) (fun h=>?_)
  ·rw [yC] at h
   obtain⟨j,rfl⟩:∃j:Nat,i=(j:Int):=⟨i.toNat,by omega⟩
   walk_at "r"
   refine q6o hS (q50 (by omega)) ?_
   rw[zp] at k
   exact k
  ·rw [yC] at h
   walk_at "r"
   rw[show ns.getD i.toNat 0=0 by simp[List.getD,show ns.length<=i.toNat by omega]] at k
   exact k
def PrAt (C:Cl)(s:Sd)(H:Hp)(p:Addr)(x:Wd×Nat):Prop:=∃t r,H p=some (.tup [.ref t,.ref r])/\TAt H t x/\SAt H r (q1p C s x.1 (x.2:Int))
theorem PrAt.mono {C:Cl}{s:Sd}{H H':Hp}(ts:q0m H H'){p:Addr}{x:Wd×Nat}(h:PrAt C s H p x):PrAt C s H' p x:=let ⟨t,r,a,b,c⟩:=h;⟨t,r,ts _ _ a,ts _ _ b,ts _ _ c⟩
def q3i:Sp:=fun vs H Q _=>∃(c q:Addr) (C:Cl) (s:Sd),vs=[.ref c,.ref q]/\ClAt H c C/\ClOk C/\SAt H q s/\s.ok C/\∀(l:Addr) (H':Hp),Same H H'->H l=none->q01 (PrAt C s) H' l (fitD C s)->Q (.ref l) H'
theorem qal (T:Txt mg cs)(L:Laid K mg "leads" q3P ["cellar","stand"])(vE:Cal P w K mg base 7 "fit_deeds" ["cellar","stand"] (q8a cs))(vt:∀d,VMeth P w K mg base 1 (dcls cs d) "told" ["self"] (q6e cs d))(vd:∀d,VMeth P w K mg base 2 (dcls cs d) "done" ["self","cellar","stand"] (q3s cs d)):Cal P w K mg base 8 "leads" ["cellar","stand"] q3i:=by
 refine L.cal (k:=7) q9T (fun vs H Q E h=>?_) (fun f cdv A outer s H vs Q E hr h=>?_)
 ·obtain ⟨c,q,C,st,rfl,_⟩:=h
  rfl
 ·obtain ⟨c,q,C,st,rfl,hC,ok,hq,sok,k⟩:=h
  have big:=qF
  have hal:=qaO ok st
  refine⟨_,(qi (qp (q1o (q0L (N:=["deed","cellar","stand"]) (own:=1) (caps:=[0,1]) ["cellar","stand"] (qh q3P) (by walk_at "k")) rfl (q0b K (qB vE hr (by decide) rfl (qa (pv 0) (qa (pv 1) qd)))) (fun _ _ _ _=>(qr (i:=0) (show List.Nodup (["deed","cellar","stand"]:List Str) by walk_at "k") rfl (Or.inl rfl))) (fun _ _ _ _=>q1H) (fun _ _ _ _=>(qz (qa (qbY (k:=1) P w K mg base hr (by decide) (pv 0)) (qa (qba (k:=2) P w K mg base hr (by decide) (pv 0) (qa (pv 1) (qa (pv 2) qd))) qd))))))),?_⟩
  walk_at "r"
  refine⟨c,q,C,st,rfl,hC,ok,hq,sok,fun l H1 s1 hl0 m1=>?_⟩
  obtain⟨ps,e1,r1⟩:=m1
  walk_at "r"
  intro D hD
  refine q1f (ps.map V.ref) (fun i σ H'=>∃v0,σ=[v0,some (.ref c),some (.ref q)]/\Same H1 H'/\q01 (PrAt C st) H' D ((fitD C st).take i)) ⟨none,rfl,Same.upd hD,⟨[],qe,Rows.nil⟩⟩ ?_ ?_ ?_
  ·rintro i σ H' ⟨_,rfl,s2,_⟩
   exact SqL.of (s2 _ _ e1)
  ·rintro i x σ H' hx ⟨v0,rfl,s2,qs,hqs,hrw⟩
   have hi:i<(fitD C st).length:=by have:=(yA hx).1;rw[yC,r1.1] at this;exact this
   obtain⟨p,ep,hob⟩:=r1.get hi
   rw[hx] at ep
   cases ep
   have hc:canD C st (fitD C st)[i].1 ((fitD C st)[i].2:Int)=true:=q37.mp (zL hi)
   have hob2:=DAt.mono s2 hob
   obtain⟨dx,hp⟩:=hob2.ex
   have hqlen:qs.length<=100:=by
    rw[hrw.1,zD];omega
   have s12:=s1.trans s2
   walk_at "r"
   refine r_vm hp (vt _) (qcL _ _) ?_
   refine⟨p,_,rfl,hob2,fun t H3 s3 ht3=>?_⟩
   have hq3:=s3 _ _ hqs
   have hob3:=DAt.mono s3 hob2
   obtain⟨dx3,hp3⟩:=hob3.ex
   have s13:=s12.trans s3
   walk_at "r"
   refine r_vm hp3 (vd _) (q9g _ _) ?_
   walk_at "r"
   refine⟨p,c,q,C,st,_,rfl,hob3,hC.mono s13.ts,ok,s13 _ _ hq,sok,hc,fun r H4 s4 hr4=>?_⟩
   have hq4:=s4 _ _ hq3
   walk_at "r"
   intro z hz
   have s5:=Same.upd (o:= .tup [.ref t,.ref r]) hz
   have hq5:=s5 _ _ hq4
   have hz5:=qe (H:=H4) (a:=z) (o:= .tup [.ref t,.ref r])
   generalize upd H4 z (.tup [.ref t,.ref r])=H5 at s5 hq5 hz5 ⊢
   refine⟨_,hq5,by rw[yC];omega,_,rfl,(((s2.trans s3).trans s4).trans s5).put hD,?_⟩
   rw[zw hi]
   exact q0f (fun _ _ h=>PrAt.mono (q0m.lst hq5) h) (hrw.mono fun _ _=>PrAt.mono ((s3.trans s4).trans s5).ts) ⟨t,r,hz5,(s4.trans s5) _ _ ht3,s5 _ _ hr4⟩
  ·rintro σ H' ⟨v0,rfl,s2,m2⟩
   rw[yC,r1.1,zQ] at m2
   exact k D H' (s1.trans s2) (s1.free hD) m2
def q3M:Sp:=fun vs H Q _=>∃(c q:Addr) (C:Cl) (s:Sd) (kd:Int),vs=[.ref c,.ref q,.int kd]/\ClAt H c C/\ClOk C/\SAt H q s/\∀H',Same H H'->Q (.int (hold C s.tk s.op kd)) H'
def q87:Sp:=fun vs H Q _=>∃(c q:Addr) (C:Cl) (s:Sd) (i:Nat) (x:Way),vs=[.ref c,.ref q,.int i]/\ClAt H c C/\ClOk C/\SAt H q s/\C.ways[i]? =some x/\∀H',Same H H'->Q (.bl (q3W x.g (hold C s.tk s.op) (bit s.op i) s.b s.wt)) H'
theorem q4v (x:Int)(t:Nat):Builtin.bitAnd (x / 2 ^ t) 1=if bit x t=true then 1 else 0:=by
 have a:=q2C x t
 have b:=q4w x t
 cases h:bit x t with
 |true=>rw[h] at a;rw[zt rfl];exact zaG a
 |false=>rw[h] at b;rw[zo zu];exact zaG b
local macro_rules| `(tactic| walk_at "wk")=> `(tactic| repeat (first|walk_at "rd1" |(refine ifd (fun h=>absurd h (by decide)) (fun _=>?_))|(refine ifd (fun _=>?_) (fun h=>absurd (by decide) h))))
theorem q8K (T:Txt mg cs)(L:Laid K mg "_law_amount" q1a ["_law_cave_here","_law_stand","_law_kind"]):Cal P w K mg base 1 "_law_amount" ["_law_cave_here","_law_stand","_law_kind"] q3M:=by
 refine L.cal (k:=0) q0j (fun vs H Q E h=>?_) (fun f cdv A outer s H vs Q E hr h=>?_)
 ·obtain ⟨c,q,C,st,kd,rfl,_⟩:=h
  rfl
 ·obtain ⟨c,q,C,st,kd,rfl,hC,ok,hq,k⟩:=h
  obtain⟨pw,pt,pl,pv',h0,h1,h2,_⟩:=hC.ex
  obtain⟨wv,hw,hwl,hwg⟩:=h1.get
  obtain⟨tv,ht,htl,htg⟩:=h2.get
  have hq:H q=some (.tup [.int st.rm,.int st.tk,.int st.op,.int st.b,.int st.wt]):=hq
  have big:=qF
  have hu:=zbv (qcz hr)
  have okw:=ok.wl
  have okt:=ok.tl
  have htl2:(tv.length:Int)<=8:=by omega
  have hwl2:(wv.length:Int)<=20:=by omega
  refine⟨_,(qg (qC (i:=3) q0j.nd rfl (Or.inl rfl) qc)
   (qg (q0K PassesOwn.never rfl (q0a rfl T.wB (qa (qD (lenK K) rfl T.ww q0i (qa (qm (qj K) (pv 0) qc (fun _ _=>rfl)) qd)) qd)) (qr (i:=4) q0j.nd rfl (Or.inl rfl)) (qi (qC (i:=3) q0j.nd rfl (Or.inl rfl) (qk q03 (pv 3) (qk q4q (q0y int1 rfl T.waO q9C (qa (qR qS (qm (qj K) (qm (qj K) (qm (qj K) (pv 0) qc (fun _ _=>rfl)) (pv 4) (fun _ _=>rfl)) qc (fun _ _=>rfl)) (pv 2) (qu _)) qd)) (qk q3T (qk q4p (qm (qj K) (pv 1) qc (fun _ _=>rfl)) (pv 4)) qc))))))
   (qg (q0K PassesOwn.never rfl (q0a rfl T.wB (qa (qD (lenK K) rfl T.ww q0i (qa (qm (qj K) (pv 0) qc (fun _ _=>rfl)) qd)) qd)) (qr (i:=4) q0j.nd rfl (Or.inl rfl)) (qi (qC (i:=3) q0j.nd rfl (Or.inl rfl) (qk q3x (pv 3) (qk q4q (q0y int1 rfl T.waO q9C (qa (qR (q8G K hu) (qm (qj K) (qm (qj K) (qm (qj K) (pv 0) qc (fun _ _=>rfl)) (pv 4) (fun _ _=>rfl)) qc (fun _ _=>rfl)) (qz (qa qM (qa (pv 2) qd))) (qu _)) qd)) (qk q3T (qk q4p (qm (qj K) (pv 1) qc (fun _ _=>rfl)) (pv 4)) qc))))))
   (qi (qp (pv 3)))))),?_⟩
  walk_at "r"
  refine q3Z (fun i σ H'=>∃v4,σ=[some (.ref c),some (.ref q),some (.int kd),some (.int (cnt (tP C st.tk kd) i:Int)),v4]/\H'=H) ⟨none,rfl,rfl⟩ ?_ ?_
  ·rintro i σ H' hi ⟨v4,rfl,rfl⟩
   have hi2:i<C.things.length:=by rw[<-htl];simpa using hi
   obtain⟨p2,hx,hp2⟩:=htg i hi2
   have step:=q9n (C:=C) (tk:=st.tk) (k:=kd) hi2
   have hp3:H' p2=_:=hp2
   walk_at "r"
   refine⟨some (.int (0+(i:Nat))),?_,rfl⟩
   rw[zau (i:Int),zp,q4v,step]
   show [_,_,_,some (V.int (_+_)),_]=_
   congr 5
   by_cases e1:C.things[i].2=kd
   ·rw [zt (zr e1),zaK,zt e1.symm]
   ·rw [zo (by simpa using e1),Int.zero_mul,zo (show¬kd=C.things[i].2 from fun z=>e1 z.symm)]
    split<;>rfl
  ·rintro σ H' ⟨v4,rfl,rfl⟩
   have e1:(↑tv.length:Int).toNat=C.things.length:=by rw[zp,htl]
   rw[e1]
   walk_at "r"
   refine q3Z (fun i σ H2=>∃v4,σ=[some (.ref c),some (.ref q),some (.int kd),some (.int ((cnt (tP C st.tk kd) C.things.length:Int) - (cnt (dP (dsOf C) st.op kd) i:Int))),v4]/\Same H' H2) ⟨v4,by rw[show(cnt (dP (dsOf C) st.op kd) 0:Int)=0 from rfl,Int.sub_zero],Same.refl _⟩ ?_ ?_
   ·rintro i σ H2 hi ⟨v4,rfl,s2⟩
    have hi2:i<C.ways.length:=by rw[<-hwl];simpa using hi
    obtain⟨p2,hx,g2,hp2,hg2⟩:=hwg i hi2
    have hp3:=s2 _ _ hp2
    have hg3:=s2 _ _ hg2
    have h0c:=s2 _ _ h0
    have hwc:=s2 _ _ hw
    have step:=q9p (C:=C) (op:=st.op) (k:=kd) hi2
    walk_at "r"
    intro t5 ht5
    have s5:Same H2 (upd H2 t5 (.tup [.str "door",.int kd])):=Same.upd ht5
    have hq5:=(s2.trans s5) _ _ hq
    refine⟨g2,t5,_,_,rfl,rfl,SqT.of (s5 _ _ hg3),SqT.of qe,Gt.flat _,rfl,?_⟩
    rw[qcH]
    walk_at "r"
    refine⟨some (.int (0+(i:Nat))),?_,s2.trans s5⟩
    rw[zau (i:Int),zp,q4v,step]
    show [_,_,_,some (V.int (_ - _)),_]=_
    congr 5
    by_cases e1:C.ways[i].g.dk=some kd
    ·rw [zt (zr e1),zaK,zt e1,Int.sub_sub]
    ·rw [zo (by simpa using e1),Int.zero_mul,zo e1,Int.sub_zero]
     split<;>rw[zbq]
   ·rintro σ H2 ⟨v4,rfl,s2⟩
    have e2:(↑wv.length:Int).toNat=C.ways.length:=by rw[zp,hwl]
    rw[e2]
    walk_at "r"
    exact k H2 s2
theorem qak (T:Txt mg cs)(L:Laid K mg "_law_lets" q1N ["_law_cave_here","_law_stand","_law_k"])(wq:Cal P w K mg base 1 "_law_amount" ["_law_cave_here","_law_stand","_law_kind"] q3M):Cal P w K mg base 2 "_law_lets" ["_law_cave_here","_law_stand","_law_k"] q87:=by
 refine L.cal (k:=1) q3t (fun vs H Q E h=>?_) (fun f cdv A outer s H vs Q E hr h=>?_)
 ·obtain ⟨c,q,C,st,i,x,rfl,_⟩:=h
  rfl
 ·obtain ⟨c,q,C,st,i,x,rfl,hC,ok,hq,hx,k⟩:=h
  obtain⟨pw,pt,pl,pv',h0,h1,_⟩:=hC.ex
  obtain⟨wv,hw,hwl,hwg⟩:=h1.get
  have hi:i<C.ways.length:=(yA hx).1
  have ex:C.ways[i]=x:=(yA hx).2
  obtain⟨p2,hxp,g2,hp2,hg2⟩:=hwg i hi
  have hxa:atI wv (i:Int)=some (.ref p2):=q0r hxp
  have okx:=ok.w x (za1 hx)
  rw[ex] at hp2 hg2
  have hq':H q=some (.tup [.int st.rm,.int st.tk,.int st.op,.int st.b,.int st.wt]):=hq
  refine⟨_,(qg (qC (i:=3) q3t.nd rfl (Or.inl rfl) (qm (qj K) (qm (qj K) (qm (qj K) (pv 0) qc (fun _ _=>rfl)) (pv 2) (fun _ _=>rfl)) qc (fun _ _=>rfl)))
   (qg (qO (qw qS (qm (qj K) (pv 3) qc (fun _ _=>rfl)) qM (qu _)) (qi (qp (qR qS (qk q3T (qk q4p (qm (qj K) (pv 1) qc (fun _ _=>rfl)) (pv 2)) qc) qc (qu _)))) qy)
   (qg (qO (qw qS (qm (qj K) (pv 3) qc (fun _ _=>rfl)) qM (qu _)) (qi (qp (qR q4j (qB wq hr (by decide) rfl (qa (pv 0) (qa (pv 1) (qa (qm (qj K) (pv 3) qc (fun _ _=>rfl)) qd)))) qc (qu _)))) qy)
   (qg (qO (qw qS (qm (qj K) (pv 3) qc (fun _ _=>rfl)) qM (qu _)) (qi (qp (qR qS (qk q3T (qk q4p (qm (qj K) (pv 1) qc (fun _ _=>rfl)) (qm (qj K) (pv 3) qc (fun _ _=>rfl))) qc) qc (qu _)))) qy)
   (qg (qO (qw qS (qm (qj K) (pv 3) qc (fun _ _=>rfl)) qM (qu _)) (qi (qp (qaa (qR qag (qm (qj K) (pv 1) qc (fun _ _=>rfl)) (qm (qj K) (pv 3) qc (fun _ _=>rfl)) (qu _)) (q2F (qR q4j (qB wq hr (by decide) rfl (qa (pv 0) (qa (pv 1) (qa (qm (qj K) (pv 3) qc (fun _ _=>rfl)) qd)))) qc (qu _)))))) qy)
   (qi (qp (qaa (qR qS (qm (qj K) (pv 3) qc (fun _ _=>rfl)) qM (qu _)) (q2F (qR q7w (qm (qj K) (pv 1) qc (fun _ _=>rfl)) (qm (qj K) (pv 3) qc (fun _ _=>rfl)) (qu _))))))))))),?_⟩
  walk_at "r"
  have gok:=okx.2.2.2
  have held:∀(kd:Int) (Q':VK),(∀H',Same H H'->Q' (.int (hold C st.tk st.op kd)) H')->q3M [.ref c,.ref q,.int kd] H Q' E0:=fun kd Q' q'=>⟨c,q,C,st,kd,rfl,hC,ok,hq,q'⟩
  cases eg:x.g with
  |plain=>
   rw[eg] at hg2 k
   have hg5:H g2=some (.tup [.str "plain"]):=hg2
   walk_at "wk"
   exact k H (Same.refl _)
  |door kd=>
   rw[eg] at hg2 k
   have hg5:H g2=some (.tup [.str "door",.int kd]):=hg2
   walk_at "wk"
   rw[zp,q2C]
   exact k H (Same.refl _)
  |need kd=>
   rw[eg] at hg2 k
   have hg5:H g2=some (.tup [.str "need",.int kd]):=hg2
   walk_at "wk"
   refine held kd _ fun H4 s4=>?_
   walk_at "wk"
   exact k H4 s4
  |bar kd=>
   rw[eg] at hg2 gok k
   have hg5:H g2=some (.tup [.str "bar",.int kd]):=hg2
   have gok:0<=kd/\kd<8:=gok
   walk_at "wk"
   rw[q2C]
   exact k H (Same.refl _)
  |float h=>
   rw[eg] at hg2 k
   have hg5:H g2=some (.tup [.str "float",.int h]):=hg2
   walk_at "wk"
   exact k H (Same.refl _)
  |wade h kd=>
   rw[eg] at hg2 k
   have hg5:H g2=some (.tup [.str "wade",.int h,.int kd]):=hg2
   walk_at "wk"
   refine ifd (fun hw=>?_) (fun hw=>?_)
   ·walk_at "r"
    have:=k H (Same.refl _)
    rwa [show q3W (.wade h kd) (hold C st.tk st.op) (bit st.op i) st.b st.wt=true by simp[q3W,hw]] at this
   ·walk_at "r"
    refine held kd _ fun H4 s4=>?_
    walk_at "r"
    have:=k H4 s4
    rwa [show q3W (.wade h kd) (hold C st.tk st.op) (bit st.op i) st.b st.wt=decide (0<hold C st.tk st.op kd) by simp[q3W,hw]] at this
theorem gt_at (gt:Gt):atI gt.vs 0=some (.str gt.word):=by cases gt<;>rfl
theorem gt_dr (gt:Gt):decide (gt.word="door")=gt.dk.isSome:=by cases gt<;>first|rfl|decide
def canR (C:Cl)(s:Sd)(d:Wd)(n:Nat):List (Wd×Nat):=(rowD d n).filter fun x=>canB C s x.2 x.1
theorem q2r (C:Cl)(s:Sd)(d:Wd)(n:Nat):canR C s d (n+1)=canR C s d n++(if canB C s n d=true then [(d,n)] else []):=by
 unfold canR
 rw[q5M,zaW,List.filter_cons]
 rfl
theorem q0S (C:Cl)(s:Sd)(d:Wd)(n:Nat):(canR C s d n).length<=n:=zab (zbg _ _) (by rw[q36];omega)
theorem qcE {C:Cl}{s:Sd}(h:¬s.rm=C.lst):fitD C s=canR C s .go C.ways.length++canR C s .pull C.levers.length++canR C s .take C.things.length++canR C s .turn C.wheels.length++canR C s .unlock C.ways.length:=by
 have e:(fun x:Wd×Nat=>canD C s x.1 (x.2:Int))=fun x=>canB C s x.2 x.1:=by funext x;exact q9u h
 unfold fitD allD canR
 rw[e,zaW,zaW,zaW,zaW]
theorem q98 {C:Cl}{s:Sd}(h:s.rm=C.lst):fitD C s=[]:=by
 unfold fitD
 exact List.filter_eq_nil_iff.mpr fun x _=>by rw[q61 h];decide
theorem can_go {C:Cl}{s:Sd}{i:Nat}{x:Way}(h:C.ways[i]? =some x):canB C s i .go=(q0W x s.rm&&q3W x.g (hold C s.tk s.op) (bit s.op i) s.b s.wt):=by simp only[canB,h]
theorem q9t {C:Cl}{s:Sd}{i:Nat}{x:Way}{k:Int}(h:C.ways[i]? =some x)(hg:x.g= .door k):canB C s i .unlock=((q0W x s.rm&& !bit s.op i)&&decide (0<hold C s.tk s.op k)):=by simp only[canB,h,hg,Gt.dk]
theorem q6F {C:Cl}{s:Sd}{i:Nat}{x:Way}(h:C.ways[i]? =some x)(hg:∀k,x.g≠ .door k):canB C s i .unlock=false:=by
 simp only[canB,h]
 cases e:x.g<;>first|rfl|exact absurd e (hg _)
theorem q3y {α:Type}{At:Hp->Addr->α->Prop}{H H':Hp}{l:Addr}{xs:List α}(m:∀p x,At H p x->At H' p x)(s:Same H H')(h:q01 At H l xs):q01 At H' l xs:=let ⟨ps,a,b⟩:=h;⟨ps,s _ _ a,b.mono m⟩
theorem no_un {C:Cl}{s:Sd}{i:Nat}{x:Way}(h:C.ways[i]? =some x)(he:q0W x s.rm=false):canB C s i .unlock=false:=by
 by_cases hd:∃kd,x.g= .door kd
 ·obtain ⟨kd,hd⟩:=hd
  rw[q9t h hd,he]
  rfl
 ·exact q6F h fun kd z=>hd ⟨kd,z⟩
theorem q9V {α:Type}{At:Hp->Addr->α->Prop}{H:Hp}{ps qs:List Addr}{xs ys:List α}(h1:Rows At H ps xs)(h2:Rows At H qs ys):Rows At H (ps++qs) (xs++ys):=by
 refine⟨by rw[zx,zx,h1.1,h2.1],fun i p x hp hx=>?_⟩
 by_cases hi:i<ps.length
 ·rw [zS hi] at hp
  rw[zS (by rw[<-h1.1];exact hi)] at hx
  exact h1.2 i p x hp hx
 ·rw [zag (by omega)] at hp
  rw[zag (by rw[<-h1.1];omega),<-h1.1] at hx
  exact h2.2 _ p x hp hx
theorem qcS {α:Type}{At:Hp->Addr->α->Prop}(mo:∀{H H':Hp},q0m H H'->∀p x,At H p x->At H' p x){H:Hp}{Q:VK}{p q:Addr}{xs ys:List α}(h1:q01 At H p xs)(h2:q01 At H q ys)(hl:xs.length+ys.length<=1000)(k:∀(r:Addr) (H':Hp),Same H H'->H r=none->q01 At H' r (xs++ys)->Q (.ref r) H'):rCat (.ref p) (.ref q) H Q:=by
 obtain⟨ps,hp,rp⟩:=h1
 obtain⟨qs,hq,rq⟩:=h2
 have big:=qF
 refine⟨p,q,_,_,rfl,rfl,hp,hq,by rw[yC,yC,rp.1,rq.1];omega,fun r hr=>?_⟩
 have s:=Same.upd (o:= .lst (ps.map V.ref++qs.map V.ref)) hr
 exact k r _ s hr ⟨ps++qs,by rw[zM];exact qe,(q9V rp rq).mono (mo s.ts)⟩
def spByW:Sp:=fun vs H Q _=>∃(c q:Addr) (C:Cl) (s:Sd),vs=[.ref c,.ref q]/\ClAt H c C/\ClOk C/\SAt H q s/\s.ok C/\∀(r D1 D2:Addr) (H':Hp),Same H H'->H D1=none->H D2=none->D1≠D2->H' r=some (.tup [.ref D1,.ref D2])->q01 (PrAt C s) H' D1 (canR C s .go C.ways.length)->q01 (PrAt C s) H' D2 (canR C s .unlock C.ways.length)->Q (.ref r) H'
local macro_rules| `(tactic| walk_at "wk")=> `(tactic| repeat (first|walk_at "rd1" |(refine ifd (fun h=>absurd h (by decide)) (fun _=>?_))|(refine ifd (fun _=>?_) (fun h=>absurd (by decide) h))))
theorem ok_byw (T:Txt mg cs)(L:Laid K mg "_law_by_ways" q0Q ["_law_cave_here","_law_stand"])(vC:Cal P w K mg base 2 "_law_lets" ["_law_cave_here","_law_stand","_law_k"] q87)(wq:Cal P w K mg base 1 "_law_amount" ["_law_cave_here","_law_stand","_law_kind"] q3M):Cal P w K mg base 3 "_law_by_ways" ["_law_cave_here","_law_stand"] spByW:=by
 refine L.cal (k:=2) qG (fun vs H Q E h=>?_) (fun f cdv A outer s H vs Q E hr h=>?_)
 ·obtain ⟨c,q,C,st,rfl,_⟩:=h
  rfl
 ·obtain ⟨c,q,C,st,rfl,hC,ok,hq,sok,k⟩:=h
  have big:=qF
  obtain⟨pw,pt,pl,pv',h0,h1,_⟩:=hC.ex
  obtain⟨wv,hw,hwl,hwg⟩:=h1.get
  have okw:=ok.wl
  have hwl2:(wv.length:Int)<=20:=by omega
  have hq':H q=some (.tup [.int st.rm,.int st.tk,.int st.op,.int st.b,.int st.wt]):=hq
  refine⟨_,(qg (q3w (pv 1) (q0v (n:=5) K rfl (qA (qr (i:=2) qG.nd rfl (Or.inl rfl)) (qA (qr (i:=3) qG.nd rfl (Or.inl rfl)) (qA (qr (i:=4) qG.nd rfl (Or.inl rfl)) (qA (qr (i:=5) qG.nd rfl (Or.inl rfl)) (qA (qr (i:=6) qG.nd rfl (Or.inl rfl)) q0u)))))))
   (qg (qC (i:=7) qG.nd rfl (Or.inl rfl) (q0p qd))
   (qg (qC (i:=8) qG.nd rfl (Or.inl rfl) (q0p qd))
   (qg (q0K PassesOwn.never rfl (q0a rfl T.wB (qa (qD (lenK K) rfl T.ww q0i (qa (qm (qj K) (pv 0) qc (fun _ _=>rfl)) qd)) qd)) (qr (i:=9) qG.nd rfl (Or.inl rfl)) (qg (q3w (qm (qj K) (qm (qj K) (pv 0) qc (fun _ _=>rfl)) (pv 9) (fun _ _=>rfl)) (q0v (n:=4) K rfl (qA (qr (i:=10) qG.nd rfl (Or.inl rfl)) (qA (qr (i:=11) qG.nd rfl (Or.inl rfl)) (qA (qr (i:=12) qG.nd rfl (Or.inl rfl)) (qA (qr (i:=13) qG.nd rfl (Or.inl rfl)) q0u))))))
   (qg (qO (PW.pt (q5O (qw q5R (pv 2) (pv 10) (qu _)) (q3R (PW.pt (q2O (qw q5R (pv 2) (pv 11) (qu _)) (q2j (q2k (q0J (pv 13))))))))) (qi q6p) qy)
   (qi (qO (q0J (qB vC hr (by decide) rfl (qa (pv 0) (qa (pv 1) (qa (pv 9) qd))))) (qi (q08 (q4i zR zU zX q0q (pv 7) (qa (qz (qa (qz (qa qM (qa (pv 9) qd))) (qa (qz (qa (qk q3x (qk q03 (pv 10) (pv 11)) (pv 2)) (qa (pv 3) (qa (pv 4) (qa (pv 5) (qa (pv 6) qd)))))) qd))) qd)))) (qi (qO (PW.pt (q5O (qw qS (qm (qj K) (pv 12) qc (fun _ _=>rfl)) qM (qu _)) (q3R (qw q4j (qB wq hr (by decide) rfl (qa (pv 0) (qa (pv 1) (qa (qm (qj K) (pv 12) qc (fun _ _=>rfl)) qd)))) qc (qu _))))) (qi (q08 (q4i zR zU zX q0q (pv 8) (qa (qz (qa (qz (qa qM (qa (pv 9) qd))) (qa (qz (qa (pv 2) (qa (pv 3) (qa (qk q03 (pv 4) (qk q2H qc (pv 9))) (qa (pv 5) (qa (pv 6) qd)))))) qd))) qd)))) qy)))))))
   (qi (qp (qz (qa (pv 7) (qa (pv 8) qd))))))))),?_⟩
  walk_at "r"
  intro D1 hD1
  have s1:=Same.upd (o:= .lst []) hD1
  have e1:=qe (H:=H) (a:=D1) (o:= .lst [])
  generalize upd H D1 (.lst [])=H1 at s1 e1 ⊢
  walk_at "r"
  intro D2 hD2'
  have s2:=s1.trans (Same.upd (o:= .lst []) hD2')
  have f1:=(Same.upd (o:= .lst []) hD2') _ _ e1
  have f2:=qe (H:=H1) (a:=D2) (o:= .lst [])
  have hD2:H D2=none:=s1.free hD2'
  have ne:D1≠D2:=fun z=>by rw[<-z,e1] at hD2';cases hD2'
  generalize upd H1 D2 (.lst [])=H2 at s2 f1 f2 ⊢
  have h02:=s2 _ _ h0
  have hw2:=s2 _ _ hw
  walk_at "r"
  refine q3a (fun i σ H'=>∃v9 v10 v11 v12 v13,σ=[some (.ref c),some (.ref q),some (.int st.rm),some (.int st.tk),some (.int st.op),some (.int st.b),some (.int st.wt),some (.ref D1),some (.ref D2),v9,v10,v11,v12,v13]/\Same H H'/\q01 (PrAt C st) H' D1 (canR C st .go i)/\q01 (PrAt C st) H' D2 (canR C st .unlock i)) ⟨none,none,none,none,none,rfl,s2,⟨[],f1,Rows.nil⟩,⟨[],f2,Rows.nil⟩⟩ ?_ ?_
  ·rintro i σ H3 hi ⟨v9,v10,v11,v12,v13,rfl,s3,g1,g2⟩
   have hi2:i<C.ways.length:=by rw[<-hwl];simpa using hi
   obtain⟨p2,hx,ga,hp2,hg2⟩:=hwg i hi2
   have ex:C.ways[i]? =some C.ways[i]:=yB hi2
   have eg1:=can_go (s:=st) ex
   generalize C.ways[i]=x at hp2 hg2 ex eg1
   have hp3:=s3 _ _ hp2
   have hg3:=s3 _ _ hg2
   have h03:=s3 _ _ h0
   have hw3:=s3 _ _ hw
   have l1:=q0S C st .go i
   have l2:=q0S C st .unlock i
   rw[q2r,q2r]
   intro Dn hn hc hb hrt
   cases he:q0W x st.rm with
   |false=>
    rw[show(if canB C st i .go=true then [(Wd.go,i)] else [])=[] from zo (by rw[eg1,he];exact zu),show(if canB C st i .unlock=true then [(Wd.unlock,i)] else [])=[] from zo (by rw[no_un ex he];decide),zJ,zJ] at hc
    unfold q0W at he
    rw[Bool.or_eq_false_iff,Bool.and_eq_false_iff] at he
    have fin:=hc [some (.ref c),some (.ref q),some (.int st.rm),some (.int st.tk),some (.int st.op),some (.int st.b),some (.int st.wt),some (.ref D1),some (.ref D2),some (.int (0+(i:Nat))),some (.int x.a),some (.int x.b),some (.ref ga),some (.bl x.back)] H3 ⟨_,_,_,_,_,rfl,s3,g1,g2⟩
    walk_at "r"
    rw[zq (zaV he.1)]
    walk_at "r"
    by_cases y:st.rm=x.b
    ·rw [zr y]
     have hbk:x.back=false:=by
      rcases he.2 with z|z
      ·exact absurd y (zaV z)
      ·exact z
     walk_at "r"
     rw[hbk] at fin ⊢
     walk_at "r"
     exact fin
    ·rw [zq y]
     walk_at "r"
     exact fin
   |true=>
    have he':=he
    unfold q0W at he'
    walk_at "r"
    rename_i zz hzz
    have th:zz {nx:=Dn.nx,rt:=Dn.rt,bk:=Dn.bk,ct:=Dn.ct} [some (.ref c),some (.ref q),some (.int st.rm),some (.int st.tk),some (.int st.op),some (.int st.b),some (.int st.wt),some (.ref D1),some (.ref D2),some (.int (0+(i:Nat))),some (.int x.a),some (.int x.b),some (.ref ga),some (.bl x.back)] H3:=by
     walk_at "r"
     refine⟨c,q,C,st,i,x,by rw[zau];rfl,hC.mono s3.ts,ok,SAt.mono s3.ts hq,ex,fun H4 s4=>?_⟩
     have g14:=q3y (fun _ _ h=>PrAt.mono s4.ts h) s4 g1
     have g24:=q3y (fun _ _ h=>PrAt.mono s4.ts h) s4 g2
     have hg4:=s4 _ _ hg3
     have s34:=s3.trans s4
     cases hlt:q3W x.g (hold C st.tk st.op) (bit st.op i) st.b st.wt with
     |false=>
      rw[show(if canB C st i .go=true then [(Wd.go,i)] else [])=[] from zo (by rw[eg1,he,hlt];decide),zJ] at hn
      obtain⟨qs,hqs,rqs⟩:=g24
      have hqs2:qs.length<=20:=by rw[rqs.1];omega
      by_cases hd:∃kd,x.g= .door kd
      ·obtain ⟨kd,hd⟩:=hd
       rw[hd] at hg4 hlt
       have hg5:H4 ga=some (.tup [.str "door",.int kd]):=hg4
       have hbt:bit st.op i=false:=hlt
       have eu:=q9t (s:=st) ex hd
       rw[he,hbt,Bool.not_false,Bool.and_true,zaI] at eu
       walk_at "wk"
       refine⟨c,q,C,st,kd,rfl,hC.mono s34.ts,ok,SAt.mono s34.ts hq,fun H5 s5=>?_⟩
       have hqs5:=s5 _ _ hqs
       have g5:=q3y (fun _ _ h=>PrAt.mono s5.ts h) s5 g14
       walk_at "r"
       refine ifd (fun hp=>?_) (fun hp=>?_)
       ·rw [show(if canB C st i .unlock=true then [(Wd.unlock,i)] else [])=[(Wd.unlock,i)] from zt (by rw[eu];exact zr hp)] at hn
        walk_at "r"
        intro t5 ht5
        generalize hG5:upd _ t5 _=H6
        have s6:=qT hG5 ht5
        have h6:=qV hG5
        walk_at "r"
        intro t6 ht6
        generalize hG6:upd _ t6 _=H7
        have s7:=qT hG6 ht6
        have h7:=qV hG6
        walk_at "r"
        intro t7 ht7
        generalize hG7:upd _ t7 _=H8
        have s8:=qT hG7 ht7
        have h8:=qV hG7
        have s58:=s6.trans (s7.trans s8)
        have hqs8:=s58 _ _ hqs5
        walk_at "r"
        refine q4h hqs8 (by rw[yC];omega) ?_
        have ts9:=q0m.lst (o:= .lst (qs.map V.ref++[.ref t7])) hqs8
        refine hn _ _ ⟨_,_,_,_,_,rfl,((s34.trans s5).trans s58).put hD2,?_,q0f (fun _ _ h=>PrAt.mono ts9 h) (rqs.mono fun _ _ h=>PrAt.mono (s5.trans s58).ts h) ⟨t5,t6,h8,?_,?_⟩⟩
        ·obtain ⟨us,hus,rus⟩:=g5
         exact⟨us,by rw[qq ne];exact s58 _ _ hus,rus.mono fun _ _ h=>PrAt.mono (s58.ts.trans ts9) h⟩
        ·show H8 t5=some (.tup [.str Wd.unlock.str,.int ((i:Nat):Int)])
         rw[<-zau (i:Int)]
         exact(s7.trans s8) _ _ h6
        ·show H8 t6=_
         have:H8 t6=_:=s8 _ _ h7
         rw[this]
         show _=some (HO.tup (q1E C st (i:Int).toNat .unlock).vs)
         rw[zau,zp,zaK]
         rfl
       ·rw [show(if canB C st i .unlock=true then [(Wd.unlock,i)] else [])=[] from zo (by rw[eu,zq hp];exact zu),zJ] at hn
        walk_at "r"
        exact hn _ _ ⟨_,_,_,_,_,rfl,s34.trans s5,g5,⟨qs,hqs5,rqs.mono fun _ _ h=>PrAt.mono s5.ts h⟩⟩
      ·have c2:=q6F (s:=st) ex fun kd z=>hd ⟨kd,z⟩
       rw[show(if canB C st i .unlock=true then [(Wd.unlock,i)] else [])=[] from zo (by rw[c2];decide),zJ] at hn
       have hwd:=gt_at x.g
       have hdr:=gt_dr x.g
       have hnn:x.g.dk.isSome=false:=by
        cases e:x.g<;>first|rfl|exact absurd ⟨_,e⟩ hd
       walk_at "r"
       rw[hdr,hnn]
       walk_at "r"
       exact hn _ _ ⟨_,_,_,_,_,rfl,s34,g14,⟨qs,hqs,rqs⟩⟩
     |true=>
      have nu:canB C st i .unlock=false:=by
       by_cases hd:∃kd,x.g= .door kd
       ·obtain ⟨kd,hd⟩:=hd
        rw[hd] at hlt
        rw[q9t ex hd,show bit st.op i=true from hlt,Bool.not_true,zbX,za3]
       ·exact q6F ex fun kd z=>hd ⟨kd,z⟩
      rw[show(if canB C st i .go=true then [(Wd.go,i)] else [])=[(Wd.go,i)] from zt (by rw[eg1,he,hlt];rfl),show(if canB C st i .unlock=true then [(Wd.unlock,i)] else [])=[] from zo (by rw[nu];decide),zJ] at hn
      obtain⟨ps,hps,rps⟩:=g14
      have hpl:ps.length<=20:=by rw[rps.1];omega
      walk_at "r"
      intro t5 ht5
      generalize hG5:upd _ t5 _=H5
      have s5:=qT hG5 ht5
      have h5:=qV hG5
      walk_at "r"
      intro t6 ht6
      generalize hG6:upd _ t6 _=H6
      have s6:=qT hG6 ht6
      have h6:=qV hG6
      walk_at "r"
      intro t7 ht7
      generalize hG7:upd _ t7 _=H7
      have s7:=qT hG7 ht7
      have h7:=qV hG7
      have s47:=s5.trans (s6.trans s7)
      have hps7:=s47 _ _ hps
      walk_at "r"
      refine q4h hps7 (by rw[yC];omega) ?_
      have ts8:=q0m.lst (o:= .lst (ps.map V.ref++[.ref t7])) hps7
      refine hn _ _ ⟨_,_,_,_,_,rfl,(s34.trans s47).put hD1,?_,?_⟩
      ·refine q0f (fun _ _ h=>PrAt.mono ts8 h) (rps.mono fun _ _ h=>PrAt.mono s47.ts h) ⟨t5,t6,h7,?_,?_⟩
       ·show H7 t5=some (.tup [.str Wd.go.str,.int ((i:Nat):Int)])
        rw[<-zau (i:Int)]
        exact(s6.trans s7) _ _ h5
       ·show H7 t6=_
        have:H7 t6=_:=s7 _ _ h6
        rw[this]
        show _=some (HO.tup (q1E C st (i:Int).toNat .go).vs)
        rw[zp]
        simp only[q1E,ex]
        rw[go_end he]
        rfl
      ·obtain ⟨qs,hqs,rqs⟩:=g24
       exact⟨qs,by rw[qq ne.symm];exact s47 _ _ hqs,rqs.mono fun _ _ h=>PrAt.mono (s47.ts.trans ts8) h⟩
    clear hzz
    by_cases ya:st.rm=x.a
    ·rw [zr ya]
     walk_at "r"
     exact th
    ·rw [zq ya] at he' ⊢
     rw[zb9,zac] at he'
     walk_at "r"
     rw[zr (zaG he'.1)]
     walk_at "r"
     rw[he'.2] at th ⊢
     walk_at "r"
     exact th
  ·rintro σ H3 ⟨v9,v10,v11,v12,v13,rfl,s3,g1,g2⟩
   rw[zp,hwl] at g1 g2
   walk_at "r"
   intro r hr0
   have s4:=Same.upd (o:= .tup [.ref D1,.ref D2]) hr0
   exact k r D1 D2 _ (s3.trans s4) hD1 hD2 ne qe (q3y (fun _ _ h=>PrAt.mono s4.ts h) s4 g1) (q3y (fun _ _ h=>PrAt.mono s4.ts h) s4 g2)
theorem qc9 (T:Txt mg cs)(L:Laid K mg "_law_next" q1M ["_law_cave_here","_law_stand"])(vg:Cal P w K mg base 3 "_law_by_ways" ["_law_cave_here","_law_stand"] spByW):Cal P w K mg base 4 "_law_next" ["_law_cave_here","_law_stand"] q3i:=by
 refine L.cal (k:=3) qX (fun vs H Q E h=>?_) (fun f cdv A outer s H vs Q E hr h=>?_)
 ·obtain ⟨c,q,C,st,rfl,_⟩:=h
  rfl
 ·obtain ⟨c,q,C,st,rfl,hC,ok,hq,sok,k⟩:=h
  have big:=qF
  obtain⟨pw,pt,pl,pv',h0,_,hth,hlv,hwh⟩:=hC.ex
  obtain⟨lv,hlv0,llv,glv⟩:=hlv.get
  obtain⟨tv,hth0,lth,gth⟩:=hth.get
  obtain⟨vv,hwh0,lwh,gwh⟩:=hwh.get
  have okl:=ok.ll
  have okt:=ok.tl
  have okv:=ok.vl
  have okw:=ok.wl
  have x1:(lv.length:Int)<=4:=by omega
  have x2:(tv.length:Int)<=8:=by omega
  have x3:(vv.length:Int)<=4:=by omega
  have hq':H q=some (.tup [.int st.rm,.int st.tk,.int st.op,.int st.b,.int st.wt]):=hq
  refine⟨_,(qg (q3w (pv 1) (q0v (n:=5) K rfl (qA (qr (i:=2) qX.nd rfl (Or.inl rfl)) (qA (qr (i:=3) qX.nd rfl (Or.inl rfl)) (qA (qr (i:=4) qX.nd rfl (Or.inl rfl)) (qA (qr (i:=5) qX.nd rfl (Or.inl rfl)) (qA (qr (i:=6) qX.nd rfl (Or.inl rfl)) q0u)))))))
   (qg (qO (qw qS (pv 2) (qm (qj K) (pv 0) qc (fun _ _=>rfl)) (qu _)) (qi (qp (q0p qd))) qy)
   (qg (q3w (qB vg hr (by decide) rfl (qa (pv 0) (qa (pv 1) qd))) (q0v (n:=2) K rfl (qA (qr (i:=7) qX.nd rfl (Or.inl rfl)) (qA (qr (i:=8) qX.nd rfl (Or.inl rfl)) q0u))))
   (qg (q0K PassesOwn.never rfl (q0a rfl T.wB (qa (qD (lenK K) rfl T.ww q0i (qa (qm (qj K) (pv 0) qc (fun _ _=>rfl)) qd)) qd)) (qr (i:=9) qX.nd rfl (Or.inl rfl)) (qi (qO (qw qS (qm (qj K) (qm (qj K) (qm (qj K) (pv 0) qc (fun _ _=>rfl)) (pv 9) (fun _ _=>rfl)) qc (fun _ _=>rfl)) (pv 2) (qu _)) (qi (q08 (q4i zR zU zX q0q (pv 7) (qa (qz (qa (qz (qa qM (qa (pv 9) qd))) (qa (qz (qa (pv 2) (qa (pv 3) (qa (pv 4) (qa (qk q8D (pv 5) (qm (qj K) (qm (qj K) (qm (qj K) (pv 0) qc (fun _ _=>rfl)) (pv 9) (fun _ _=>rfl)) qc (fun _ _=>rfl))) (qa (pv 6) qd)))))) qd))) qd)))) qy)))
   (qg (q0K PassesOwn.never rfl (q0a rfl T.wB (qa (qD (lenK K) rfl T.ww q0i (qa (qm (qj K) (pv 0) qc (fun _ _=>rfl)) qd)) qd)) (qr (i:=9) qX.nd rfl (Or.inl rfl)) (qi (qO (PW.pt (q5O (qw qS (qm (qj K) (qm (qj K) (qm (qj K) (pv 0) qc (fun _ _=>rfl)) (pv 9) (fun _ _=>rfl)) qc (fun _ _=>rfl)) (pv 2) (qu _)) (q3R (qw qS (qk q3T (qk q4p (pv 3) (pv 9)) qc) qc (qu _))))) (qi (q08 (q4i zR zU zX q0q (pv 7) (qa (qz (qa (qz (qa qM (qa (pv 9) qd))) (qa (qz (qa (pv 2) (qa (qk q03 (pv 3) (qk q2H qc (pv 9))) (qa (pv 4) (qa (pv 5) (qa (pv 6) qd)))))) qd))) qd)))) qy)))
   (qg (q0K PassesOwn.never rfl (q0a rfl T.wB (qa (qD (lenK K) rfl T.ww q0i (qa (qm (qj K) (pv 0) qc (fun _ _=>rfl)) qd)) qd)) (qr (i:=9) qX.nd rfl (Or.inl rfl)) (qi (qO (PW.pt (q5O (qw qS (qm (qj K) (qm (qj K) (qm (qj K) (pv 0) qc (fun _ _=>rfl)) (pv 9) (fun _ _=>rfl)) qc (fun _ _=>rfl)) (pv 2) (qu _)) (q3R (qw q5R (qm (qj K) (qm (qj K) (qm (qj K) (pv 0) qc (fun _ _=>rfl)) (pv 9) (fun _ _=>rfl)) qc (fun _ _=>rfl)) (pv 6) (qu _))))) (qi (q08 (q4i zR zU zX q0q (pv 7) (qa (qz (qa (qz (qa qM (qa (pv 9) qd))) (qa (qz (qa (pv 2) (qa (pv 3) (qa (pv 4) (qa (pv 5) (qa (qm (qj K) (qm (qj K) (qm (qj K) (pv 0) qc (fun _ _=>rfl)) (pv 9) (fun _ _=>rfl)) qc (fun _ _=>rfl)) qd)))))) qd))) qd)))) qy)))
   (qi (qp (qk q0z (pv 7) (pv 8)))))))))),?_⟩
  walk_at "r"
  refine ifd (fun e=>?_) (fun e=>?_)
  ·walk_at "r"
   intro r hr0
   exact k r _ (Same.upd hr0) hr0 (by rw[q98 e];exact⟨[],qe,Rows.nil⟩)
  rw[qcE e] at k
  walk_at "r"
  refine⟨c,q,C,st,rfl,hC,ok,hq,sok,fun r D1 D2 H1 s1 n1 n2 ne hr1 g1 g2=>?_⟩
  have h01:=s1 _ _ h0
  have hlv1:=s1 _ _ hlv0
  have l0:=q0S C st .go C.ways.length
  have l5:=q0S C st .unlock C.ways.length
  walk_at "r"
  refine q3a (fun i σ H'=>∃v9,σ=[some (.ref c),some (.ref q),some (.int st.rm),some (.int st.tk),some (.int st.op),some (.int st.b),some (.int st.wt),some (.ref D1),some (.ref D2),v9]/\Same H H'/\q01 (PrAt C st) H' D1 (canR C st .go C.ways.length++canR C st .pull i)/\q01 (PrAt C st) H' D2 (canR C st .unlock C.ways.length)) ⟨none,rfl,s1,by rw[show canR C st .pull 0=[] from rfl,zJ];exact g1,g2⟩ ?_ ?_
  ·rintro i σ H3 hi ⟨v9,rfl,s3,⟨ps,hps,rps⟩,⟨qs,hqs,rqs⟩⟩
   have hi2:i<C.levers.length:=by rw[<-llv];simpa using hi
   obtain⟨p2,hx,hp2⟩:=glv i hi2
   have hp3:=s3 _ _ hp2
   have h03:=s3 _ _ h0
   have hlv3:=s3 _ _ hlv0
   have l1:=q0S C st .pull i
   have hpl:ps.length<=40:=by rw[rps.1,zx];omega
   have ec:canB C st i .pull=decide (st.rm=C.levers[i].1):=by simp only[canB,yB hi2]
   rw[q2r]
   intro Dn hn hc hb hrt
   walk_at "r"
   refine ifd (fun z=>?_) (fun z=>?_)
   ·rw [show(if canB C st i .pull=true then [(Wd.pull,i)] else [])=[(Wd.pull,i)] from zt (by rw[ec];exact zr z.symm)] at hn
    walk_at "r"
    intro t5 ht5
    generalize hG5:upd _ t5 _=H4
    have s4:=qT hG5 ht5
    have h4:=qV hG5
    have hp4:=s4 _ _ hp3
    have h04:=s4 _ _ h03
    have hlv4:=s4 _ _ hlv3
    walk_at "r"
    intro t6 ht6
    generalize hG6:upd _ t6 _=H5
    have s5:=qT hG6 ht6
    have h5:=qV hG6
    walk_at "r"
    intro t7 ht7
    generalize hG7:upd _ t7 _=H6
    have s6:=qT hG7 ht7
    have h6:=qV hG7
    have s36:=s4.trans (s5.trans s6)
    have hps6:=s36 _ _ hps
    walk_at "r"
    refine q4h hps6 (by rw[yC];omega) ?_
    have ts:=q0m.lst (o:= .lst (ps.map V.ref++[.ref t7])) hps6
    refine hn _ _ ⟨_,rfl,(s3.trans s36).put n1,?_,⟨qs,by rw[qq ne.symm];exact s36 _ _ hqs,rqs.mono fun _ _ h=>PrAt.mono (s36.ts.trans ts) h⟩⟩
    rw[<-zbb]
    refine q0f (fun _ _ h=>PrAt.mono ts h) (rps.mono fun _ _ h=>PrAt.mono s36.ts h) ⟨t5,t6,h6,?_,?_⟩
    ·show H6 t5=some (.tup [.str Wd.pull.str,.int ((i:Nat):Int)])
     rw[<-zau (i:Int)]
     exact(s5.trans s6) _ _ h4
    ·show H6 t6=some (HO.tup (q1E C st (i:Int).toNat .pull).vs)
     rw[zp]
     simp only[q1E,yB hi2]
     exact s6 _ _ h5
   ·rw [show(if canB C st i .pull=true then [(Wd.pull,i)] else [])=[] from zo (by rw[ec,zq fun y=>z y.symm];exact zu),zJ] at hn
    walk_at "r"
    exact hn _ _ ⟨_,rfl,s3,⟨ps,hps,rps⟩,⟨qs,hqs,rqs⟩⟩
  ·rintro σ H2 ⟨v9,rfl,s2,g1,g2⟩
   rw[zp,llv] at g1
   have l1:=q0S C st .pull C.levers.length
   have h02:=s2 _ _ h0
   have hth2:=s2 _ _ hth0
   walk_at "r"
   refine q3a (fun i σ H'=>∃v9,σ=[some (.ref c),some (.ref q),some (.int st.rm),some (.int st.tk),some (.int st.op),some (.int st.b),some (.int st.wt),some (.ref D1),some (.ref D2),v9]/\Same H H'/\q01 (PrAt C st) H' D1 (canR C st .go C.ways.length++canR C st .pull C.levers.length++canR C st .take i)/\q01 (PrAt C st) H' D2 (canR C st .unlock C.ways.length)) ⟨v9,rfl,s2,by rw[show canR C st .take 0=[] from rfl,zJ];exact g1,g2⟩ ?_ ?_
   ·rintro i σ H3 hi ⟨v9,rfl,s3,⟨ps,hps,rps⟩,⟨qs,hqs,rqs⟩⟩
    have hi2:i<C.things.length:=by rw[<-lth];simpa using hi
    obtain⟨p2,hx,hp2⟩:=gth i hi2
    have hp3:=s3 _ _ hp2
    have h03:=s3 _ _ h0
    have hth3:=s3 _ _ hth0
    have l2:=q0S C st .take i
    have hpl:ps.length<=40:=by rw[rps.1,zx,zx];omega
    have ec:canB C st i .take=(decide (st.rm=C.things[i].1)&& !bit st.tk i):=by simp only[canB,yB hi2]
    rw[q2r]
    intro Dn hn hc hb hrt
    walk_at "r"
    refine ifd (fun z=>?_) (fun z=>?_)
    ·walk_at "r"
     rw[zau (i:Int),zp,q4w]
     cases hbt:bit st.tk i with
     |true=>
      rw[show(if canB C st i .take=true then [(Wd.take,i)] else [])=[] from zo (by rw[ec,hbt,Bool.not_true,zbX];exact zu),zJ] at hn
      walk_at "r"
      exact hn _ _ ⟨_,rfl,s3,⟨ps,hps,rps⟩,⟨qs,hqs,rqs⟩⟩
     |false=>
      rw[show(if canB C st i .take=true then [(Wd.take,i)] else [])=[(Wd.take,i)] from zt (by rw[ec,hbt,zr z.symm];rfl)] at hn
      walk_at "r"
      intro t5 ht5
      generalize hG5:upd _ t5 _=H4
      have s4:=qT hG5 ht5
      have h4:=qV hG5
      walk_at "r"
      intro t6 ht6
      generalize hG6:upd _ t6 _=H5
      have s5:=qT hG6 ht6
      have h5:=qV hG6
      walk_at "r"
      intro t7 ht7
      generalize hG7:upd _ t7 _=H6
      have s6:=qT hG7 ht7
      have h6:=qV hG7
      have s36:=s4.trans (s5.trans s6)
      have hps6:=s36 _ _ hps
      walk_at "r"
      refine q4h hps6 (by rw[yC];omega) ?_
      have ts:=q0m.lst (o:= .lst (ps.map V.ref++[.ref t7])) hps6
      refine hn _ _ ⟨_,rfl,(s3.trans s36).put n1,?_,⟨qs,by rw[qq ne.symm];exact s36 _ _ hqs,rqs.mono fun _ _ h=>PrAt.mono (s36.ts.trans ts) h⟩⟩
      rw[<-zbb]
      refine q0f (fun _ _ h=>PrAt.mono ts h) (rps.mono fun _ _ h=>PrAt.mono s36.ts h) ⟨t5,t6,h6,?_,?_⟩
      ·show H6 t5=some (.tup [.str Wd.take.str,.int ((i:Nat):Int)])
       exact(s5.trans s6) _ _ h4
      ·show H6 t6=some (HO.tup (q1E C st (i:Int).toNat .take).vs)
       rw[zp]
       have:H6 t6=_:=s6 _ _ h5
       rw[zaK,zp] at this
       exact this
    ·rw [show(if canB C st i .take=true then [(Wd.take,i)] else [])=[] from zo (by rw[ec,zq fun y=>z y.symm];exact zu),zJ] at hn
     walk_at "r"
     exact hn _ _ ⟨_,rfl,s3,⟨ps,hps,rps⟩,⟨qs,hqs,rqs⟩⟩
   ·rintro σ H2 ⟨v9,rfl,s2,g1,g2⟩
    rw[zp,lth] at g1
    have l2:=q0S C st .take C.things.length
    have h02:=s2 _ _ h0
    have hwh2:=s2 _ _ hwh0
    walk_at "r"
    refine q3a (fun i σ H'=>∃v9,σ=[some (.ref c),some (.ref q),some (.int st.rm),some (.int st.tk),some (.int st.op),some (.int st.b),some (.int st.wt),some (.ref D1),some (.ref D2),v9]/\Same H H'/\q01 (PrAt C st) H' D1 (canR C st .go C.ways.length++canR C st .pull C.levers.length++canR C st .take C.things.length++canR C st .turn i)/\q01 (PrAt C st) H' D2 (canR C st .unlock C.ways.length)) ⟨v9,rfl,s2,by rw[show canR C st .turn 0=[] from rfl,zJ];exact g1,g2⟩ ?_ ?_
    ·rintro i σ H3 hi ⟨v9,rfl,s3,⟨ps,hps,rps⟩,⟨qs,hqs,rqs⟩⟩
     have hi2:i<C.wheels.length:=by rw[<-lwh];simpa using hi
     obtain⟨p2,hx,hp2⟩:=gwh i hi2
     have hp3:=s3 _ _ hp2
     have h03:=s3 _ _ h0
     have hwh3:=s3 _ _ hwh0
     have l3:=q0S C st .turn i
     have hpl:ps.length<=40:=by rw[rps.1,zx,zx,zx];omega
     have ec:canB C st i .turn=(decide (st.rm=C.wheels[i].1)&& !decide (st.wt=C.wheels[i].2)):=by simp only[canB,yB hi2]
     rw[q2r]
     intro Dn hn hc hb hrt
     walk_at "r"
     refine ifd (fun z=>?_) (fun z=>?_)
     ·walk_at "r"
      by_cases hbt:C.wheels[i].2=st.wt
      ·rw [show(if canB C st i .turn=true then [(Wd.turn,i)] else [])=[] from zo (by rw[ec,zr hbt.symm,Bool.not_true,zbX];exact zu),zJ] at hn
       rw[zr hbt]
       walk_at "r"
       exact hn _ _ ⟨_,rfl,s3,⟨ps,hps,rps⟩,⟨qs,hqs,rqs⟩⟩
      ·rw [show(if canB C st i .turn=true then [(Wd.turn,i)] else [])=[(Wd.turn,i)] from zt (by rw[ec,zq (show¬st.wt=C.wheels[i].2 from fun y=>hbt y.symm),zr z.symm];rfl)] at hn
       rw[zq hbt]
       walk_at "r"
       intro t5 ht5
       generalize hG5:upd _ t5 _=H4
       have s4:=qT hG5 ht5
       have h4:=qV hG5
       have hp4:=s4 _ _ hp3
       have h04:=s4 _ _ h03
       have hwh4:=s4 _ _ hwh3
       walk_at "r"
       intro t6 ht6
       generalize hG6:upd _ t6 _=H5
       have s5:=qT hG6 ht6
       have h5:=qV hG6
       walk_at "r"
       intro t7 ht7
       generalize hG7:upd _ t7 _=H6
       have s6:=qT hG7 ht7
       have h6:=qV hG7
       have s36:=s4.trans (s5.trans s6)
       have hps6:=s36 _ _ hps
       walk_at "r"
       refine q4h hps6 (by rw[yC];omega) ?_
       have ts:=q0m.lst (o:= .lst (ps.map V.ref++[.ref t7])) hps6
       refine hn _ _ ⟨_,rfl,(s3.trans s36).put n1,?_,⟨qs,by rw[qq ne.symm];exact s36 _ _ hqs,rqs.mono fun _ _ h=>PrAt.mono (s36.ts.trans ts) h⟩⟩
       rw[<-zbb]
       refine q0f (fun _ _ h=>PrAt.mono ts h) (rps.mono fun _ _ h=>PrAt.mono s36.ts h) ⟨t5,t6,h6,?_,?_⟩
       ·show H6 t5=some (.tup [.str Wd.turn.str,.int ((i:Nat):Int)])
        rw[<-zau (i:Int)]
        exact(s5.trans s6) _ _ h4
       ·show H6 t6=some (HO.tup (q1E C st (i:Int).toNat .turn).vs)
        rw[zp]
        simp only[q1E,yB hi2]
        exact s6 _ _ h5
     ·rw [show(if canB C st i .turn=true then [(Wd.turn,i)] else [])=[] from zo (by rw[ec,zq fun y=>z y.symm];exact zu),zJ] at hn
      walk_at "r"
      exact hn _ _ ⟨_,rfl,s3,⟨ps,hps,rps⟩,⟨qs,hqs,rqs⟩⟩
    ·rintro σ H2 ⟨v9,rfl,s2,g1,g2⟩
     rw[zp,lwh] at g1
     have l3:=q0S C st .turn C.wheels.length
     walk_at "r"
     exact qcS (At:=PrAt C st) (fun ts _ _ h=>PrAt.mono ts h) g1 g2 (by simp only[List.length_append];omega) fun r H4 s4 hr4 g4=>k r H4 (s2.trans s4) (s2.free hr4) g4
def qb5 (K:W.Frag):Sp:=fun vs H Q _=>∃(a:Addr) (ns:List Int) (fi:Int) (tot:Nat),vs=[.ref a,.int fi,.int tot]/\SqL K H a (ns.map V.int)/\ns.length<=63/\0<=fi/\fi<=1000/\tot<=60/\∀(r:Addr) (ms:List Int) (H':Hp),Same H H'->H r=none->H' r=some (.lst (ms.map V.int))->ms.length=tot->(∀x∈ms,0<=x)->Q (.ref r) H'
def q6d:Sp:=fun vs H Q _=>∃n b:Int,vs=[.int n,.int b]/\∀(p:Addr) (g:Gt) (H':Hp),Same H H'->g.ok->H' p=some (.tup g.vs)->Q (.ref p) H'
theorem qc8 (T:Txt mg cs)(L:Laid K mg "_law_numbers" q0O ["_law_script","_law_first","_law_total"])(wr:Cal P w K mg base 1 "_law_cell_at" ["_law_script","_law_k"] (q6g K)):Cal P w K mg base 2 "_law_numbers" ["_law_script","_law_first","_law_total"] (qb5 K):=by
 refine L.cal (k:=1) q0e (fun vs H Q E h=>?_) (fun f cdv A outer s H vs Q E hr h=>?_)
 ·obtain ⟨a,ns,fi,tot,rfl,_⟩:=h
  rfl
 ·obtain ⟨a,ns,fi,tot,rfl,hS,hl,f0,f1,ht,k⟩:=h
  have big:=qF
  refine⟨_,(qg (qC (i:=3) q0e.nd rfl (Or.inl rfl) (q0p qd))
   (qg (qC (i:=4) q0e.nd rfl (Or.inl rfl) (qk q03 qc (pv 1)))
   (qg (q0K PassesOwn.never rfl (q0a rfl T.wB (qa (pv 2) qd)) (qr (i:=5) q0e.nd rfl (Or.inl rfl)) (qg (qC (i:=6) q0e.nd rfl (Or.inl rfl) (qB wr hr (by decide) rfl (qa (pv 0) (qa (qk q03 qc (qk qI (qk q03 (pv 1) (pv 5)) (qD (max2 rfl) rfl T.wbX bt_max (qa qc (qa (qk q3x (qD (lenK K) rfl T.ww q0i (qa (pv 0) qd)) qc) qd))))) qd))))
   (qg (qC (i:=4) q0e.nd rfl (Or.inl rfl) (qk qI (qk q03 (qk q03 (qk q4q (pv 4) qc) (pv 6)) (qk q4q (pv 5) (pv 5))) qc))
   (qi (q08 (q4i zR zU zX q0q (pv 3) (qa (pv 4) qd)))))))
   (qi (qp (pv 3)))))),?_⟩
  walk_at "r"
  intro r hr0
  walk_at "r"
  refine q3Z (fun i σ H'=>∃n v5 v6,σ=[some (.ref a),some (.int fi),some (.int tot),some (.ref r),some (.int n),v5,v6]/\Same H H'/\∃ms:List Int,ms.length=i/\(∀x∈ms,0<=x)/\H' r=some (.lst (ms.map V.int))) ⟨_,none,none,rfl,Same.upd hr0,[],rfl,(fun x hx=>nomatch hx),qe⟩ ?_ ?_
  ·rintro i σ H' hi ⟨n,v5,v6,rfl,s1,ms,hm,hx,hr1⟩
   have hS1:=s1.seq hS
   have mp:(0:Int)<(if ((ns.map V.int).length:Int) - 3>1 then((ns.map V.int).length:Int) - 3 else 1):=by split<;>omega
   have m0:=qW (fi+(0+(i:Nat))) mp
   walk_at "r"
   refine⟨a,ns,_,rfl,hS1,hl,?_,?_⟩
   ·omega
   walk_at "r"
   refine q4h hr1 (by rw[yC];omega) ?_
   refine⟨_,_,_,rfl,s1.put hr0,?_⟩
   refine⟨ms++[_],by simp[hm],fun x hx'=>?_,by rw[qe,zM];rfl⟩
   rcases zad.mp hx' with z|z
   ·exact hx x z
   ·rw [zA.mp z]
    exact qW _ (by decide)
  ·rintro σ H' ⟨n,v5,v6,rfl,s1,ms,hm,hx,hr1⟩
   walk_at "r"
   exact k r ms H' s1 hr0 hr1 (by simpa using hm) hx
theorem qao (T:Txt mg cs)(L:Laid K mg "_law_gate" q1O ["_law_number","_law_base"]):Cal P w K mg base 1 "_law_gate" ["_law_number","_law_base"] q6d:=by
 refine L.cal (k:=0) q2n (fun vs H Q E h=>?_) (fun f cdv A outer s H vs Q E hr h=>?_)
 ·obtain ⟨n,b,rfl,_⟩:=h
  rfl
 ·obtain ⟨n,b,rfl,k⟩:=h
  have a0:=qW (b+n / 12 % 3) (n:=12) (by decide)
  have a1:=q04 (b+n / 12 % 3) (n:=12) (by decide)
  have b0:=qW (b+n / 36 % 3) (n:=8) (by decide)
  have b1:=q04 (b+n / 36 % 3) (n:=8) (by decide)
  have c0:=qW (n / 36) (n:=10) (by decide)
  have c1:=q04 (n / 36) (n:=10) (by decide)
  have need:∀p,H p=none->Q (.ref p) (upd H p (.tup [.str "need",.int ((b+n / 12 % 3) % 12)])):=fun p hp=>k p (.need ((b+n / 12 % 3) % 12)) _ (Same.upd hp) ⟨a0,a1⟩ qe
  refine⟨_,(qg (qC (i:=2) q2n.nd rfl (Or.inl rfl) (qk qI (qk q03 (pv 1) (qk qI (qk qU (pv 0) qc) qc)) qc))
   (qg (qC (i:=3) q2n.nd rfl (Or.inl rfl) (qk qI (pv 0) qc))
   (qg (qO (qw q8F (pv 3) qc (qu _)) (qi (qp (qz (qa qM qd)))) qy)
   (qg (qO (PW.pt (q2O (qw qS (pv 3) qc (qu _)) (q2j (qw qS (pv 3) qc (qu _))))) (qi (qp (qz (qa qM (qa (pv 2) qd))))) qy)
   (qg (qO (PW.pt (q2O (qw qS (pv 3) qc (qu _)) (q2j (qw qS (pv 3) qc (qu _))))) (qi (qp (qz (qa qM (qa (pv 2) qd))))) qy)
   (qg (qO (qw qS (pv 3) qc (qu _)) (qi (qp (qz (qa qM (qa (qk qI (qk q03 (pv 1) (qk qI (qk qU (pv 0) qc) qc)) qc) qd))))) qy)
   (qg (qO (qw qS (pv 3) qc (qu _)) (qi (qp (qz (qa qM (qa (qk qI (qk qU (pv 0) qc) qc) (qa (pv 2) qd)))))) qy)
   (qi (qp (qz (qa qM (qa (qk qI (qk qU (pv 0) qc) qc) qd)))))))))))),?_⟩
  walk_at "r"
  refine ifd (fun h1=>?_) (fun h1=>?_)
  ·walk_at "r"
   exact fun p hp=>k p .plain _ (Same.upd hp) trivial qe
  walk_at "r"
  refine ifd (fun h2=>?_) (fun h2=>?_)
  ·walk_at "r"
   exact fun p hp=>k p (.door ((b+n / 12 % 3) % 12)) _ (Same.upd hp) ⟨a0,a1⟩ qe
  walk_at "r"
  refine ifd (fun h2b=>?_) (fun h2b=>?_)
  ·walk_at "r"
   exact fun p hp=>k p (.door ((b+n / 12 % 3) % 12)) _ (Same.upd hp) ⟨a0,a1⟩ qe
  walk_at "r"
  refine ifd (fun h3=>?_) (fun h3=>?_)
  ·walk_at "r"
   exact need
  walk_at "r"
  refine ifd (fun h4=>?_) (fun h4=>?_)
  ·walk_at "r"
   exact need
  walk_at "r"
  refine ifd (fun h5=>?_) (fun h5=>?_)
  ·walk_at "r"
   exact fun p hp=>k p (.bar ((b+n / 36 % 3) % 8)) _ (Same.upd hp) ⟨b0,b1⟩ qe
  walk_at "r"
  refine ifd (fun h6=>?_) (fun h6=>?_)
  ·walk_at "r"
   exact fun p hp=>k p (.wade (n / 36 % 10) ((b+n / 12 % 3) % 12)) _ (Same.upd hp) ⟨⟨c0,c1⟩,a0,a1⟩ qe
  walk_at "r"
  exact fun p hp=>k p (.float (n / 36 % 10)) _ (Same.upd hp) ⟨c0,c1⟩ qe
structure CvOk (C:Cl):Prop where
 ok:ClOk C
 w:1<=C.ways.length
 m:2*C.ways.length+C.levers.length+C.things.length+C.wheels.length<=16
def q88:Sp:=fun vs H Q _=>∃(l:Addr) (ms:List Int),vs=[.ref l]/\H l=some (.lst (ms.map V.int))/\ms.length=34/\∀(p:Addr) (C:Cl) (H':Hp),Same H H'->ClAt H' p C->CvOk C->Q (.ref p) H'
theorem q3I (ms:List Int)(i j:Nat)(h:j<=ms.length)(hij:i<=j):cutV (ms.map V.int) (some (i:Int)) (some (j:Int))=((ms.drop i).take (j - i)).map V.int:=by
 unfold cutV
 rw[HT.q3m,HT.q3m,yC,zbQ (show i<=ms.length by omega),zbQ h,List.map_take,List.map_drop]
theorem qam (T:Txt mg cs)(L:Laid K mg "_law_great" q0V ["_law_numbers_here"])(wO:Cal P w K mg base 1 "_law_gate" ["_law_number","_law_base"] q6d):Cal P w K mg base 2 "_law_great" ["_law_numbers_here"] q88:=by
 refine L.cal (k:=1) q1K (fun vs H Q E h=>?_) (fun f cdv A outer s H vs Q E hr h=>?_)
 ·obtain ⟨l,ms,rfl,_⟩:=h
  rfl
 ·obtain ⟨l,ms,rfl,hl,hm,k⟩:=h
  have big:=qF
  have ix:∀j:Nat,j<34->atI (ms.map V.int) (j:Int)=some (.int (ms.getD j 0)):=fun j hj=>q50 (by omega)
  have i0:=ix 0 (by omega)
  have i1:=ix 1 (by omega)
  have i10:=ix 10 (by omega)
  have i11:=ix 11 (by omega)
  have i12:=ix 12 (by omega)
  refine⟨_,(qg (qC (i:=1) q1K.nd rfl (Or.inl rfl) (qz (qa (qz (qa qc (qa qc (qa (qB wO hr (by decide) rfl (qa (qm (q0d K) (pv 0) qc (fun _ _=>rfl)) (qa qc qd))) (qa (qR qS (qk qI (qm (q0d K) (pv 0) qc (fun _ _=>rfl)) qc) qc (qu _)) qd))))) qd)))
   (qg (qC (i:=2) q1K.nd rfl (Or.inl rfl) (q0y (q5i K) rfl T.vx q3f (qa (q1o (q0L (N:=["_law_number"]) (own:=1) (caps:=[]) ["_law_numbers_here","_law_ways","_law_things"] (qh q0V) (by walk_at "k")) rfl (q0b K (qE (qY K) (pv 0) (qH qc) (qH qc))) (fun _ _ _ _=>(qr (i:=0) (show List.Nodup (["_law_number"]:List Str) by walk_at "k") rfl (Or.inl rfl))) (fun _ _ _ _=>q1H) (fun _ _ _ _=>(qz (qa qc (qa (qk qI (pv 0) qc) qd))))) qd)))
   (qi (qp (qz (pa_c qc (pa_c qc (pa_c qc (pa_c (pv 1) (pa_c (pv 2) (pa_c (qz (qa (qz (qa qc (qa (qk q03 qc (qk qI (qm (q0d K) (pv 0) qc (fun _ _=>rfl)) qc)) qd))) qd)) (pa_c (qz qd) (pa_c (qk qI (qm (q0d K) (pv 0) qc (fun _ _=>rfl)) qc) (pa_c (qk qI (qm (q0d K) (pv 0) qc (fun _ _=>rfl)) qc) qd)))))))))))))),?_⟩
  walk_at "r"
  refine⟨_,3,rfl,fun g gt H1 s1 gok hg=>?_⟩
  have hl1:=s1 _ _ hl
  walk_at "r"
  intro t1 gt1
  generalize hG2:upd _ t1 _=H2
  have s2:=qT hG2 gt1
  have h2:=qV hG2
  walk_at "r"
  intro t2 gt2
  generalize hG3:upd _ t2 _=H3
  have s3:=qT hG3 gt2
  have h3:=qV hG3
  have s13:=s2.trans s3
  have hl3:=s13 _ _ hl1
  walk_at "r"
  refine⟨l,_,rfl,SqL.of hl3,fun l2 gl2=>?_⟩
  rw[show(2:Int)=((2:Nat):Int) from rfl,show(10:Int)=((10:Nat):Int) from rfl,q3I ms 2 10 (by omega) (by omega)]
  generalize hG4:upd _ l2 _=H4
  have s4:=qT hG4 gl2
  have h4:=qV hG4
  generalize hks:(ms.drop 2).take (10 - 2)=ks at h4
  have kl:ks.length=8:=by rw[<-hks,zD,zaz];omega
  walk_at "r"
  intro D hD
  refine q1f (ks.map V.int) (fun i σ H'=>∃v0,σ=[v0]/\Same H4 H'/\q01 q05 H' D ((ks.take i).map fun x=>(0,x % 12))) ⟨none,rfl,Same.upd hD,⟨[],qe,Rows.nil⟩⟩ ?_ ?_ ?_
  ·rintro i σ H' ⟨_,rfl,s5,_⟩
   exact SqL.of (s5 _ _ h4)
  ·rintro i z σ H' hz ⟨v0,rfl,s5,ps,hps,rps⟩
   have hi:i<ks.length:=by have:=(yA hz).1;simpa using this
   obtain rfl:z= .int ks[i]:=by simpa[hi] using hz.symm
   have lp:ps.length<=8:=by rw[rps.1,yC,zD];omega
   walk_at "r"
   intro t5 g5
   generalize hG5:upd _ t5 _=H5
   have s6:=qT hG5 g5
   have h6:=qV hG5
   have hps6:=s6 _ _ hps
   refine⟨_,hps6,by rw[yC];omega,_,rfl,(s5.trans s6).put hD,?_⟩
   rw[zw hi,zM]
   exact q0f (fun _ _ z=>q05.mono (q0m.lst hps6) z) (rps.mono fun _ _=>q05.mono s6.ts) h6
  ·rintro σ H5 ⟨v0,rfl,s5,ps,hps,rps⟩
   rw[yC,zQ] at rps
   walk_at "r"
   refine q8k (SqL.of hps) fun t6 g6=>?_
   generalize hG6:upd _ t6 _=H6
   have s6:=qT hG6 g6
   have h6:=qV hG6
   have s36:=s4.trans (s5.trans s6)
   have hl6:=s36 _ _ hl3
   walk_at "r"
   intro t7 g7
   generalize hG7:upd _ t7 _=H7
   have s7:=qT hG7 g7
   have h7:=qV hG7
   walk_at "r"
   intro t8 g8
   generalize hG8:upd _ t8 _=H8
   have s8:=qT hG8 g8
   have h8:=qV hG8
   walk_at "r"
   intro t9 g9
   generalize hG9:upd _ t9 _=H9
   have s9:=qT hG9 g9
   have h9:=qV hG9
   have hl9:=(s7.trans (s8.trans s9)) _ _ hl6
   walk_at "r"
   intro p gp
   generalize hG10:upd _ p _=H10
   have s10:=qT hG10 gp
   have h10:=qV hG10
   have e0:=qW (ms.getD 10 0) (n:=255) (by decide)
   have e1:=q04 (ms.getD 10 0) (n:=255) (by decide)
   have e2:=qW (ms.getD 11 0) (n:=256) (by decide)
   have e3:=q04 (ms.getD 11 0) (n:=256) (by decide)
   have e4:=qW (ms.getD 12 0) (n:=10) (by decide)
   have e5:=q04 (ms.getD 12 0) (n:=10) (by decide)
   have s910:=s9.trans s10
   have s810:=s8.trans s910
   have s710:=s7.trans s810
   have s610:=s6.trans s710
   have s310:=s36.trans s710
   refine k p ⟨2,0,1,[⟨0,1,gt,decide (ms.getD 1 0 % 2=0)⟩],ks.map fun x=>(0,x % 12),[(0,1+ms.getD 10 0 % 255)],[],ms.getD 11 0 % 256,ms.getD 12 0 % 10⟩ H10 (s1.trans (s13.trans s310)) ⟨t2,t6,t8,t9,h10,⟨[t1],s310 _ _ h3,Rows.nil.snoc ⟨g,(s3.trans s310) _ _ h2,(s13.trans s310) _ _ hg⟩⟩,⟨ps,s710 _ _ h6,rps.mono fun _ _=>q05.mono s610.ts⟩,⟨[t7],s910 _ _ h8,Rows.nil.snoc (s810 _ _ h7)⟩,⟨[],s10 _ _ h9,Rows.nil⟩⟩ ?_
   refine⟨⟨(by decide:(1:Int)<=2),(by decide:(2:Int)<=14),⟨(by decide:(0:Int)<=0),(by decide:(0:Int)<2)⟩,⟨(by decide:(0:Int)<=1),(by decide:(1:Int)<2)⟩,by simp,by simp;omega,by simp,by simp,fun x hx=>?_,fun x hx=>?_,fun x hx=>?_,(fun x hx=>nomatch hx),⟨e2,by show ms.getD 11 0 % 256<=255;omega⟩,⟨e4,by show ms.getD 12 0 % 10<=9;omega⟩⟩,by simp,by simp;omega⟩
   ·rw [zA.mp hx]
    exact⟨⟨(by decide:(0:Int)<=0),(by decide:(0:Int)<2)⟩,⟨(by decide:(0:Int)<=1),(by decide:(1:Int)<2)⟩,(by decide:(0:Int)≠1),gok⟩
   ·obtain ⟨y,_,rfl⟩:=zaN.mp hx
    exact⟨⟨(by decide:(0:Int)<=0),(by decide:(0:Int)<2)⟩,qW y (by decide),q04 y (by decide)⟩
   ·rw [zA.mp hx]
    exact⟨⟨(by decide:(0:Int)<=0),(by decide:(0:Int)<2)⟩,by show 1<=1+ms.getD 10 0 % 255;omega,by show 1+ms.getD 10 0 % 255<=255;omega⟩
def qbB (K:W.Frag):Sp:=fun vs H Q _=>∃(a:Addr) (ns:List Int),vs=[.ref a]/\SqL K H a (ns.map V.int)/\ns.length<=63/\∀(p:Addr) (C:Cl) (H':Hp),Same H H'->ClAt H' p C->CvOk C->Q (.ref p) H'
theorem qat (T:Txt mg cs)(L:Laid K mg "_law_cave" q0M ["_law_script"])(wr:Cal P w K mg base 1 "_law_cell_at" ["_law_script","_law_k"] (q6g K))(wR:Cal P w K mg base 2 "_law_numbers" ["_law_script","_law_first","_law_total"] (qb5 K))(wO:Cal P w K mg base 1 "_law_gate" ["_law_number","_law_base"] q6d)(vB:Cal P w K mg base 2 "_law_great" ["_law_numbers_here"] q88):Cal P w K mg base 3 "_law_cave" ["_law_script"] (qbB K):=by
 refine L.cal (k:=2) qL (fun vs H Q E h=>?_) (fun f cdv A outer s H vs Q E hr h=>?_)
 ·obtain ⟨a,ns,rfl,_⟩:=h
  rfl
 ·obtain ⟨a,ns,rfl,hS,hl,k⟩:=h
  have big:=qF
  refine⟨_,(qg (qC (i:=1) qL.nd rfl (Or.inl rfl) (qB wr hr (by decide) rfl (qa (pv 0) (qa qc qd))))
   (qg (qC (i:=2) qL.nd rfl (Or.inl rfl) (qB wR hr (by decide) rfl (qa (pv 0) (qa qc (qa qc qd)))))
   (qg (qO (qw qS (qk qI (qk qU (pv 1) qc) qc) qc (qu _)) (qi (qp (qB vB hr (by decide) rfl (qa (pv 2) qd)))) qy)
   (qg (qC (i:=3) qL.nd rfl (Or.inr rfl) (qk q03 qc (qk qI (pv 1) qc)))
   (qg (qC (i:=4) qL.nd rfl (Or.inr rfl) (qk qI (qk qU (pv 1) qc) qc))
   (qg (qC (i:=5) qL.nd rfl (Or.inl rfl) (q0p qd))
   (qg (q0K PassesOwn.never rfl (q8y rfl T.wB (qa qc (qa (qk q03 (pv 3) (qk qI (qk qU (pv 1) qc) qc)) qd))) (qr (i:=6) qL.nd rfl (Or.inl rfl)) (qg (qC (i:=7) qL.nd rfl (Or.inl rfl) (qm (q0d K) (pv 2) (pv 6) (fun _ _=>rfl)))
   (qg (qC (i:=8) qL.nd rfl (Or.inl rfl) (qk qI (pv 7) (qD (min2 rfl) rfl T.waN q9B (qa (pv 6) (qa (pv 3) qd)))))
   (qg (qC (i:=9) qL.nd rfl (Or.inl rfl) (pv 6))
   (qg (qO (qw q7w (pv 6) (pv 3) (qu _)) (qi (qC (i:=9) qL.nd rfl (Or.inl rfl) (qk qI (qk q03 (qk q03 (pv 8) qc) (qk qI (qk qU (pv 7) qc) (qk q3x (pv 3) qc))) (pv 3)))) qy)
   (qi (q08 (q4i zR zU zX q0q (pv 5) (qa (qz (qa (pv 8) (qa (pv 9) (qa (qB wO hr (by decide) rfl (qa (qk qU (pv 7) qc) (qa (pv 4) qd))) (qa (qR q4j (qk qI (qk qU (pv 7) qc) qc) qc (qu _)) qd))))) qd)))))))))
   (qg (q2P (i:=10) qL.nd rfl rfl (q0L (N:=["_law_number","_law_rooms","_law_base"]) (own:=1) (caps:=[3,4]) ["_law_script","_law_first","_law_numbers_here","_law_rooms","_law_base","_law_ways","_law_k","_law_number","_law_a","_law_b","_law_things","_law_levers","_law_wheels","_law_lists"] (qh q0M) (by walk_at "k")) rfl (q0b K (qE (qY K) (pv 2) (qH qc) (qH (qk q03 qc (qk qI (qk qU (pv 1) qc) qc))))) (fun _ _ _ _=>(qr (i:=0) (show List.Nodup (["_law_number","_law_rooms","_law_base"]:List Str) by walk_at "k") rfl (Or.inl rfl))) (fun _ _ _ _=>q1H) (fun _ _ _ _=>(qz (qa (qk qI (pv 0) (pv 1)) (qa (qk qI (qk q03 (pv 2) (qk qI (qk qU (pv 0) qc) qc)) qc) qd)))))
   (qg (qC (i:=11) qL.nd rfl (Or.inl rfl) (q0p qd))
   (qg (q0K PassesOwn.never rfl (q0b K (qE (qY K) (pv 2) (qH qc) (qH (qk q03 qc (qk qI (qk qU (pv 1) qc) qc))))) (qr (i:=7) qL.nd rfl (Or.inl rfl)) (qi (q08 (q4i zR zU zX q0q (pv 11) (qa (qz (qa (qk qI (pv 7) (pv 3)) (qa (qk q03 qc (qk qI (qk qU (pv 7) qc) qc)) qd))) qd)))))
   (qg (q2P (i:=12) qL.nd rfl rfl (q0L (N:=["_law_number","_law_rooms"]) (own:=1) (caps:=[3]) ["_law_script","_law_first","_law_numbers_here","_law_rooms","_law_base","_law_ways","_law_k","_law_number","_law_a","_law_b","_law_things","_law_levers","_law_wheels","_law_lists"] (qh q0M) (by walk_at "k")) rfl (q0b K (qE (qY K) (pv 2) (qH qc) (qH (qk q03 qc (qk qI (qk qU (pv 1) qc) qc))))) (fun _ _ _ _=>(qr (i:=0) (show List.Nodup (["_law_number","_law_rooms"]:List Str) by walk_at "k") rfl (Or.inl rfl))) (fun _ _ _ _=>q1H) (fun _ _ _ _=>(qz (qa (qk qI (pv 0) (pv 1)) (qa (qk qI (qk qU (pv 0) qc) qc) qd)))))
   (qg (qC (i:=13) qL.nd rfl (Or.inl rfl) (qz (qa (q0y (q5i K) rfl T.vx q3f (qa (pv 5) qd)) (qa (q0y (q5i K) rfl T.vx q3f (qa (pv 10) qd)) (qa (q0y (q5i K) rfl T.vx q3f (qa (pv 11) qd)) (qa (q0y (q5i K) rfl T.vx q3f (qa (pv 12) qd)) qd))))))
   (qi (qp (qk (q72 K) (qk (q72 K) (qz (qa (pv 3) (qa qc (qa (qk q3x (pv 3) qc) qd)))) (pv 13)) (qz (qa (qk qI (qm (q0d K) (pv 2) qc (fun _ _=>rfl)) qc) (qa (qk qI (qm (q0d K) (pv 2) qc (fun _ _=>rfl)) qc) qd)))))))))))))))))),?_⟩
  walk_at "r"
  refine⟨a,ns,0,rfl,hS,hl,by decide,?_⟩
  generalize ns.getD _ 0=fi
  walk_at "r"
  refine⟨a,ns,0,34,rfl,hS,hl,by decide,by decide,by decide,fun l ms H1 s1 hl0 h1 hm hp=>?_⟩
  walk_at "r"
  refine ifd (fun g=>?_) (fun g=>?_)
  ·walk_at "r"
   refine⟨l,ms,rfl,h1,hm,fun p C H2 s2 hC ok=>?_⟩
   walk_at "r"
   exact k p C H2 (s1.trans s2) hC ok
  have r0:=qW fi (n:=4) (by decide)
  have r1:=q04 fi (n:=4) (by decide)
  have x0:=qW (fi / 48) (n:=3) (by decide)
  have x1:=q04 (fi / 48) (n:=3) (by decide)
  walk_at "r"
  generalize hR:2+fi % 4=R
  have hR2:2<=R/\R<=5:=by omega
  intro W hW
  generalize hG2:upd _ W _=H2
  have s2:=qT hG2 hW
  have h2:=qV hG2
  have hl2:=s2 _ _ h1
  have zW:H W=none:=s1.free hW
  have nWl:l≠W:=fun z=>by rw[<-z,h1] at hW;cases hW
  have ix:∀j:Nat,j<34->atI (ms.map V.int) (j:Int)=some (.int (ms.getD j 0)):=fun j hj=>q50 (by omega)
  obtain⟨B,hB⟩:∃B,fi / 4 % 12=B:=⟨_,rfl⟩
  rw[hB]
  walk_at "r"
  refine q3Z (fun i σ H'=>∃(v6 v7 v8 v9:Option V) (ws:List Way),σ=[some (.ref a),some (.int fi),some (.ref l),some (.int R),some (.int B),some (.ref W),v6,v7,v8,v9,none,none,none,none]/\Same H H'/\H' l=some (.lst (ms.map V.int))/\q01 q2t H' W ws/\ws.length=i/\∀x∈ws,WOk R x) ⟨none,none,none,none,[],rfl,s1.trans s2,hl2,⟨[],h2,Rows.nil⟩,rfl,fun x hx=>nomatch hx⟩ ?_ ?_
  ·rintro i σ H3 hi ⟨v6,v7,v8,v9,ws,rfl,s3,hl3,⟨ps,hps,rps⟩,wl,wo⟩
   have hi':i<7:=by omega
   have ek:(1:Int)+(i:Nat)=((1+i:Nat):Int):=by omega
   have iz:=ix (1+i) (by omega)
   rw[<-ek] at iz
   generalize ms.getD (1+i) 0=z at iz
   obtain⟨M,eM,M1,M2⟩:∃M:Int,(if R<1+(i:Nat) then R else 1+(i:Nat))=M/\1<=M/\M<=R:=⟨_,rfl,by split<;>omega,by split<;>omega⟩
   have c0:=qW z (n:=M) (by omega)
   have c1:=q04 z (n:=M) (by omega)
   have d0:=qW (z / 14) (n:=R - 1) (by omega)
   have d1:=q04 (z / 14) (n:=R - 1) (by omega)
   walk_at "r"
   rw[eM]
   rename_i zz hzz
   have lp:ps.length=i:=by rw[rps.1,wl]
   have fin:∀(b:Int) (D:Ends),(∀σ H',(∃(v6 v7 v8 v9:Option V) (ws:List Way),σ=[some (.ref a),some (.int fi),some (.ref l),some (.int R),some (.int B),some (.ref W),v6,v7,v8,v9,none,none,none,none]/\Same H H'/\H' l=some (.lst (ms.map V.int))/\q01 q2t H' W ws/\ws.length=i+1/\∀x∈ws,WOk R x)->D.nx σ H')->0<=b->b<R->z % M≠b->zz D [some (.ref a),some (.int fi),some (.ref l),some (.int R),some (.int B),some (.ref W),some (.int (1+(i:Nat))),some (.int z),some (.int (z % M)),some (.int b),none,none,none,none] H3:=fun b D hD b0 b1 ne=>by
    walk_at "r"
    refine⟨_,_,rfl,fun g gt H4 s4 gok hg=>?_⟩
    walk_at "r"
    intro t5 g5
    generalize hG5:upd _ t5 _=H5
    have s5:=qT hG5 g5
    have h5:=qV hG5
    have s35:=s4.trans s5
    have hps5:=s35 _ _ hps
    walk_at "r"
    refine q4h hps5 (by rw[yC];omega) ?_
    have nWl':l≠W:=nWl
    refine hD _ _ ⟨_,_,_,_,ws++[⟨z % M,b,gt,_⟩],rfl,(s3.trans s35).put zW,by rw[qq nWl'];exact s35 _ _ hl3,q0f (fun _ _ y=>q2t.mono (q0m.lst hps5) y) (rps.mono fun _ _=>q2t.mono s35.ts) ⟨g,h5,s5 _ _ hg⟩,by simp[wl],fun x hx=>?_⟩
    rcases zad.mp hx with y|y
    ·exact wo x y
    ·rw [zA.mp y]
     exact⟨⟨c0,by show z % M<R;omega⟩,⟨b0,b1⟩,ne,gok⟩
   clear hzz
   have q0:=qW (z % M+1+z / 14 % (R - 1)) (n:=R) (by omega)
   have q1:=q04 (z % M+1+z / 14 % (R - 1)) (n:=R) (by omega)
   refine ifd (fun y=>?_) (fun y=>?_)
   ·walk_at "r"
    refine fin _ _ (fun _ _ h=>let ⟨v6,v7,v8,v9,ws,h1,h2,h3,h4,h5,h6⟩:=h;⟨v6,v7,v8,v9,ws,h1,h2,h3,h4,h5,h6⟩) q0 q1 ?_
    intro e
    by_cases y2:z % M+1+z / 14 % (R - 1)<R
    ·rw [zce (by omega) y2] at e;omega
    ·have:(z % M+1+z / 14 % (R - 1)) % R=z % M+1+z / 14 % (R - 1) - R:=by rw[<-Int.sub_emod_right,zce (by omega) (by omega)]
     omega
   ·walk_at "r"
    exact fin _ _ (fun _ _ h=>let ⟨v6,v7,v8,v9,ws,h1,h2,h3,h4,h5,h6⟩:=h;⟨v6,v7,v8,v9,ws,h1,h2,h3,h4,h5,h6⟩) (by omega) (by omega) (by
     have:M<=1+(i:Nat):=by rw[<-eM];split<;>omega
     omega)
  ·rintro σ H3 ⟨v6,v7,v8,v9,ws,rfl,s3,hl3,hws,wl,wo⟩
   have y0:=qW (fi / 144) (n:=3) (by decide)
   have y1:=q04 (fi / 144) (n:=3) (by decide)
   have y2:=qW (fi / 432) (n:=2) (by decide)
   have y3:=q04 (fi / 432) (n:=2) (by decide)
   have y4:=qW (fi / 864) (n:=2) (by decide)
   have y5:=q04 (fi / 864) (n:=2) (by decide)
   obtain⟨j1,e1,f1⟩:∃j:Nat,20+fi / 144 % 3=(j:Int)/\20<=j/\j<=22:=⟨(20+fi / 144 % 3).toNat,by omega,by omega,by omega⟩
   obtain⟨j2,e2,f2⟩:∃j:Nat,24+fi / 432 % 2=(j:Int)/\24<=j/\j<=25:=⟨(24+fi / 432 % 2).toNat,by omega,by omega,by omega⟩
   obtain⟨j3,e3,f3⟩:∃j:Nat,27+fi / 864 % 2=(j:Int)/\27<=j/\j<=28:=⟨(27+fi / 864 % 2).toNat,by omega,by omega,by omega⟩
   have i31:=ix 31 (by omega)
   have i33:=ix 33 (by omega)
   walk_at "r"
   rw[e1]
   refine⟨l,_,rfl,SqL.of hl3,fun l4 gl4=>?_⟩
   rw[show(20:Int)=((20:Nat):Int) from rfl,q3I ms 20 j1 (by omega) (by omega)]
   generalize hG4:upd _ l4 _=H4
   have s4:=qT hG4 gl4
   have h4:=qV hG4
   generalize hks:(ms.drop 20).take (j1 - 20)=ks at h4
   have kl:ks.length<=2:=by rw[<-hks,zD];omega
   walk_at "r"
   intro D hD
   refine q1f (ks.map V.int) (fun i σ H'=>∃v0,σ=[v0,some (.int R),some (.int B)]/\Same H4 H'/\q01 q05 H' D ((ks.take i).map fun x=>(x % R,(B+x / 14 % 3) % 12))) ⟨none,rfl,Same.upd hD,⟨[],qe,Rows.nil⟩⟩ ?_ ?_ ?_
   ·rintro i σ H' ⟨_,rfl,s5,_⟩
    exact SqL.of (s5 _ _ h4)
   ·rintro i z σ H' hz ⟨v0,rfl,s5,ps,hps,rps⟩
    have hi:i<ks.length:=by have:=(yA hz).1;simpa using this
    obtain rfl:z= .int ks[i]:=by simpa[hi] using hz.symm
    have lp:ps.length<=8:=by rw[rps.1,yC,zD];omega
    walk_at "r"
    intro t5 g5
    generalize hG5:upd _ t5 _=H5
    have s6:=qT hG5 g5
    have h6:=qV hG5
    have hps6:=s6 _ _ hps
    refine⟨_,hps6,by rw[yC];omega,_,rfl,(s5.trans s6).put hD,?_⟩
    rw[zw hi,zM]
    exact q0f (fun _ _ z=>q05.mono (q0m.lst hps6) z) (rps.mono fun _ _=>q05.mono s6.ts) h6
   ·rintro σ H5 ⟨v0,rfl,s5,hth⟩
    rw[yC,zQ] at hth
    have hws5:=q3y (fun _ _ h=>q2t.mono (s4.trans s5).ts h) (s4.trans s5) hws
    have hl5:=(s4.trans s5) _ _ hl3
    have s05:=s3.trans (s4.trans s5)
    walk_at "r"
    intro V0 gV
    generalize hG6:upd _ V0 _=H6
    have s6:=qT hG6 gV
    have h6:=qV hG6
    have zV:H V0=none:=s05.free gV
    have s06:=s05.trans s6
    walk_at "r"
    rw[e2]
    refine⟨l,_,rfl,SqL.of (s6 _ _ hl5),fun l7 gl7=>?_⟩
    rw[show(24:Int)=((24:Nat):Int) from rfl,q3I ms 24 j2 (by omega) (by omega)]
    generalize hG7:upd _ l7 _=H7
    have s7:=qT hG7 gl7
    have h7:=qV hG7
    generalize hqs:(ms.drop 24).take (j2 - 24)=qs at h7
    have ql:qs.length<=1:=by rw[<-hqs,zD];omega
    have h67:=s7 _ _ h6
    have nV:l7≠V0:=fun z=>by rw[z,h6] at gl7;cases gl7
    have hws7:=q3y (fun _ _ h=>q2t.mono (s6.trans s7).ts h) (s6.trans s7) hws5
    have hth7:=q3y (fun _ _ h=>q05.mono (s6.trans s7).ts h) (s6.trans s7) hth
    have hl7:=(s6.trans s7) _ _ hl5
    have nVW:W≠V0:=fun z=>by obtain⟨_,y,_⟩:=hws5;rw[z] at y;rw[y] at gV;cases gV
    have nVD:D≠V0:=fun z=>by obtain⟨_,y,_⟩:=hth;rw[z] at y;rw[y] at gV;cases gV
    have nVl:l≠V0:=fun z=>by rw[<-z,hl5] at gV;cases gV
    walk_at "r"
    refine q6x (qs.map V.int) (fun i σ H'=>∃v7:Option V,σ=[some (.ref a),some (.int fi),some (.ref l),some (.int R),some (.int B),some (.ref W),v6,v7,v8,v9,some (.ref D),some (.ref V0),none,none]/\Same H H'/\H' l7=some (.lst (qs.map V.int))/\H' l=some (.lst (ms.map V.int))/\q01 q2t H' W ws/\q01 q05 H' D (ks.map fun x=>(x % R,(B+x / 14 % 3) % 12))/\q01 q05 H' V0 ((qs.take i).map fun x=>(x % R,1+x / 14 % 255))) ⟨v7,rfl,s06.trans s7,h7,hl7,hws7,hth7,⟨[],h67,Rows.nil⟩⟩ ?_ ?_ ?_
    ·rintro i σ H' ⟨_,rfl,_,y,_⟩
     exact SqL.of y
    ·rintro i z σ H' hz ⟨v7,rfl,s8,y1,y2,y3,y4,ps,hps,rps⟩
     have hi:i<qs.length:=by have:=(yA hz).1;simpa using this
     obtain rfl:z= .int qs[i]:=by simpa[hi] using hz.symm
     have lp:ps.length<=8:=by rw[rps.1,yC,zD];omega
     walk_at "r"
     intro t5 g5
     generalize hG9:upd _ t5 _=H9
     have s9:=qT hG9 g5
     have h9:=qV hG9
     have hps9:=s9 _ _ hps
     have ts:=q0m.lst (o:= .lst (ps.map V.ref++[.ref t5])) hps9
     walk_at "r"
     refine q4h hps9 (by rw[yC];omega) ?_
     obtain⟨u1,u2,u3⟩:=y3
     obtain⟨w1,w2,w3⟩:=y4
     refine⟨_,rfl,(s8.trans s9).put zV,by rw[qq nV];exact s9 _ _ y1,by rw[qq nVl];exact s9 _ _ y2,⟨u1,by rw[qq nVW];exact s9 _ _ u2,u3.mono fun _ _=>q2t.mono (s9.ts.trans ts)⟩,⟨w1,by rw[qq nVD];exact s9 _ _ w2,w3.mono fun _ _=>q05.mono (s9.ts.trans ts)⟩,?_⟩
     rw[zw hi,zM]
     exact q0f (fun _ _ z=>q05.mono ts z) (rps.mono fun _ _=>q05.mono s9.ts) h9
    ·rintro σ H8 ⟨v7,rfl,s8,_,hl8,hws8,hth8,hlv8⟩
     rw[yC,zQ] at hlv8
     walk_at "r"
     rw[e3]
     refine⟨l,_,rfl,SqL.of hl8,fun l9 gl9=>?_⟩
     rw[show(27:Int)=((27:Nat):Int) from rfl,q3I ms 27 j3 (by omega) (by omega)]
     generalize hG9:upd _ l9 _=H9
     have s9:=qT hG9 gl9
     have h9:=qV hG9
     generalize hvs:(ms.drop 27).take (j3 - 27)=us at h9
     have ul:us.length<=1:=by rw[<-hvs,zD];omega
     walk_at "r"
     intro G hG
     refine q1f (us.map V.int) (fun i σ H'=>∃v0,σ=[v0,some (.int R)]/\Same H9 H'/\q01 q05 H' G ((us.take i).map fun x=>(x % R,x / 14 % 10))) ⟨none,rfl,Same.upd hG,⟨[],qe,Rows.nil⟩⟩ ?_ ?_ ?_
     ·rintro i σ H' ⟨_,rfl,s5,_⟩
      exact SqL.of (s5 _ _ h9)
     ·rintro i z σ H' hz ⟨v0,rfl,s10,ps,hps,rps⟩
      have hi:i<us.length:=by have:=(yA hz).1;simpa using this
      obtain rfl:z= .int us[i]:=by simpa[hi] using hz.symm
      have lp:ps.length<=8:=by rw[rps.1,yC,zD];omega
      walk_at "r"
      intro t5 g5
      generalize hG10:upd _ t5 _=H10
      have s11:=qT hG10 g5
      have h11:=qV hG10
      have hps6:=s11 _ _ hps
      refine⟨_,hps6,by rw[yC];omega,_,rfl,(s10.trans s11).put hG,?_⟩
      rw[zw hi,zM]
      exact q0f (fun _ _ z=>q05.mono (q0m.lst hps6) z) (rps.mono fun _ _=>q05.mono s11.ts) h11
     ·rintro σ H10 ⟨v0,rfl,s10,vps,hvp,rvp⟩
      rw[yC,zQ] at rvp
      have s810:=s9.trans s10
      obtain⟨wps,hwp,rwp⟩:=hws8
      obtain⟨tps,htp,rtp⟩:=hth8
      obtain⟨lps,hlp,rlp⟩:=hlv8
      have hl10:=s810 _ _ hl8
      walk_at "r"
      refine q8k (SqL.of (s810 _ _ hwp)) fun a1 ga1=>?_
      generalize hG11:upd _ a1 _=H11
      have s11:=qT hG11 ga1
      have h11:=qV hG11
      walk_at "r"
      refine q8k (SqL.of ((s810.trans s11) _ _ htp)) fun a2 ga2=>?_
      generalize hG12:upd _ a2 _=H12
      have s12:=qT hG12 ga2
      have h12:=qV hG12
      have s812:=s810.trans (s11.trans s12)
      walk_at "r"
      refine q8k (SqL.of (s812 _ _ hlp)) fun a3 ga3=>?_
      generalize hG13:upd _ a3 _=H13
      have s13:=qT hG13 ga3
      have h13:=qV hG13
      have s1013:=s11.trans (s12.trans s13)
      walk_at "r"
      refine q8k (SqL.of (s1013 _ _ hvp)) fun a4 ga4=>?_
      generalize hG14:upd _ a4 _=H14
      have s14:=qT hG14 ga4
      have h14:=qV hG14
      walk_at "r"
      intro a5 ga5
      generalize hG15:upd _ a5 _=H15
      have s15:=qT hG15 ga5
      have h15:=qV hG15
      walk_at "r"
      intro a6 ga6
      generalize hG16:upd _ a6 _=H16
      have s16:=qT hG16 ga6
      have h16:=qV hG16
      walk_at "r"
      refine⟨a6,a5,_,_,rfl,rfl,SqT.of h16,SqT.of (s16 _ _ h15),by simp,by simp;omega,(fun z=>absurd z (by simp)),fun _ a7 ga7=>?_⟩
      generalize hG17:upd _ a7 _=H17
      have s17:=qT hG17 ga7
      have h17:=qV hG17
      have s1417:=s15.trans (s16.trans s17)
      have s1017:=s1013.trans (s14.trans s1417)
      have hl17:=s1017 _ _ hl10
      walk_at "r"
      intro a8 ga8
      generalize hG18:upd _ a8 _=H18
      have s18:=qT hG18 ga8
      have h18:=qV hG18
      walk_at "r"
      refine⟨a7,a8,_,_,rfl,rfl,SqT.of (s18 _ _ h17),SqT.of h18,by simp,by simp;omega,(fun z=>absurd z (by simp)),fun _ p gp=>?_⟩
      generalize hG19:upd _ p _=H19
      have s19:=qT hG19 gp
      have h19:=qV hG19
      have s1719:=s18.trans s19
      have s1419:=s1417.trans s1719
      have s1319:=s14.trans s1419
      have s1219:=s13.trans s1319
      have s1119:=s12.trans s1219
      have s1019:=s11.trans s1119
      have s819:=s810.trans s1019
      walk_at "r"
      have b0:=qW (ms.getD 31 0) (n:=256) (by decide)
      have b1:=q04 (ms.getD 31 0) (n:=256) (by decide)
      have c0:=qW (ms.getD 33 0) (n:=10) (by decide)
      have c1:=q04 (ms.getD 33 0) (n:=10) (by decide)
      refine k p ⟨R,0,R - 1,ws,ks.map fun x=>(x % R,(B+x / 14 % 3) % 12),qs.map fun x=>(x % R,1+x / 14 % 255),us.map fun x=>(x % R,x / 14 % 10),ms.getD 31 0 % 256,ms.getD 33 0 % 10⟩ H19 (s8.trans s819) ⟨a1,a2,a3,a4,h19,⟨wps,s1119 _ _ h11,rwp.mono fun _ _=>q2t.mono s819.ts⟩,⟨tps,s1219 _ _ h12,rtp.mono fun _ _=>q05.mono s819.ts⟩,⟨lps,s1319 _ _ h13,rlp.mono fun _ _=>q05.mono s819.ts⟩,⟨vps,s1419 _ _ h14,rvp.mono fun _ _=>q05.mono s1019.ts⟩⟩ ?_
      have wl':ws.length<=6/\1<=ws.length:=by omega
      refine⟨⟨by show 1<=R;omega,by show R<=14;omega,⟨Int.le_refl _,by show 0<R;omega⟩,by show 0<=R - 1/\R - 1<R;omega,by show ws.length<=20;omega,by simp;omega,by simp;omega,by simp;omega,wo,fun x hx=>?_,fun x hx=>?_,fun x hx=>?_,⟨b0,by show ms.getD 31 0 % 256<=255;omega⟩,⟨c0,by show ms.getD 33 0 % 10<=9;omega⟩⟩,by show 1<=ws.length;omega,by simp;omega⟩
      ·obtain ⟨y,_,rfl⟩:=zaN.mp hx
       exact⟨⟨qW y (by omega),q04 y (by omega)⟩,qW _ (by decide),q04 _ (by decide)⟩
      ·obtain ⟨y,_,rfl⟩:=zaN.mp hx
       have m0:=qW (y / 14) (n:=255) (by decide)
       have m1:=q04 (y / 14) (n:=255) (by decide)
       exact⟨⟨qW y (by omega),q04 y (by omega)⟩,by show 1<=1+y / 14 % 255;omega,by show 1+y / 14 % 255<=255;omega⟩
      ·obtain ⟨y,_,rfl⟩:=zaN.mp hx
       have m0:=qW (y / 14) (n:=10) (by decide)
       have m1:=q04 (y / 14) (n:=10) (by decide)
       exact⟨⟨qW y (by omega),q04 y (by omega)⟩,m0,by show y / 14 % 10<=9;omega⟩
def knD (row:List Sd):Dk:=row.map fun x=>(x,V.bl true)
theorem q75 (row:List Sd):(knD row).map (·.1)=row:=by
 unfold knD
 rw[za6]
 exact(zax fun a _=>rfl).trans (zcs row)
theorem CvOk.few {C:Cl}(h:CvOk C)(s:Sd):(fitD C s).length<=16:=by
 refine zab (zbg _ _) ?_
 have:=h.m
 simp only[allD,List.length_append,q36]
 omega
theorem q7D {row:List Sd}{y:Sd}(h:row.Nodup)(hy:y∉row):(row++[y]).Nodup:=List.nodup_append.mpr ⟨h,by simp,fun a ha b hb e=>hy (by rw[List.mem_singleton.mp hb] at e;rw[<-e];exact ha)⟩
def q9Q:Sp:=fun vs H Q _=>∃(c q:Addr) (C:Cl) (s:Sd) (m:Nat),vs=[.ref c,.ref q,.int m]/\ClAt H c C/\CvOk C/\SAt H q s/\s.ok C/\m<=40/\∀(r:Addr) (row:List Sd) (H':Hp),Same H H'->H r=none->q01 SAt H' r row->row.Nodup->row.length<=55->1<=row.length->(∀x∈row,x.ok C)->Q (.ref r) H'
theorem q8J (T:Txt mg cs)(L:Laid K mg "_law_coming" q0Z ["_law_cave_here","_law_stand","_law_most"])(wA:Cal P w K mg base 4 "_law_next" ["_law_cave_here","_law_stand"] q3i):Cal P w K mg base 5 "_law_coming" ["_law_cave_here","_law_stand","_law_most"] q9Q:=by
 refine L.cal (k:=4) q0x (fun vs H Q E h=>?_) (fun f cdv A outer s H vs Q E hr h=>?_)
 ·obtain ⟨c,q,C,st,m,rfl,_⟩:=h
  rfl
 ·obtain ⟨c,q,C,st,m,rfl,hC,cv,hq,sok,hm,k⟩:=h
  have big:=qF
  have ok:=cv.ok
  refine⟨_,(qg (qC (i:=3) q0x.nd rfl (Or.inl rfl) (qad (q4s hr) (pv 1) q1D))
   (qg (qC (i:=4) q0x.nd rfl (Or.inl rfl) (q0p (qa (pv 1) qd)))
   (qg (qa2 PassesOwn.never (PW.pt (q5O (qw q4j (qD (lenK K) rfl T.ww q0i (qa (pv 4) qd)) qc (qu _)) (q3R (qw q8F (qD lenT rfl T.ww q0i (qa (pv 3) qd)) (pv 2) (qu _))))) (qi (q0K PassesOwn.never rfl (q0b K (qB wA hr (by decide) rfl (qa (pv 0) (qa (pe_bm0 zR PySem.F.slot_list_pop PySem.F.type_list_pop mt_pop (pv 4)) qd)))) (q0v (n:=2) K rfl (qA (qr (i:=5) q0x.nd rfl (Or.inl rfl)) (qA (qr (i:=6) q0x.nd rfl (Or.inl rfl)) q0u))) (qi (qO (q8p (q8C (q4s hr) (pv 6) (pv 3))) (qg (q8u (q4s hr) (pv 3) (pv 6) q1D rfl)
   (qi (q08 (q4i zR zU zX q0q (pv 4) (qa (pv 6) qd))))) qy)))))
   (qi (qp (qD (sortTK K) rfl T.waZ q9A (qa (q0y lstD rfl T.vM q4Y (qa (pv 3) qd)) qd))))))),?_⟩
  walk_at "r"
  intro D hD
  have s1:=Same.upd (o:= .dT []) hD
  have h1:=qe (H:=H) (a:=D) (o:= .dT [])
  generalize upd H D (.dT [])=H1 at s1 h1 ⊢
  walk_at "r"
  refine⟨q,st.key,rfl,h1,s1 _ _ hq,?_⟩
  have s2:Same H (upd H1 D (.dT [(st.key,V.bl true)])):=s1.put hD
  have d2:DAtS (upd H1 D (.dT [(st.key,V.bl true)])) D (knD [st]):=qe
  generalize upd H1 D (.dT [(st.key,V.bl true)])=H2 at s2 d2 ⊢
  walk_at "r"
  intro W hW2
  have hW:H W=none:=s2.free hW2
  have s3:=s2.trans (Same.upd (o:= .lst [.ref q]) hW2)
  have d3:DAtS (upd H2 W (.lst [.ref q])) D (knD [st]):=(Same.upd (o:= .lst [.ref q]) hW2) _ _ d2
  have w3:=qe (H:=H2) (a:=W) (o:= .lst [.ref q])
  generalize upd H2 W (.lst [.ref q])=H3 at s3 d3 w3 ⊢
  walk_at "r"
  refine qbH (fun n σ H'=>∃(row wt:List Sd) (v5 v6:Option V),σ=[some (.ref c),some (.ref q),some (.int m),some (.ref D),some (.ref W),v5,v6]/\Same H H'/\DAtS H' D (knD row)/\q01 SAt H' W wt/\row.Nodup/\(∀x∈row,x.ok C)/\(∀x∈wt,x.ok C)/\1<=row.length/\row.length<=55/\wt.length<=row.length/\n=100 - (row.length - wt.length)) (100 - (1 - 1))
   ⟨[st],[st],none,none,rfl,s3,d3,⟨[q],w3,Rows.nil.snoc (s3 _ _ hq)⟩,by simp,by simpa using sok,by simpa using sok,by simp,by simp,by simp,rfl⟩ ?_
  rintro n σ H4 ⟨row,wt,v5,v6,rfl,s4,hd4,⟨ps,hps,rps⟩,nd,ro,wo,r1,r2',lw,hn⟩
  have lp:ps.length=wt.length:=rps.1
  have kl:(dkv (knD row)).length=row.length:=by simp[dkv,knD]
  have done:rLstD [V.ref D] H4 fun x H1=>qb9 K [x] H1 Q:=by
   refine⟨D,_,rfl,hd4,fun r bs hr0 bl hb=>?_⟩
   have bl':bs.length=row.length:=by rw[bl,kl]
   have s5:=Same.upd (o:= .lst (bs.map V.ref)) hr0
   have rows:Rows SAt (upd H4 r (.lst (bs.map V.ref))) bs row:=⟨bl',fun i p x h1 h2=>by
    have hi:i<row.length:=(yA h2).1
    have:=hb i p (x.key,V.bl true) h1 (by rw[dkv,knD,za6,zN,h2];rfl)
    exact s5 _ _ this⟩
   have lo:q01 SAt (upd H4 r (.lst (bs.map V.ref))) r row:=⟨bs,qe,rows⟩
   obtain⟨l,e1,e2,e3⟩:=q01.pairs rows
   have el:(l.map fun x=>V.ref x.1)=bs.map V.ref:=by rw[<-e1,za6];rfl
   have ll:l.length=row.length:=by have:=zae List.length e1;rw[yC] at this;omega
   refine⟨r,l,5,rfl,SqL.of (by rw[el];exact qe),by omega,by decide,e3,fun r2 l' hr2 hp hs=>?_⟩
   obtain⟨R,pm,_,rr⟩:=q7n (ps:=bs) e2 e3 hp hs
   have s6:=Same.upd (o:= .lst (l'.map fun x=>V.ref x.1)) hr2
   refine k r2 R _ (s4.trans (s5.trans s6)) (s4.free (s5.free hr2)) ⟨l'.map (·.1),by rw[za6];exact qe,rr.mono fun _ _=>SAt.mono s6.ts⟩ (pm.nodup_iff.mpr nd) (by rw[pm.length_eq];exact r2') (by rw[pm.length_eq];exact r1) fun x hx=>ro x (pm.mem_iff.mp hx)
  walk_at "r"
  rw[yC,lp]
  refine ifd (fun g1=>?_) (fun g1=>?_)
  ·walk_at "r"
   refine⟨D,_,rfl,hd4,?_⟩
   rw[kl]
   walk_at "r"
   refine ifd (fun g2=>?_) (fun g2=>?_)
   ·obtain ⟨wt0,x,rfl⟩:∃wt0 x,wt=wt0++[x]:=⟨wt.dropLast,wt.getLast (by intro z;rw[z] at g1;simp at g1),(zbY _).symm⟩
    obtain⟨ps0,p,rfl⟩:∃ps0 p,ps=ps0++[p]:=⟨ps.dropLast,ps.getLast (by intro z;rw[z] at lp;simp at lp),(zbY _).symm⟩
    rw[zx,zx] at lp
    have lp0:ps0.length=wt0.length:=by simpa using lp
    have hpx:SAt H4 p x:=rps.2 wt0.length p x (by simp[<-lp0]) (by simp)
    have rps0:Rows SAt H4 ps0 wt0:=⟨lp0,fun i a b h1 h2=>rps.2 i a b (by rw[zS (yA h1).1];exact h1) (by rw[zS (yA h2).1];exact h2)⟩
    have xok:x.ok C:=wo x (by simp)
    have lw0:wt0.length+1<=row.length:=by simpa using lw
    have fx:=cv.few x
    have neWD:W≠D:=q6s hps hd4 (by intro z;cases z)
    refine⟨fun σ' H'=>∃(row' wt':List Sd) (v5 v6:Option V),σ'=[some (.ref c),some (.ref q),some (.int m),some (.ref D),some (.ref W),v5,v6]/\Same H H'/\DAtS H' D (knD row')/\q01 SAt H' W wt'/\row'.Nodup/\(∀x∈row',x.ok C)/\(∀x∈wt',x.ok C)/\row.length<=row'.length/\row'.length<=row.length+16/\wt'.length+row.length=wt0.length+row'.length,?_,?_⟩
    ·rintro σ' H' ⟨row',wt',v5,v6,rfl,y1,y2,y3,y4,y5,y6,y7,y8,y9⟩
     have hl:(wt0++[x]).length=wt0.length+1:=by simp
     exact⟨100 - (row'.length - wt'.length),by omega,row',wt',v5,v6,rfl,y1,y2,y3,y4,y5,y6,by omega,by omega,by omega,rfl⟩
    walk_at "r"
    refine⟨W,_,.ref p,rfl,rfl,hps,by simp,?_⟩
    rw[show((ps0++[p]).map V.ref).dropLast=ps0.map V.ref by rw[zM];simp]
    have ts5:=q0m.lst (o:= .lst (ps0.map V.ref)) hps
    have s5:Same H (upd H4 W (.lst (ps0.map V.ref))):=s4.put hW
    have w5:=qe (H:=H4) (a:=W) (o:= .lst (ps0.map V.ref))
    have d5:DAtS (upd H4 W (.lst (ps0.map V.ref))) D (knD row):=DAtS.lput hps hd4
    generalize upd H4 W (.lst (ps0.map V.ref))=H5 at ts5 s5 w5 d5 ⊢
    walk_at "r"
    refine⟨c,p,C,x,rfl,hC.mono s5.ts,ok,SAt.mono ts5 hpx,xok,fun lq H6 s6 hl0 m6=>?_⟩
    obtain⟨qs,hqs,rqs⟩:=m6
    have neqW:lq≠W:=fun z=>by subst z;rw[hl0] at w5;cases w5
    have neqD:lq≠D:=fun z=>by rw[z,show H5 D=some _ from d5] at hl0;cases hl0
    walk_at "r"
    refine q2A (qs.map V.ref) (fun i σ' H'=>∃(row' wt':List Sd) (v5 v6:Option V),σ'=[some (.ref c),some (.ref q),some (.int m),some (.ref D),some (.ref W),v5,v6]/\Same H H'/\H' lq=some (.lst (qs.map V.ref))/\Rows (PrAt C x) H' qs (fitD C x)/\DAtS H' D (knD row')/\q01 SAt H' W wt'/\row'.Nodup/\(∀x∈row',x.ok C)/\(∀x∈wt',x.ok C)/\row.length<=row'.length/\row'.length<=row.length+i/\wt'.length+row.length=wt0.length+row'.length)
     ⟨row,wt0,v5,v6,rfl,s5.trans s6,hqs,rqs,s6 _ _ d5,⟨ps0,s6 _ _ w5,rps0.mono fun _ _=>SAt.mono (ts5.trans s6.ts)⟩,nd,ro,fun y hy=>wo y (zaL _ hy),zn _,zn _,rfl⟩ ?_ ?_ ?_
    ·rintro i σ' H' ⟨_,_,_,_,rfl,_,e,_⟩
     exact SqL.of e
    ·rintro i z σ' H7 hz ⟨row',wt',v5,v6,rfl,s7,l7,rq7,hd7,⟨us,hus,rus⟩,nd',ro',wo',z1,z2,z3⟩
     have hi:i<(fitD C x).length:=by have:=(yA hz).1;rw[yC,rqs.1] at this;exact this
     obtain⟨p',ep',hp7⟩:=rq7.get hi
     rw[hz] at ep'
     cases ep'
     obtain⟨t,r,e7,_,hr7⟩:=hp7
     have hyok:(q1p C x (fitD C x)[i].1 ((fitD C x)[i].2:Int)).ok C:=q4U ok xok (q37.mp (by rw[Prod.eta];exact zL hi))
     generalize q1p C x (fitD C x)[i].1 ((fitD C x)[i].2:Int)=y at hr7 hyok
     have hr7:SAt H7 r y:=hr7
     have ul:us.length<=60:=by rw[rus.1];omega
     intro D2 hn2 hc2 hb2 hr2
     walk_at "r"
     refine⟨D,_,rfl,dget_s (.inl hd7) hr7,?_⟩
     rw[q7M,q75]
     walk_at "r"
     by_cases hin:y∈row'
     ·rw [zr hin]
      walk_at "r"
      exact hn2 _ _ ⟨row',wt',_,_,rfl,s7,l7,rq7,hd7,⟨us,hus,rus⟩,nd',ro',wo',z1,by omega,z3⟩
     ·rw [zq hin]
      walk_at "r"
      refine⟨D,_,rfl,dput_s hd7 hr7 (by simp[knD];omega) (by rw[q75];exact hin),?_⟩
      have ek:knD row'++[(y,V.bl true)]=knD (row'++[y]):=by simp[knD]
      rw[ek]
      have ts8:=dT_ts (o:= .dT (dkv (knD (row'++[y])))) hd7
      have s8:Same H (upd H7 D (.dT (dkv (knD (row'++[y]))))):=s7.put hD
      have d8:DAtS (upd H7 D (.dT (dkv (knD (row'++[y]))))) D (knD (row'++[y])):=qe
      have l8:upd H7 D (.dT (dkv (knD (row'++[y])))) lq=some (.lst (qs.map V.ref)):=by rw[qq neqD];exact l7
      have u8:upd H7 D (.dT (dkv (knD (row'++[y])))) W=some (.lst (us.map V.ref)):=by rw[qq neWD];exact hus
      generalize upd H7 D (.dT (dkv (knD (row'++[y]))))=H8 at ts8 s8 d8 l8 u8 ⊢
      walk_at "r"
      refine q4h u8 (by rw[yC];omega) ?_
      have ts9:=q0m.lst (o:= .lst (us.map V.ref++[.ref r])) u8
      exact hn2 _ _ ⟨row'++[y],wt'++[y],_,_,rfl,s8.put hW,by rw[qq neqW];exact l8,rq7.mono fun _ _ h=>PrAt.mono (ts8.trans ts9) h,DAtS.lput u8 d8,q0f (fun _ _=>SAt.put u8) (rus.mono fun _ _=>SAt.mono ts8) (SAt.mono ts8 hr7),q7D nd' hin,fun z hz=>by rcases zad.mp hz with h|h;exact ro' z h;rw[zA.mp h];exact hyok,fun z hz=>by rcases zad.mp hz with h|h;exact wo' z h;rw[zA.mp h];exact hyok,by rw[zx];simp;omega,by rw[List.length_append];simp;omega,by rw[List.length_append,List.length_append];simp;omega⟩
    ·rintro σ' H7 ⟨row',wt',v5,v6,rfl,s7,l7,rq7,hd7,hw7,nd',ro',wo',z1,z2,z3⟩
     rw[yC,rqs.1] at z2
     exact⟨row',wt',_,_,rfl,s7,hd7,hw7,nd',ro',wo',z1,by omega,z3⟩
   ·walk_at "r"
    exact done
  ·walk_at "r"
   exact done
theorem q9H {ds:Nat->Option Int}{op:Int}{m:Nat}(h0:0<=op):decide (Builtin.bitAnd op (dbs ds m)=op)=(decide (0<=op/\op<2 ^ m)&&drs ds m op):=by
 rw[<-q4t]
 unfold hasB
 rw[zr h0,zaI,zP]
 simp only[Bool.and_eq_true,decide_eq_true_eq]
 rw[qaf]
 exact⟨fun h=>⟨by have:=(zci op (q3d ds m).1).2;omega,h⟩,fun h=>h.2⟩
def spLis:Sp:=fun vs H Q _=>∃(c q:Addr) (C:Cl) (st:List Int),vs=[.ref c,.ref q]/\ClAt H c C/\CvOk C/\H q=some (.tup (st.map V.int))/\(st.length=4\/st.length=5)/\∀H',Same H H'->Q (.bl (stOk C st)) H'
theorem ok_lis (T:Txt mg cs)(L:Laid K mg "_law_is_stand" q0o ["_law_cave_here","_law_stand"])(wq:Cal P w K mg base 1 "_law_amount" ["_law_cave_here","_law_stand","_law_kind"] q3M):Cal P w K mg base 2 "_law_is_stand" ["_law_cave_here","_law_stand"] spLis:=by
 refine L.cal (k:=1) q0B (fun vs H Q E h=>?_) (fun f cdv A outer s H vs Q E hr h=>?_)
 ·obtain ⟨c,q,C,st,rfl,_⟩:=h
  rfl
 ·obtain ⟨c,q,C,st,rfl,hC,cv,hq,l45,k⟩:=h
  have big:=qF
  have hu:=zbv (qcz hr)
  have ok:=cv.ok
  have okw:=ok.wl
  have okt:=ok.tl
  obtain⟨pw,pt,pl,pv',h0,h1,h2,_⟩:=hC.ex
  obtain⟨wv,hw,hwl,hwg⟩:=h1.get
  obtain⟨tv,ht,htl,htg⟩:=h2.get
  have htl2:(tv.length:Int)<=8:=by omega
  have hwl2:(wv.length:Int)<=20:=by omega
  refine⟨_,(qg (qO (PW.pt (q2O (qw q5R (qD (lenK K) rfl T.ww q0i (qa (pv 1) qd)) qc (qu _)) (q2O (qw q8F (qD (minTK K rfl) rfl T.waN q9B (qa (pv 1) qd)) qc (qu _)) (q2j (qw q7w (qm (qj K) (pv 1) qc (fun _ _=>rfl)) (qm (qj K) (pv 0) qc (fun _ _=>rfl)) (qu _)))))) (qi (qp q1D)) qy)
   (qg (qO (PW.pt (q2O (qw q7w (qm (qj K) (pv 1) qc (fun _ _=>rfl)) (qk q2H qc (qD (lenK K) rfl T.ww q0i (qa (qm (qj K) (pv 0) qc (fun _ _=>rfl)) qd))) (qu _)) (q2O (qw q4j (qm (qj K) (pv 1) qc (fun _ _=>rfl)) qc (qu _)) (q2j (qw q4j (qm (qj K) (pv 1) qc (fun _ _=>rfl)) qc (qu _)))))) (qi (qp q1D)) qy)
   (qg (qC (i:=2) q0B.nd rfl (Or.inl rfl) qc)
   (qg (q0K PassesOwn.never rfl (q0a rfl T.wB (qa (qD (lenK K) rfl T.ww q0i (qa (qm (qj K) (pv 0) qc (fun _ _=>rfl)) qd)) qd)) (qr (i:=3) q0B.nd rfl (Or.inl rfl)) (qi (qO (qw qS (qm (qj K) (qm (qj K) (qm (qj K) (qm (qj K) (pv 0) qc (fun _ _=>rfl)) (pv 3) (fun _ _=>rfl)) qc (fun _ _=>rfl)) qc (fun _ _=>rfl)) qM (qu _)) (qi (qC (i:=2) q0B.nd rfl (Or.inl rfl) (qk q03 (pv 2) (qk q2H qc (pv 3))))) qy)))
   (qg (qO (qw q5R (qk q3T (qm (qj K) (pv 1) qc (fun _ _=>rfl)) (pv 2)) (qm (qj K) (pv 1) qc (fun _ _=>rfl)) (qu _)) (qi (qp q1D)) qy)
   (qi (qp (qR (qc5 K hu) (q1o (q0L (N:=["_law_kind","_law_cave_here","_law_stand"]) (own:=1) (caps:=[0,1]) ["_law_cave_here","_law_stand","_law_doors","_law_k"] (qh q0o) (by walk_at "k")) rfl (q0a rfl T.wB (qa qc qd)) (fun _ _ _ _=>(qr (i:=0) (show List.Nodup (["_law_kind","_law_cave_here","_law_stand"]:List Str) by walk_at "k") rfl (Or.inl rfl))) (fun _ _ _ _=>(q5Q (qw q8F (qB wq hr (by decide) rfl (qa (pv 1) (qa (pv 2) (qa (pv 0) qd)))) qc (qu _)))) (fun _ _ _ _=>(pv 0))) (q0p qd) (qu _))))))))),?_⟩
  walk_at "r"
  rw[yC]
  rcases l45 with l4|l5
  ·rw [l4,zt (show(!decide (((4:Nat):Int)=5))=true from rfl)]
   walk_at "r"
   have:=k H (Same.refl _)
   rw[q4E (by omega)] at this
   exact this
  rw[l5,zo (show¬(!decide (((5:Nat):Int)=5))=true by decide)]
  obtain⟨rm,tk,op,b,wt,rfl⟩:∃rm tk op b wt,st=[rm,tk,op,b,wt]:=by
   match st,l5 with
   |[rm,tk,op,b,wt],_=>exact⟨rm,tk,op,b,wt,rfl⟩
  rw[q3L] at k
  have fls:∀Hn,Same H Hn->(((((decide (0<=rm/\rm<C.rooms)&&decide (0<=tk/\tk<2 ^ C.things.length))&&(decide (0<=op/\op<2 ^ C.ways.length)&&drs (dsOf C) C.ways.length op))&&decide (0<=b/\b<256))&&decide (0<=wt/\wt<10))&&q2s C tk op)=false->Q (.bl false) Hn:=fun Hn sn e=>by have:=k Hn sn;rw[e] at this;exact this
  walk_at "r"
  refine⟨q,[rm,tk,op,b,wt],rfl,SqT.of hq,by simp,fun M m1 m2=>?_⟩
  have hq:H q=some (.tup [.int rm,.int tk,.int op,.int b,.int wt]):=hq
  simp only[List.mem_cons,List.not_mem_nil,or_false] at m1
  have p1:=m2 rm (by simp)
  have p2:=m2 tk (by simp)
  have p3:=m2 op (by simp)
  have p4:=m2 b (by simp)
  have p5:=m2 wt (by simp)
  walk_at "r"
  refine ifd (fun g1=>?_) (fun g1=>?_)
  ·walk_at "r"
   refine fls _ (Same.refl _) (za0.mpr fun z=>?_)
   simp only[Bool.and_eq_true,decide_eq_true_eq] at z
   obtain⟨⟨⟨⟨⟨z1,z2⟩,z3,z4⟩,z5⟩,z6⟩,z7⟩:=z
   have y2:=z2.1
   have y3:=z3.1
   clear z2 z3
   omega
  walk_at "r"
  refine ifd (fun g2=>?_) (fun g2=>?_)
  ·walk_at "r"
   refine fls _ (Same.refl _) (za0.mpr fun z=>?_)
   simp only[Bool.and_eq_true,decide_eq_true_eq] at z
   obtain⟨⟨⟨⟨⟨z1,z2⟩,z3,z4⟩,z5⟩,z6⟩,z7⟩:=z
   clear z2 z3
   omega
  walk_at "r"
  rw[zaK,zp,htl]
  refine ifd (fun g3=>?_) (fun g3=>?_)
  ·walk_at "r"
   refine fls _ (Same.refl _) (za0.mpr fun z=>?_)
   simp only[Bool.and_eq_true,decide_eq_true_eq] at z
   obtain⟨⟨⟨⟨⟨z1,z2⟩,z3,z4⟩,z5⟩,z6⟩,z7⟩:=z
   exact absurd z2.2 (Int.not_lt.mpr g3)
  walk_at "r"
  refine ifd (fun g4=>?_) (fun g4=>?_)
  ·walk_at "r"
   refine fls _ (Same.refl _) (za0.mpr fun z=>?_)
   simp only[Bool.and_eq_true,decide_eq_true_eq] at z
   obtain⟨⟨⟨⟨⟨z1,z2⟩,z3,z4⟩,z5⟩,z6⟩,z7⟩:=z
   clear z2 z3
   omega
  walk_at "r"
  refine ifd (fun g5=>?_) (fun g5=>?_)
  ·walk_at "r"
   refine fls _ (Same.refl _) (za0.mpr fun z=>?_)
   simp only[Bool.and_eq_true,decide_eq_true_eq] at z
   obtain⟨⟨⟨⟨⟨z1,z2⟩,z3,z4⟩,z5⟩,z6⟩,z7⟩:=z
   clear z2 z3
   omega
  have c1:decide (0<=rm/\rm<C.rooms)=true:=zr ⟨by omega,by omega⟩
  have c2:decide (0<=tk/\tk<2 ^ C.things.length)=true:=zr ⟨by omega,Int.not_le.mp g3⟩
  have c4:decide (0<=b/\b<256)=true:=zr ⟨by omega,by omega⟩
  have c5:decide (0<=wt/\wt<10)=true:=zr ⟨by omega,by omega⟩
  rw[c1,c2,c4,c5] at fls k
  have ad:=q9H (ds:=dsOf C) (op:=op) (m:=C.ways.length) (by omega)
  rw[<-ad] at fls k
  walk_at "r"
  refine q3a (fun i σ H'=>∃v3,σ=[some (.ref c),some (.ref q),some (.int (dbs (dsOf C) i)),v3]/\H'=H) ⟨none,rfl,rfl⟩ ?_ ?_
  ·rintro i σ H' hi ⟨v3,rfl,rfl⟩
   have hi2:i<C.ways.length:=by rw[<-hwl];simpa using hi
   obtain⟨p2,hx,g2,hp2,hg2⟩:=hwg i hi2
   have hwd:=gt_at C.ways[i].g
   have hdr:=gt_dr C.ways[i].g
   have eds:dsOf C i=C.ways[i].g.dk:=by simp[dsOf,hi2]
   have hi20:((i:Nat):Int)<=20:=by omega
   intro D2 hn2 hc2 hb2 hr2
   walk_at "r"
   rw[hdr,<-eds]
   refine ite2 (fun hs=>?_) (fun hs=>?_)
   ·walk_at "r"
    refine hn2 _ _ ⟨some (.int (0+(i:Nat))),?_,rfl⟩
    rw[show dbs (dsOf C) (i+1)=dbs (dsOf C) i+(if (dsOf C i).isSome=true then 2 ^ i else 0) from rfl,zt hs,zau,zaK,zp]
    rfl
   ·walk_at "r"
    refine hn2 _ _ ⟨some (.int (0+(i:Nat))),?_,rfl⟩
    rw[show dbs (dsOf C) (i+1)=dbs (dsOf C) i+(if (dsOf C i).isSome=true then 2 ^ i else 0) from rfl,zo hs,zbq]
    rfl
  ·rintro σ H' ⟨v3,rfl,rfl⟩
   rw[zp,hwl]
   walk_at "r"
   by_cases g6:Builtin.bitAnd op (dbs (dsOf C) C.ways.length)=op
   rotate_left
   ·rw [zq g6] at fls ⊢
    walk_at "r"
    exact fls _ (Same.refl _) (by simp)
   ·rw [zr g6] at k ⊢
    walk_at "r"
    intro D hD
    refine q2B (fun i σ H2=>∃(v0:Option V) (ms:List Int),σ=[v0,some (.ref c),some (.ref q)]/\Same H' H2/\H2 D=some (.lst (ms.map V.int))/\ms.length<=i/\(ms=[]↔∀k:Nat,k<i->0<=hold C tk op k)) ⟨none,[],rfl,Same.upd hD,qe,zn _,by simp⟩ ?_ ?_
    ·rintro i σ H2 hi ⟨v0,ms,rfl,s2,hm,ml,me⟩
     walk_at "r"
     refine⟨c,q,C,⟨rm,tk,op,b,wt⟩,_,rfl,hC.mono s2.ts,ok,s2 _ _ hq,fun H3 s3=>?_⟩
     walk_at "r"
     rw[zau]
     refine ifd (fun g7=>?_) (fun g7=>?_)
     ·walk_at "r"
      refine⟨_,s3 _ _ hm,by rw[yC];omega,_,ms++[(i:Int)],rfl,(s2.trans s3).put hD,by rw[qe];simp,by simp;omega,?_⟩
      constructor
      ·intro z;simp at z
      ·intro z;exact absurd (z i (by omega)) (Int.not_le.mpr g7)
     ·refine ⟨_,ms,rfl,s2.trans s3,s3 _ _ hm,by omega,?_⟩
      rw[me]
      constructor
      ·intro z k hk
       by_cases e:k=i
       ·subst e;exact Int.not_lt.mp g7
       ·exact z k (by omega)
      ·intro z k hk
       exact z k (by omega)
    ·rintro σ H2 ⟨v0,ms,rfl,s2,hm,ml,me⟩
     walk_at "r"
     intro e1 he1
     have s3:=Same.upd (o:= .lst []) he1
     have e3:=qe (H:=H2) (a:=e1) (o:= .lst [])
     generalize upd H2 e1 (.lst [])=H3 at s3 e3 ⊢
     refine⟨D,e1,_,_,rfl,rfl,SqL.of (s3 _ _ hm),SqL.of e3,by simp[q3q],rfl,?_⟩
     walk_at "r"
     have:=k H3 (s2.trans s3)
     have ea:eqVs (ms.map V.int) []=q2s C tk op:=by
      have e5:eqVs (ms.map V.int) []=decide (ms=[]):=by cases ms<;>rfl
      rw[e5,zP]
      unfold q2s
      rw[zbw,me]
      simp
     rw[ea]
     simpa using this
end
theorem qbs (d:Wd):q53 (.str d.str):=by
 cases d
 ·show (reprText "go").length<=2000;walk_at "k"
 ·show (reprText "pull").length<=2000;walk_at "k"
 ·show (reprText "take").length<=2000;walk_at "k"
 ·show (reprText "turn").length<=2000;walk_at "k"
 ·show (reprText "unlock").length<=2000;walk_at "k"
def two (q t:Addr):List (Str×V):=[("stand",.ref q),("deed",.ref t)]
def spND (C:Addr):Sp:=fun vs H Q _=>∃(e q t:Addr) (s:Sd) (d:Wd) (n:Int),vs=[.ref e,.ref q,.ref t]/\H e=some (ExcO e C none)/\H q=some (.tup s.vs)/\H t=some (.tup [.str d.str,.int n])/\(∀x∈s.vs,q53 x)/\Sml n/\
 ∀(dx:Addr),H dx=none->dx≠e->Q .non (upd (upd (upd (upd H dx (XdO dx [])) e (ExcO e C (some dx))) dx (XdO dx [("stand",.ref q)])) dx (XdO dx (two q t)))
def q5n (X:Addr):Sp:=fun vs H Q E=>∃(c q t:Addr) (C:Cl) (s:Sd) (d:Wd) (n:Int),vs=[.ref c,.ref q,.ref t]/\ClAt H c C/\ClOk C/\H q=some (.tup s.vs)/\s.ok C/\H t=some (.tup [.str d.str,.int n])/\(∀x∈s.vs,q53 x)/\Sml n/\
 (canD C s d n=true->∀(r:Addr) (H':Hp),Same H H'->H' r=some (.tup (q1p C s d n).vs)->Q (.ref r) H')/\
 (canD C s d n=false->∀(dx:Addr) (H':Hp),Same H H'->H' dx=some (XdO dx (two q t))->E (.ref X) (some dx) H')
section
variable {P:Program}{w:World}{K:W.Frag}{mg:Str->Option Value}{base:Heap}{xs:Xs}{cs:Cs}
theorem q8N (T:Txt mg cs)(TX:Tx K mg xs)(L:LaidX K mg "NoDeed" xs.NoDeed "NoDeed.__init__" q1e ["self","stand","deed"]):MakesX P w K mg base 1 "NoDeed" xs.NoDeed ["self","stand","deed"] (spND xs.NoDeed):=by
 refine L.makes (k:=0) q4f (fun vs H Q E h=>?_) (fun f cdv A outer s H vs Q E hr h=>?_)
 ·obtain ⟨e,q,t,st,d,n,rfl,_⟩:=h
  rfl
 ·obtain ⟨e,q,t,st,d,n,rfl,he,hq,ht,hs,hn,k⟩:=h
  have big:=qF
  refine⟨_,(qg (q08 (pe_bi K TX.war rfl TX.waB (qa (pv 0) (qa (qc1 (.cons qM (.cons (pe_ft hr.gd (qbf hr) (pv 2)) (.cons qM (.cons (pe_ft hr.gd (qbf hr) (pv 1)) .nil))))) qd))))
   (qg (q8t K (pv 0) (pv 1) rfl)
   (qi (q8t K (pv 0) (pv 2) rfl)))),?_⟩
  walk_at "r"
  refine r_bi0 ?_
  walk_at "r"
  refine jc (by walk_at "k") (by omega) fun m1 h1=>?_
  refine jft ht (by simp) (fun y hy=>?_) (by omega) (fun K h=>⟨_,rfl,h⟩) fun m2 h2=>?_
  ·simp only[List.mem_cons,List.not_mem_nil,or_false] at hy
   rcases hy with rfl|rfl
   ·exact qbs d
   ·exact hn
  refine jc (by walk_at "k") (by omega) fun m3 h3=>?_
  refine jft hq (by simp[Sd.vs]) hs (by omega) (fun K h=>⟨_,rfl,h⟩) fun m4 h4=>?_
  refine jn fun y hy=>?_
  walk_at "r"
  refine r_bi he TX.wao (by simp;omega) ?_
  walk_at "r"
  refine q8l ?_
  walk_at "r"
  refine⟨e,xs.NoDeed,rfl,TX.waq,TX.wan,TX.vW,.inl ⟨he,fun dx hd hne=>?_⟩⟩
  walk_at "r"
  refine q8l ?_
  walk_at "r"
  refine⟨e,xs.NoDeed,rfl,TX.waq,TX.wan,TX.wae,.inr ⟨dx,[("stand",.ref q)],by rw[qq (Ne.symm hne),qe],by rw[qe],by simp,?_⟩⟩
  exact k dx hd hne
theorem q7B (T:Txt mg cs)(TX:Tx K mg xs)(L:Laid K mg "behind" q3G ["cellar","stand","deed"])(wc:MakesX P w K mg base 1 "NoDeed" xs.NoDeed ["self","stand","deed"] (spND xs.NoDeed))(vL:Cal P w K mg base 4 "deed_of" ["deed"] (qbA cs))(vc:∀d,VMeth P w K mg base 6 (dcls cs d) "can" ["self","cellar","stand"] (q9R cs d))(vd:∀d,VMeth P w K mg base 2 (dcls cs d) "done" ["self","cellar","stand"] (q3s cs d)):CalX P w K mg base 7 "behind" ["cellar","stand","deed"] (q5n xs.NoDeed):=by
 refine L.calX (k:=6) q5t (fun vs H Q E h=>?_) (fun f cdv A outer s H vs Q E hr h=>?_)
 ·obtain ⟨c,q,t,C,st,d,n,rfl,_⟩:=h
  rfl
 ·obtain ⟨c,q,t,C,st,d,n,rfl,hC,ok,hq,sok,ht,hsh,hn,k,ke⟩:=h
  have big:=qF
  refine⟨_,(qg (qC (i:=3) q5t.nd rfl (Or.inl rfl) (qB vL hr (by decide) rfl (qa (pv 2) qd)))
   (qg (qO (q2k (q0J (q3n (k:=6) (hr.mono (by decide)) (pv 3) (qa (pv 0) (qa (pv 1) qd))))) (qi (q8r wc q7t rfl rfl hr (by decide) rfl (qa (pv 1) (qa (pv 2) qd)))) qy)
   (qi (qp (q3n (k:=2) (hr.mono (by decide)) (pv 3) (qa (pv 0) (qa (pv 1) qd))))))),?_⟩
  walk_at "r"
  refine⟨t,d,n,rfl,ht,fun x H1 s1 hx0 hob=>?_⟩
  obtain⟨dx,hp⟩:=hob.ex
  walk_at "r"
  refine r_vm hp (vc _) (qbk _ _) ?_
  walk_at "r"
  refine⟨x,c,q,C,st,n,rfl,hob,hC.mono s1.ts,ok,s1 _ _ hq,sok,fun H2 s2=>?_⟩
  have s12:=s1.trans s2
  cases hc:canD C st d n with
  |true=>
   walk_at "r"
   refine r_vm (s2 _ _ hp) (vd _) (q9g _ _) ?_
   walk_at "r"
   exact⟨x,c,q,C,st,n,rfl,hob.mono s2,hC.mono s12.ts,ok,s12 _ _ hq,sok,hc,fun r H3 s3 hr3=>k hc r H3 (s12.trans s3) hr3⟩
  |false=>
   walk_at "r"
   refine q9W ?_
   walk_at "r"
   intro e he
   refine⟨e,q,t,st,d,n,rfl,qe,by rw[qq (qv (s12 _ _ hq) he)];exact s12 _ _ hq,by rw[qq (qv (s12 _ _ ht) he)];exact s12 _ _ ht,hsh,hn,fun d2 hd2 hne=>⟨rfl,some d2,?_,?_⟩⟩
   ·rw [qq (Ne.symm hne),qq (Ne.symm hne),qe]
   ·have hd0:H2 d2=none:=by rw[qq hne] at hd2;exact hd2
    refine ke hc d2 _ (s12.trans fun b o qb=>?_) ?_
    ·have n1:=qv qb he
     have n2:=qv qb hd0
     rw[q3c n1,qq n2,qq n2,qq n1,qq n2,qq n1]
     exact qb
    ·rw [q3c hne,qe]
end
theorem sml_b {n:Int}(h0:0<=n)(h1:n<2 ^ 400):Sml n:=Sml.of (by
 have:n.natAbs<2 ^ 400:=by omega
 exact zK this (Nat.pow_le_pow_right (by decide) (by decide)))
theorem pow_b {n m:Nat}(h:n<=m):(2:Int) ^ n<=2 ^ m:=by
 have:=Nat.pow_le_pow_right (n:=2) (by decide) h
 exact_mod_cast this
theorem qbE {C:Cl}{s:Sd}(ok:ClOk C)(h:s.ok C):∀x∈s.vs,q53 x:=by
 have h1:=h.hrm
 have h2:=h.htk
 have h3:=h.hop
 have h4:=h.hb
 have h5:=h.hwt
 have r:=ok.r2
 have w:=ok.wl
 have t:=ok.tl
 have p1:=pow_b (n:=C.things.length) (m:=8) t
 have p2:=pow_b (n:=C.ways.length) (m:=20) w
 have b:∀n:Int,0<=n->n<2 ^ 30->q53 (.int n):=fun n a c=>sml_b a (Int.lt_trans c (by walk_at "k"))
 intro x hx
 simp only[Sd.vs,List.mem_cons,List.not_mem_nil,or_false] at hx
 rcases hx with rfl|rfl|rfl|rfl|rfl
 ·exact b _ h1.1 (by omega)
 ·exact b _ h2.1 (by omega)
 ·exact b _ h3.1 (by omega)
 ·exact b _ h4.1 (by omega)
 ·exact b _ h5.1 (by omega)
theorem q8m {K:W.Frag}{n:Nat}{H:Hp}{Q:VK}{a b:Addr}{ps:List Addr}(ha:H a=some (.lst (ps.map V.ref)))(hb:H b=some (.lst []))(k:Q (.bl (!decide (ps=[]))) H):rNeD K n (.ref a) (.ref b) H Q:=by
 by_cases e:ps=[]
 ·subst e
  exact .inl ⟨a,b,[],[],fun _=>true,rfl,rfl,SqL.of ha,SqL.of hb,rfl,fun j h _=>absurd h (zcr _),k⟩
 ·rw [zq e] at k
  exact .inr ⟨a,b,_,_,rfl,rfl,SqL.of ha,SqL.of hb,by intro z;rw[yC] at z;exact e (List.length_eq_zero_iff.mp z),k⟩
theorem qbM {K:W.Frag}{n:Nat}{H:Hp}{Q:VK}{a b:Addr}{ps:List Addr}(ha:H a=some (.lst (ps.map V.ref)))(hb:H b=some (.lst []))(k:Q (.bl (decide (ps=[]))) H):rEqD K n (.ref a) (.ref b) H Q:=by
 by_cases e:ps=[]
 ·subst e
  exact .inr (.inl ⟨a,b,[],[],fun _=>true,rfl,rfl,SqL.of ha,SqL.of hb,rfl,fun j h _=>absurd h (zcr _),k⟩)
 ·rw [zq e] at k
  exact .inr (.inr ⟨a,b,_,_,rfl,rfl,SqL.of ha,SqL.of hb,by intro z;rw[yC] at z;exact e (List.length_eq_zero_iff.mp z),k⟩)
theorem qcO (ys:List V)(i:Nat):cutV ys none (some (i:Int))=ys.take i:=by
 unfold cutV
 rw[HT.q3m,HT.q6T]
 rcases Nat.le_total i ys.length with h|h
 ·rw [zbQ h];simp
 ·rw [Nat.min_eq_right h,zbz h];simp
theorem qcP (ys:List V)(i:Nat):cutV ys (some (i:Int)) none=ys.drop i:=by
 unfold cutV
 rw[HT.q3m,HT.q6T]
 rcases Nat.le_total i ys.length with h|h
 ·rw [zbQ h];exact zbz (by rw[zaz];exact zn _)
 ·rw [Nat.min_eq_right h,List.drop_of_length_le (zn _),List.drop_of_length_le h];simp
theorem qbo {α:Type}{xs:List α}{i:Int}(h0:0<=i)(h1:i<(xs.length:Int)):∃(j:Nat) (h:j<xs.length),i=(j:Int)/\atI xs i=some xs[j]:=by
 obtain⟨j,rfl⟩:=zas h0
 have h:j<xs.length:=Int.ofNat_lt.mp h1
 exact⟨j,h,rfl,q0r (yB h)⟩
theorem q2i {K:W.Frag}{H:Hp}{Q:VK}{q:Addr}{st:List Int}{lo hi:Option Int}(st':List Int)(h:H q=some (.tup (st.map V.int)))(e:cutV (st.map V.int) lo hi=st'.map V.int)(k:∀p H',Same H H'->H' p=some (.tup (st'.map V.int))->Q (.ref p) H'):qbR K (.ref q) lo hi H Q:=
 ⟨q,_,rfl,SqT.of h,fun e'=>k q H (Same.refl _) (by rw[<-e,e'];exact h),fun p hp=>k p _ (Same.upd hp) (by rw[e];exact qe)⟩
theorem q1m {K:W.Frag}{H:Hp}{Q:VK}{a b:Addr}{xs ys:List Int}(ha:H a=some (.tup (xs.map V.int)))(hb:H b=some (.tup (ys.map V.int)))(hx:xs≠[])(hy:ys≠[])(hl:xs.length+ys.length<=10)(k:∀p H',Same H H'->H' p=some (.tup ((xs++ys).map V.int))->Q (.ref p) H'):q5N K (.ref a) (.ref b) H Q:=
 ⟨a,b,_,_,rfl,rfl,SqT.of ha,SqT.of hb,by have:=qF;rw[yC,yC];omega,fun e=>absurd (List.map_eq_nil_iff.mp e) hx,fun _ e=>absurd (List.map_eq_nil_iff.mp e) hy,fun _ _ p hp=>k p _ (Same.upd hp) (by rw[zM];exact qe)⟩
section
variable {K:W.Frag}{H:Hp}{Q:VK}{R a b:Addr}{us vs:List Addr}
theorem q3v (u:H R=some (.lst (us.map V.ref)))(j:Nat)(k:∀a H',Same H H'->H' a=some (.lst ((us.take j).map V.ref))->Q (.ref a) H'):rSlL K (.ref R) none (some (j:Int)) H Q:=
 ⟨R,_,rfl,SqL.of u,fun a ha=>k a _ (Same.upd ha) (by rw[qcO,<-List.map_take];exact qe)⟩
theorem q3Q (u:H R=some (.lst (us.map V.ref)))(i:Int)(j:Nat)(e:i=(j:Int))(k:∀a H',Same H H'->H' a=some (.lst ((us.drop j).map V.ref))->Q (.ref a) H'):rSlL K (.ref R) (some i) none H Q:=by
 subst e
 exact⟨R,_,rfl,SqL.of u,fun a ha=>k a _ (Same.upd ha) (by rw[qcP,<-List.map_drop];exact qe)⟩
theorem q0t (ha:H a=some (.lst (us.map V.ref)))(hb:H b=some (.lst (vs.map V.ref)))(hl:us.length+vs.length<=1000)(k:∀r H',Same H H'->H' r=some (.lst ((us++vs).map V.ref))->Q (.ref r) H'):rCat (.ref a) (.ref b) H Q:=
 ⟨a,b,_,_,rfl,rfl,ha,hb,by have:=qF;rw[yC,yC];omega,fun r hr=>k r _ (Same.upd hr) (by rw[zM];exact qe)⟩
end
def ik (st:List Int):List Key:=st.map Sum.inl
theorem qcx (st:List Int):(ik st).map kV=st.map V.int:=by unfold ik;rw[List.map_map];rfl
theorem ik_inj {a b:List Int}(h:ik a=ik b):a=b:=(List.map_inj_right (fun _ _ e=>Sum.inl.inj e)).mp h
theorem qcG {d e:Wd×Nat}:eqVs [.str d.1.str,.int ((d.2:Nat):Int)] [.str e.1.str,.int ((e.2:Nat):Int)]=decide (some e=some d):=by
 obtain⟨a,i⟩:=d
 obtain⟨b,j⟩:=e
 have hs:(a.str=b.str)↔a=b:=by cases a<;>cases b<;>first|decide|simp
 rw[zP]
 simp[eqVs,eqV]
 rw[hs]
 constructor
 ·rintro ⟨rfl,e⟩;exact⟨rfl,by omega⟩
 ·rintro ⟨rfl,rfl⟩;exact⟨rfl,rfl⟩
def sdL:List Int->Sd
 |[a,b,c,d,e]=>⟨a,b,c,d,e⟩
 |_=>⟨0,0,0,0,0⟩
theorem q6z {st:List Int}(h:st.length=5):st=(sdL st).ns:=by
 match st,h with
 |[a,b,c,d,e],_=>rfl
theorem q3h {C:Cl}{st:List Int}(h:stOk C st=true):st.length=5:=by
 by_cases e:st.length=5
 ·exact e
 ·rw [q4E e] at h;cases h
theorem q4r {C:Cl}{s:Sd}(h:stOk C s.ns=true):s.ok C:=by
 have h:stOk C [s.rm,s.tk,s.op,s.b,s.wt]=true:=h
 rw[q3L] at h
 simp only[Bool.and_eq_true,decide_eq_true_eq] at h
 obtain⟨⟨⟨⟨⟨z1,z2⟩,z3,z4⟩,z5⟩,z6⟩,z7⟩:=h
 refine⟨z1,z2,z3,fun i hi hb=>?_,⟨z5.1,by omega⟩,⟨z6.1,by omega⟩,fun k k0 k1=>?_⟩
 ·unfold drs at z4
  have:=zaB.mp z4 i (za2.mpr hi)
  simpa[hb] using this
 ·unfold q2s at z7
  have:=zaB.mp z7 k.toNat (za2.mpr (by omega))
  rw[zbw,Int.toNat_of_nonneg k0] at this
  exact this
section
variable {κ:Type}[DecidableEq κ]
theorem q6L (k k':κ)(v:V):∀l:List (κ×V),valV (l.map fun kv=>if kv.1=k then(kv.1,v) else kv) k'=if k=k' then(valV l k).map fun _=>v else valV l k'
 |[]=>by simp[valV]
 |p::l=>by
  have ih:=q6L k k' v l
  by_cases e:p.1=k
  ·by_cases e2:k=k'
   ·subst e2
    rw[zZ,zt e,q0A (by exact e),zt rfl,q0A e]
    rfl
   ·rw [zZ,zt e,q0k (by intro z;exact e2 (e.symm.trans z)),ih,zo e2,zo e2,q0k (by intro z;exact e2 (e.symm.trans z))]
  ·rw [zZ,zo e]
   by_cases e3:p.1=k'
   ·rw [q0A e3,q0A e3,zo (by intro z;exact e (e3.trans z.symm))]
   ·rw [q0k e3,ih,q0k e3,q0k e]
theorem q3J (k k':κ)(v:V):∀l:List (κ×V),valV l k=none->valV (l++[(k,v)]) k'=if k=k' then some v else valV l k'
 |[],_=>by
  by_cases e:k=k'
  ·rw [zt e,zcp,q0A (by exact e)]
  ·rw [zo e,zcp,q0k (by exact e)]
 |p::l,h=>by
  by_cases e:p.1=k
  ·rw [q0A e] at h;cases h
  ·rw [q0k e] at h
   have ih:=q3J k k' v l h
   rw[List.cons_append]
   by_cases e3:p.1=k'
   ·rw [q0A e3,q0A e3,zo (by intro z;exact e (e3.trans z.symm))]
   ·rw [q0k e3,ih,q0k e3]
theorem q9L (kvs:List (κ×V))(k k':κ)(v:V):valV (putK kvs k v) k'=if k=k' then some v else valV kvs k':=by
 unfold putK
 rw[q3D]
 cases h:valV kvs k with
 |none=>rw[zo (by simp)];exact q3J k k' v kvs h
 |some u=>
  rw[zt (show(some u).isSome=true from rfl),q6L,h]
  rfl
end
def st0 (C:Cl):Sd:=⟨C.fst,0,0,C.bars,C.water⟩
def runD (C:Cl):Sd->List (Wd×Nat)->Option Sd
 |s,[]=>some s
 |s,d::ds=>if canD C s d.1 (d.2:Int)=true then runD C (q1p C s d.1 (d.2:Int)) ds else none
theorem q4O (C:Cl)(es:List (Wd×Nat)):∀(ds:List (Wd×Nat)) (s:Sd),runD C s (ds++es)=(runD C s ds).bind fun x=>runD C x es
 |[],s=>rfl
 |d::ds,s=>by
  show(if canD C s d.1 (d.2:Int)=true then runD C (q1p C s d.1 (d.2:Int)) (ds++es) else none)=(if canD C s d.1 (d.2:Int)=true then runD C (q1p C s d.1 (d.2:Int)) ds else none).bind fun x=>runD C x es
  split
  ·exact q4O C es ds _
  ·rfl
theorem q5L (C:Cl)(s x:Sd)(ds:List (Wd×Nat))(d:Wd×Nat)(h:runD C s ds=some x):runD C s (ds++[d])=if canD C x d.1 (d.2:Int)=true then some (q1p C x d.1 (d.2:Int)) else none:=by
 rw[q4O,h]
 rfl
theorem q6W (C:Cl)(s:Sd)(ds:List (Wd×Nat))(i:Nat)(h:runD C s (ds.take i)=none):runD C s ds=none:=by
 rw[<-List.take_append_drop i ds,q4O,h]
 rfl
def spEnd:Sp:=fun vs H Q _=>∃(c R:Addr) (C:Cl) (ds:List (Wd×Nat)),vs=[.ref c,.ref R]/\ClAt H c C/\ClOk C/\q01 TAt H R ds/\(∀d∈ds,d.2<=1000)/\(runD C (st0 C) ds=none->∀H',Same H H'->Q .non H')/\∀(x:Sd) (q:Addr) (H':Hp),runD C (st0 C) ds=some x->Same H H'->SAt H' q x->Q (.ref q) H'
section
variable {P:Program}{w:World}{K:W.Frag}{mg:Str->Option Value}{base:Heap}{xs:Xs}{cs:Cs}
theorem ok_end (T:Txt mg cs)(TX:Tx K mg xs)(L:Laid K mg "end_of" q3F ["cellar","way"])(wab:Cal P w K mg base 1 "start" ["cellar"] q6c)(vV:CalX P w K mg base 7 "behind" ["cellar","stand","deed"] (q5n xs.NoDeed)):Cal P w K mg base 8 "end_of" ["cellar","way"] spEnd:=by
 refine L.cal (k:=7) q2X (fun vs H Q E h=>?_) (fun f cdv A outer s H vs Q E hr h=>?_)
 ·obtain ⟨c,R,C,ds,rfl,_⟩:=h
  rfl
 ·obtain ⟨c,R,C,ds,rfl,hC,ok,⟨us,hus,rus⟩,sm,kn,ks⟩:=h
  have big:=qF
  refine⟨_,(qg (qC (i:=2) q2X.nd rfl (Or.inl rfl) (qB wab hr (by decide) rfl (qa (pv 0) qd)))
   (qg (q8q rfl rfl rfl rfl (q0b K (pv 1)) (qr (i:=3) q2X.nd rfl (Or.inl rfl)) (qa1 (qbS (i:=2) q2X.nd rfl (Or.inl rfl) (qa9 vV rfl hr (by decide) rfl (qa (pv 0) (qa (pv 2) (qa (pv 3) qd))))))
   (ph_one K rfl rfl TX.wap (fun _=>(qi (qp qbb)))))
   (qi (qp (pv 2))))),?_⟩
  walk_at "r"
  refine⟨c,C,rfl,hC,fun q H1 s1 hq1=>?_⟩
  have u1:=s1 _ _ hus
  walk_at "r"
  refine q6x (us.map V.ref) (fun i σ H'=>∃(x:Sd) (q:Addr) (v3:Option V),σ=[some (.ref c),some (.ref R),some (.ref q),v3]/\Same H H'/\SAt H' q x/\runD C (st0 C) (ds.take i)=some x/\x.ok C) ⟨st0 C,q,none,rfl,s1,hq1,by rw[zcv];rfl,q4D ok⟩ ?_ ?_ ?_
  ·rintro i σ H' ⟨_,_,_,rfl,s2,_⟩
   exact SqL.of (s2 _ _ hus)
  ·rintro i z σ H2 hz ⟨x,q2,v3,rfl,s2,hq2,hx,xok⟩
   have hi:i<ds.length:=by have:=(yA hz).1;rw[yC,rus.1] at this;exact this
   obtain⟨p,ep,hp⟩:=rus.get hi
   rw[hz] at ep
   cases ep
   have et:ds.take (i+1)=ds.take i++[ds[i]]:=zw hi
   have hd:=sm _ (zL hi)
   have hsn:=q5L C (st0 C) x (ds.take i) ds[i] hx
   rw[<-et] at hsn
   generalize ds[i]=d at hp hd hsn
   have hp2:H2 p=_:=s2 _ _ hp
   walk_at "r"
   refine⟨c,q2,p,C,x,d.1,(d.2:Int),rfl,hC.mono s2.ts,ok,hq2,xok,hp2,qbE ok xok,sml_in (by omega) (by omega),fun hc r H3 s3 hr3=>?_,fun hc dx H3 s3 _=>?_⟩
   ·rw [zt hc] at hsn
    exact⟨_,r,_,rfl,s2.trans s3,hr3,hsn,q4U ok xok hc⟩
   ·rw [zo (by rw[hc];exact zu)] at hsn
    refine⟨TX.wbc,?_⟩
    walk_at "r"
    exact kn (q6W C _ _ _ hsn) _ (s2.trans s3)
  ·rintro σ H2 ⟨x,q2,v3,rfl,s2,hq2,hx,xok⟩
   rw[yC,rus.1,zQ] at hx
   walk_at "r"
   exact ks x q2 H2 hx s2 hq2
end
section
variable {κ:Type}[DecidableEq κ]
theorem q6K {k:κ}:∀{l:List (κ×V)},(valV l k).isSome=true->∃p∈l,p.1=k
 |[],h=>by simp[valV] at h
 |p::l,h=>by
  by_cases e:p.1=k
  ·exact ⟨p,zY,e⟩
  ·rw [q0k e] at h
   obtain⟨q,hq,e2⟩:=q6K h
   exact⟨q,zE _ hq,e2⟩
theorem qcq {l:List (κ×V)}{k:κ}{v:V}{p:κ×V}(h:p∈putK l k v):p.1=k\/∃q∈l,q.1=p.1:=by
 unfold putK at h
 split at h
 ·obtain ⟨q,hq,rfl⟩:=zaN.mp h
  by_cases e:q.1=k
  ·rw [zt e];exact .inl e
  ·rw [zo e];exact .inr ⟨q,hq,rfl⟩
 ·rcases zad.mp h with z|z
  ·exact .inr ⟨p,z,rfl⟩
  ·rw [zA.mp z];exact .inl rfl
end
structure KnOf (kvs:List (List Key×V))(sts:List (List Int)):Prop where
 at_:∀st,(valV kvs (ik st)).isSome=decide (st∈sts)
 key:∀p∈kvs,∃st∈sts,p.1=ik st
 len:kvs.length<=sts.length
theorem KnOf.nil:KnOf [] []:=⟨fun st=>by simp[valV],fun p hp=>absurd hp (by simp),zn _⟩
theorem KnOf.put {kvs:List (List Key×V)}{sts:List (List Int)}(h:KnOf kvs sts)(st:List Int)(v:V):KnOf (putK kvs (ik st) v) (sts++[st]):=by
 refine⟨fun st'=>?_,fun p hp=>?_,?_⟩
 ·rw [q9L]
  by_cases e:st=st'
  ·rw [zt (by rw[e])];simp[e]
  ·rw [zo (fun z=>e (ik_inj z)),h.at_]
   have:¬st'=st:=fun z=>e z.symm
   simp[this]
 ·rcases qcq hp with z|⟨q,hq,z⟩
  ·exact ⟨st,by simp,z⟩
  ·obtain ⟨s',hs,e⟩:=h.key q hq
   exact⟨s',zaL _ hs,by rw[<-z,e]⟩
 ·have:=q2Q kvs (ik st) v
  have:=h.len
  rw[zx]
  simp
  omega
theorem KnOf.all {kvs:List (List Key×V)}{sts:List (List Int)}(h:KnOf kvs sts)(f:List Int->Bool)(g:List Key×V->Bool)(hg:∀p st,p∈kvs->p.1=ik st->g p=f st):kvs.all g=sts.all f:=by
 rw[zP,zaB,zaB]
 constructor
 ·intro z st hst
  obtain⟨p,hp,e⟩:=q6K (k:=ik st) (l:=kvs) (by rw[h.at_];exact zr hst)
  rw[<-hg p st hp e]
  exact z p hp
 ·intro z p hp
  obtain⟨st,hst,e⟩:=h.key p hp
  rw[hg p st hp e]
  exact z st hst
def IAt (H:Hp)(p:Addr)(st:List Int):Prop:=H p=some (.tup (st.map V.int))
theorem IAt.mono {H H':Hp}(s:q0m H H'){p:Addr}{st:List Int}(h:IAt H p st):IAt H' p st:=s _ _ h
theorem qbj {H:Hp}{D b:Addr}{kvs:List (List Key×V)}{st:List Int}(h:Rd H D (.dT kvs))(hb:IAt H b st):DGet H D (.ref b) (valV kvs (ik st)):= .inr ⟨kvs,ik st,b,h,rfl,by rw[qcx];exact hb,rfl⟩
def GI (st:List Int):Prop:=st.length=4\/st.length=5
def q2V (C:Cl)(sts:List (List Int))(st:List Int):Bool:=stOk C st&&(!decide ((sdL st).rm=C.lst)&&(nx C (sdL st)).all fun y=>decide (y.ns∈sts))
def qb4:Sp:=fun vs H Q _=>∃(c D q:Addr) (C:Cl) (kvs:List (List Key×V)) (sts:List (List Int)) (st:List Int),vs=[.ref c,.ref D,.ref q]/\ClAt H c C/\CvOk C/\Rd H D (.dT kvs)/\KnOf kvs sts/\IAt H q st/\GI st/\∀H',Same H H'->Q (.bl (q2V C sts st)) H'
section
variable {P:Program}{w:World}{K:W.Frag}{mg:Str->Option Value}{base:Heap}{cs:Cs}
theorem qc6 (T:Txt mg cs)(L:Laid K mg "stays_among" q0G ["cellar","known","stand"])(vH:Cal P w K mg base 3 "is_stand" ["cellar","thing"] spIs)(wac:Cal P w K mg base 8 "leads" ["cellar","stand"] q3i):Cal P w K mg base 9 "stays_among" ["cellar","known","stand"] qb4:=by
 obtain⟨t1,we⟩:=T.we
 obtain⟨t2,vz⟩:=T.vz
 refine L.cal (k:=8) q4b (fun vs H Q E h=>?_) (fun f cdv A outer s H vs Q E hr h=>?_)
 ·obtain ⟨c,D,q,C,kvs,sts,st,rfl,_⟩:=h
  rfl
 ·obtain ⟨c,D,q,C,kvs,sts,x,rfl,hC,cv,hD,kn,hq,gx,k⟩:=h
  have big:=qF
  have ok:=cv.ok
  have l5:x.length<=10:=by rcases gx with z|z<;>omega
  obtain⟨pw,pt,pl,pv',h0,_⟩:=hC.ex
  refine⟨_,(qg (qO (PW.pt (q2O (q2k (q0J (qB vH hr (by decide) rfl (qa (pv 0) (qa (pv 2) qd))))) (q2j (qw qS (qm (qj K) (pv 2) (qx (v:= .int 0) rfl we ⟨_,rfl⟩) (fun _ _=>rfl)) (qm (qj K) (pv 0) (qx (v:= .int 2) rfl vz ⟨_,rfl⟩) (fun _ _=>rfl)) (qu _))))) (qi (qp q1D)) qy)
   (qi (qp (qD (q64 K rfl) rfl T.wbx qbn (qa (q1o (q0L (N:=["deed","other","known"]) (own:=2) (caps:=[1]) ["cellar","known","stand"] (qh q0G) (by walk_at "k")) rfl (q0b K (qB wac hr (by decide) rfl (qa (pv 0) (qa (pv 2) qd)))) (fun _ _ _ _=>(q0v (n:=2) K rfl (qA (qr (i:=0) (show List.Nodup (["deed","other","known"]:List Str) by walk_at "k") rfl (Or.inl rfl)) (qA (qr (i:=1) (show List.Nodup (["deed","other","known"]:List Str) by walk_at "k") rfl (Or.inl rfl)) q0u)))) (fun _ _ _ _=>q1H) (fun _ _ _ _=>(pe_cmp (pc_din (q4s hr) (pv 1) (pv 2))))) qd))))),?_⟩
  walk_at "r"
  refine⟨c,q,C,x,rfl,hC,ok,hq,l5,fun H1 s1=>?_⟩
  unfold q2V at k
  walk_at "r"
  by_cases g1:stOk C x=true
  rotate_left
  ·rw [zbD] at g1
   rw[g1] at k ⊢
   walk_at "r"
   simpa using k H1 s1
  ·rw [g1] at k ⊢
   have ex:=q6z (q3h g1)
   rw[ex] at g1
   have sok:=q4r g1
   generalize sdL x=st at ex sok k g1
   have h2:SAt H q st:=by unfold IAt at hq;rw[ex] at hq;exact hq
   have h2':H1 q=some (.tup [.int st.rm,.int st.tk,.int st.op,.int st.b,.int st.wt]):=s1 _ _ h2
   have c1:=s1 _ _ h0
   walk_at "r"
   by_cases g3:st.rm=C.lst
   ·rw [zr g3] at k ⊢
    walk_at "r"
    simpa using k H1 s1
   rw[zq g3] at k ⊢
   walk_at "r"
   refine⟨c,q,C,st,rfl,hC.mono s1.ts,ok,h2',sok,fun l H2 s2 hl0 m2=>?_⟩
   obtain⟨ps,hps,rps⟩:=m2
   have fx:=cv.few st
   have s12:=s1.trans s2
   walk_at "r"
   intro B hB
   refine q1f (ps.map V.ref) (fun j σ H'=>∃v0 v1,σ=[v0,v1,some (.ref D)]/\Same H2 H'/\H' B=some (.lst ((((nx C st).take j).map fun y=>decide (y.ns∈sts)).map V.bl))) ⟨none,none,rfl,Same.upd hB,qe⟩ ?_ ?_ ?_
   ·rintro j σ H' ⟨_,_,rfl,s3,_⟩
    exact SqL.of (s3 _ _ hps)
   ·rintro j z σ H3 hz ⟨v0,v1,rfl,s3,hb3⟩
    have hj:j<(fitD C st).length:=by have:=(yA hz).1;rw[yC,rps.1] at this;exact this
    obtain⟨p5,ep,hp5⟩:=rps.get hj
    rw[hz] at ep
    cases ep
    obtain⟨t,r,e5,ht5,hr5⟩:=PrAt.mono s3.ts hp5
    have hj':j<(nx C st).length:=by unfold nx;rw[yC];exact hj
    have ey:q1p C st (fitD C st)[j].1 ((fitD C st)[j].2:Int)=(nx C st)[j]:=by simp[nx]
    rw[ey] at hr5
    have hr5:IAt H3 r (nx C st)[j].ns:=hr5
    walk_at "r"
    refine⟨D,_,rfl,qbj (Rd.same (s12.trans s3) hD) hr5,?_⟩
    rw[kn.at_]
    refine⟨_,hb3,by rw[yC,yC,zD];omega,_,_,rfl,s3.put hB,?_⟩
    rw[qe,zw hj',zM,zM]
    simp
   ·rintro σ H3 ⟨v0,v1,rfl,s3,hb3⟩
    rw[yC,rps.1,show(fitD C st).length=(nx C st).length by simp[nx],zQ] at hb3
    walk_at "r"
    refine⟨B,_,rfl,SqL.of hb3,?_⟩
    rw[List.all_map]
    simpa using k H3 (s12.trans s3)
def shB (C:Cl)(ds:List (Wd×Nat))(sts:List (List Int)):Bool:=(match runD C (st0 C) ds with
 |none=>false
 |some x=>decide (x.ns∈sts))&&sts.all (q2V C sts)
def q6P:Sp:=fun vs H Q _=>∃(c R S:Addr) (C:Cl) (ds:List (Wd×Nat)) (sts:List (List Int)),vs=[.ref c,.ref R,.ref S]/\ClAt H c C/\CvOk C/\q01 TAt H R ds/\(∀d∈ds,d.2<=1000)/\q01 IAt H S sts/\sts.length<=300/\(∀x∈sts,GI x)/\∀H',Same H H'->Q (.bl (shB C ds sts)) H'
theorem qc7 (T:Txt mg cs)(L:Laid K mg "shows_stuck" q0H ["cellar","way","stands"])(vU:Cal P w K mg base 8 "end_of" ["cellar","way"] spEnd)(vn:Cal P w K mg base 9 "stays_among" ["cellar","known","stand"] qb4):Cal P w K mg base 10 "shows_stuck" ["cellar","way","stands"] q6P:=by
 refine L.cal (k:=9) q1A (fun vs H Q E h=>?_) (fun f cdv A outer s H vs Q E hr h=>?_)
 ·obtain ⟨c,R,S,C,ds,sts,rfl,_⟩:=h
  rfl
 ·obtain ⟨c,R,S,C,ds,sts,rfl,hC,cv,hR,sm,⟨us,hus,rus⟩,ll,gl,k⟩:=h
  have big:=qF
  refine⟨_,(qg (qC (i:=3) q1A.nd rfl (Or.inr rfl) qac)
   (qg (q0K PassesOwn.never rfl (q0b K (pv 2)) (qr (i:=4) q1A.nd rfl (Or.inl rfl)) (qi (q8u (q4s hr) (pv 3) (pv 4) q1D rfl)))
   (qg (qbT (qO (q8p (q7v (q4s hr) (qB vU hr (by decide) rfl (qa (pv 0) (qa (pv 1) qd))) (pv 3))) (qi (qp q1D)) qy))
   (qi (qp (qD (q64 K rfl) rfl T.wbx qbn (qa (q1o (q0L (N:=["stand","cellar","known"]) (own:=1) (caps:=[0,3]) ["cellar","way","stands","known","stand"] (qh q0H) (by walk_at "k")) rfl (pi_dkK K (pv 3)) (fun _ _ _ _=>(qr (i:=0) (show List.Nodup (["stand","cellar","known"]:List Str) by walk_at "k") rfl (Or.inl rfl))) (fun _ _ _ _=>q1H) (fun _ _ _ _=>(qB vn hr (by decide) rfl (qa (pv 1) (qa (pv 2) (qa (pv 0) qd)))))) qd))))))),?_⟩
  walk_at "r"
  intro D hD
  have s1:=Same.upd (o:= .dT []) hD
  have d1:=qe (H:=H) (a:=D) (o:= .dT [])
  generalize upd H D (.dT [])=H1 at s1 d1 ⊢
  have u1:=s1 _ _ hus
  walk_at "r"
  refine q2A (us.map V.ref) (fun i σ H'=>∃(kvs:List (List Key×V)) (v4:Option V),σ=[some (.ref c),some (.ref R),some (.ref S),some (.ref D),v4]/\Same H H'/\H' D=some (.dT kvs)/\KnOf kvs (sts.take i)) ⟨[],none,rfl,s1,d1,by rw[zcv];exact KnOf.nil⟩ ?_ ?_ ?_
  ·rintro i σ' H' ⟨_,_,rfl,s2,_⟩
   exact SqL.of (s2 _ _ hus)
  ·rintro i z σ' H2 hz ⟨kvs,v4,rfl,s2,d2,kn⟩
   have hi:i<sts.length:=by have:=(yA hz).1;rw[yC,rus.1] at this;exact this
   obtain⟨p,ep,hp⟩:=rus.get hi
   rw[hz] at ep
   cases ep
   have et:sts.take (i+1)=sts.take i++[sts[i]]:=zw hi
   have kl:=kn.len
   rw[zD] at kl
   generalize sts[i]=x at hp et
   have hp2:H2 p=some (.tup ((ik x).map kV)):=by rw[qcx];exact s2 _ _ hp
   intro D2 hn2 hc2 hb2 hr2
   walk_at "r"
   refine⟨D,_,rfl,DPut.t d2 hp2 (by omega),?_⟩
   exact hn2 _ _ ⟨_,_,rfl,s2.put hD,qe,by rw[et];exact kn.put x _⟩
  ·rintro σ' H2 ⟨kvs,v4,rfl,s2,d2,kn⟩
   rw[yC,rus.1,zQ] at kn
   walk_at "r"
   refine⟨D,kvs,d2,fun o=>?_⟩
   have s3:Same H (upd H2 D (.frz o (.dT kvs))):=s2.put hD
   have d3:=qe (H:=H2) (a:=D) (o:= .frz o (.dT kvs))
   generalize upd H2 D (.frz o (.dT kvs))=H3 at s3 d3 ⊢
   have hR3:q01 TAt H3 R ds:=let ⟨ps,h1,h2⟩:=hR;⟨ps,s3 _ _ h1,h2.mono fun _ _ h=>TAt.mono s3.ts h⟩
   unfold shB at k
   walk_at "r"
   refine⟨c,R,C,ds,rfl,hC.mono s3.ts,cv.ok,hR3,sm,fun hn H4 s4=>?_,fun x q H4 hx s4 hq4=>?_⟩
   ·rw [hn] at k
    walk_at "r"
    refine⟨D,rfl,.inr ⟨rfl,kvs,.inr ⟨o,s4 _ _ d3⟩,?_⟩⟩
    walk_at "r"
    simpa using k H4 (s3.trans s4)
   ·rw [hx] at k
    have d4:=s4 _ _ d3
    have s04:=s3.trans s4
    walk_at "r"
    refine⟨D,rfl,.inl ⟨_,qbj (.inr ⟨o,d4⟩) (show IAt H4 q x.ns from hq4),?_⟩⟩
    rw[kn.at_]
    by_cases g1:x.ns∈sts
    rotate_left
    ·rw [zq g1]
     walk_at "r"
     have:=k H4 s04
     simp only[decide_eq_false g1,Bool.false_and] at this
     exact this
    ·rw [zr g1]
     walk_at "r"
     refine⟨D,o,kvs,rfl,d4,?_⟩
     intro B hB
     refine qcQ (fun j σ H'=>∃v0,σ=[v0,some (.ref c),some (.ref D)]/\Same H4 H'/\H' B=some (.lst (((kvs.take j).map fun p=>q2V C sts (p.1.map fun z=>z.elim id fun _=>0)).map V.bl))) ⟨none,rfl,Same.upd hB,qe⟩ ?_ ?_ ?_
     ·rintro j σ H' ⟨_,rfl,s5,_⟩
      exact s5 _ _ d4
     ·rintro j b p σ H5 hp hb ⟨v0,rfl,s5,hb5⟩
      obtain⟨st,hst,ep⟩:=kn.key p (za1 hp)
      have hb':IAt H5 b st:=by unfold IAt;rw[ep,qcx] at hb;exact hb
      have hj:j<kvs.length:=(yA hp).1
      have kl:=kn.len
      have s05:=s04.trans s5
      walk_at "r"
      refine⟨c,D,b,C,kvs,sts,st,rfl,hC.mono s05.ts,cv,.inr ⟨o,s5 _ _ d4⟩,kn,hb',gl st hst,fun H6 s6=>?_⟩
      refine⟨_,s6 _ _ hb5,by rw[yC,yC,zD];omega,_,rfl,(s5.trans s6).put hB,?_⟩
      have e1:kvs[j]=p:=by have:=yB hj;rw[hp] at this;exact(zC this).symm
      have e2:p.1.map (fun z=>z.elim id fun _=>0)=st:=by rw[ep];unfold ik;rw[List.map_map];exact(zax fun a _=>rfl).trans (zcs st)
      rw[qe,zw hj,zM,zM,e1]
      simp[e2]
     ·rintro σ H5 ⟨v0,rfl,s5,hb5⟩
      rw[zQ] at hb5
      walk_at "r"
      refine⟨B,_,rfl,SqL.of hb5,?_⟩
      have ea:(kvs.map fun p=>q2V C sts (p.1.map fun z=>z.elim id fun _=>0)).all id=sts.all (q2V C sts):=by
       rw[List.all_map]
       refine kn.all _ _ fun p st hp ep=>?_
       show q2V C sts (p.1.map fun z=>z.elim id fun _=>0)=q2V C sts st
       rw[ep]
       unfold ik
       rw[za6]
       congr 1
       exact(zax fun a _=>rfl).trans (zcs st)
      have:=k H5 (s04.trans s5)
      simp only[decide_eq_true g1,Bool.true_and] at this
      rw[<-ea] at this
      exact this
def spRow:Sp:=fun vs H Q _=>∃(c l:Addr) (C:Cl) (ms:List Int),vs=[.ref c,.ref l]/\ClAt H c C/\CvOk C/\H l=some (.lst (ms.map V.int))/\ms.length<=10/\∀(r R q:Addr) (ds:List (Wd×Nat)) (x:Sd) (H':Hp),Same H H'->H' r=some (.tup [.ref R,.ref q])->q01 TAt H' R ds->(∀d∈ds,d.2<=1000)->ds.length<=10->SAt H' q x->x.ok C->Q (.ref r) H'
theorem qcD {C:Cl}(cv:CvOk C){s:Sd}{d:Wd×Nat}(h:d∈fitD C s):d.2<=1000:=by
 obtain⟨a,i⟩:=d
 obtain⟨_,j,e,hj,_⟩:=q2e (q37.mp h)
 have:=cv.m
 have hn:C.num a<=16:=by cases a<;>simp only[Cl.num]<;>omega
 show i<=1000
 omega
theorem ok_row (T:Txt mg cs)(L:Laid K mg "_law_row" q2v ["_law_cave_here","_law_numbers_here"])(wA:Cal P w K mg base 4 "_law_next" ["_law_cave_here","_law_stand"] q3i):Cal P w K mg base 5 "_law_row" ["_law_cave_here","_law_numbers_here"] spRow:=by
 refine L.cal (k:=4) q0C (fun vs H Q E h=>?_) (fun f cdv A outer s H vs Q E hr h=>?_)
 ·obtain ⟨c,l,C,ms,rfl,_⟩:=h
  rfl
 ·obtain ⟨c,l,C,ms,rfl,hC,cv,hl,lm,k⟩:=h
  have big:=qF
  have ok:=cv.ok
  obtain⟨pw,pt,pl,pv',h0,_⟩:=hC.ex
  refine⟨_,(qg (qC (i:=2) q0C.nd rfl (Or.inl rfl) (qz (qa (qm (qj K) (pv 0) qc (fun _ _=>rfl)) (qa qc (qa qc (qa (qm (qj K) (pv 0) qc (fun _ _=>rfl)) (qa (qm (qj K) (pv 0) qc (fun _ _=>rfl)) qd)))))))
   (qg (qC (i:=3) q0C.nd rfl (Or.inl rfl) (q0p qd))
   (qg (q0K PassesOwn.never rfl (q0b K (pv 1)) (qr (i:=4) q0C.nd rfl (Or.inl rfl)) (qg (qC (i:=5) q0C.nd rfl (Or.inl rfl) (qB wA hr (by decide) rfl (qa (pv 0) (qa (pv 2) qd))))
   (qi (qO (qw (q71 K 1 (q3Y hr)) (pv 5) (q0p qd) (qu _)) (qg (q3w (qm (q0d K) (pv 5) (qk qI (pv 4) (qD (lenK K) rfl T.ww q0i (qa (pv 5) qd))) (fun _ _=>rfl)) (q0v (n:=2) K rfl (qA (qr (i:=6) q0C.nd rfl (Or.inl rfl)) (qA (qr (i:=2) q0C.nd rfl (Or.inl rfl)) q0u))))
   (qi (q08 (q4i zR zU zX q0q (pv 3) (qa (pv 6) qd))))) qy))))
   (qi (qp (qz (qa (pv 3) (qa (pv 2) qd)))))))),?_⟩
  walk_at "r"
  intro t ht
  have s1:=Same.upd (o:= .tup [.int C.fst,.int 0,.int 0,.int C.bars,.int C.water]) ht
  have t1:SAt (upd H t (.tup [.int C.fst,.int 0,.int 0,.int C.bars,.int C.water])) t (st0 C):=qe
  generalize upd H t (.tup [.int C.fst,.int 0,.int 0,.int C.bars,.int C.water])=H1 at s1 t1 ⊢
  walk_at "r"
  intro R hR1
  have hR:H R=none:=s1.free hR1
  have s2:=s1.trans (Same.upd (o:= .lst []) hR1)
  have t2:SAt (upd H1 R (.lst [])) t (st0 C):=(Same.upd (o:= .lst []) hR1) _ _ t1
  have r2:=qe (H:=H1) (a:=R) (o:= .lst [])
  generalize upd H1 R (.lst [])=H2 at s2 t2 r2 ⊢
  have l2:=s2 _ _ hl
  walk_at "r"
  refine q2A (ms.map V.int) (fun i σ H'=>∃(x:Sd) (q:Addr) (ds:List (Wd×Nat)) (v4 v5 v6:Option V),σ=[some (.ref c),some (.ref l),some (.ref q),some (.ref R),v4,v5,v6]/\Same H H'/\q01 TAt H' R ds/\(∀d∈ds,d.2<=1000)/\ds.length<=i/\SAt H' q x/\x.ok C) ⟨st0 C,t,[],none,none,none,rfl,s2,⟨[],r2,Rows.nil⟩,by simp,zn _,t2,q4D ok⟩ ?_ ?_ ?_
  ·rintro i σ H' ⟨_,_,_,_,_,_,rfl,s3,_⟩
   exact SqL.of (s3 _ _ hl)
  ·rintro i z σ H3 hz ⟨x,q,ds,v4,v5,v6,rfl,s3,⟨us,hus,rus⟩,sm,ld,hq,xok⟩
   have hi:i<ms.length:=by have:=(yA hz).1;rw[yC] at this;exact this
   have ez:z=V.int ms[i]:=by rw[zN,yB hi] at hz;exact(zC hz).symm
   subst ez
   intro D2 hn2 hc2 hb2 hr2
   walk_at "r"
   refine⟨c,q,C,x,rfl,hC.mono s3.ts,ok,hq,xok,fun l4 H4 s4 hl40 m4=>?_⟩
   obtain⟨ps,hps,rps⟩:=m4
   have s34:=s3.trans s4
   have u4:=s4 _ _ hus
   walk_at "r"
   intro e1 he1
   have s5:=Same.upd (o:= .lst []) he1
   have e5:=qe (H:=H4) (a:=e1) (o:= .lst [])
   generalize upd H4 e1 (.lst [])=H5 at s5 e5 ⊢
   have p5:=s5 _ _ hps
   have u5:=s5 _ _ u4
   have s45:=s4.trans s5
   refine q8m p5 e5 ?_
   by_cases g1:ps=[]
   ·rw [zr g1]
    walk_at "r"
    exact hn2 _ _ ⟨x,q,ds,_,_,_,rfl,s34.trans s5,⟨us,u5,rus.mono fun _ _ h=>TAt.mono s45.ts h⟩,sm,by omega,SAt.mono s45.ts hq,xok⟩
   ·rw [zq g1]
    walk_at "r"
    rw[yC]
    have l0:0<ps.length:=List.length_pos_iff.mpr g1
    obtain⟨j,hj,ej,aj⟩:=qbo (xs:=ps.map V.ref) (i:=ms[i] % (ps.length:Int)) (qW _ (by omega)) (by rw[yC];exact q04 _ (by omega))
    rw[yC] at hj
    rw[List.getElem_map] at aj
    have hj':j<(fitD C x).length:=by rw[<-rps.1];exact hj
    have hpr:=rps.2 j ps[j] (fitD C x)[j] (yB hj) (yB hj')
    have hmem:(fitD C x)[j]∈fitD C x:=zL hj'
    generalize (fitD C x)[j]=d at hpr hmem
    obtain⟨td,rd',e6,ht6,hr6⟩:=PrAt.mono s5.ts hpr
    have hnum:=qcD cv hmem
    have yok:(q1p C x d.1 (d.2:Int)).ok C:=q4U ok xok (q37.mp hmem)
    walk_at "r"
    have ul:us.length<=60:=by rw[rus.1];omega
    refine q4h u5 (by rw[yC];omega) ?_
    have ts9:=q0m.lst (o:= .lst (us.map V.ref++[.ref td])) u5
    exact hn2 _ _ ⟨_,rd',ds++[d],_,_,_,rfl,(s34.trans s5).put hR,q0f (fun _ _ h=>TAt.mono ts9 h) (rus.mono fun _ _ h=>TAt.mono s45.ts h) ht6,fun y hy=>by rcases zad.mp hy with h|h;exact sm y h;rw[zA.mp h];exact hnum,by rw[zx];simp;omega,SAt.mono ts9 hr6,yok⟩
  ·rintro σ H3 ⟨x,q,ds,v4,v5,v6,rfl,s3,⟨us,hus,rus⟩,sm,ld,hq,xok⟩
   rw[yC] at ld
   walk_at "r"
   intro r hr0
   have s4:=Same.upd (o:= .tup [.ref R,.ref q]) hr0
   exact k r R q ds x _ (s3.trans s4) qe ⟨us,s4 _ _ hus,rus.mono fun _ _ h=>TAt.mono s4.ts h⟩ sm (by omega) (SAt.mono s4.ts hq) xok
theorem qcv (xs ys:List Int):((List.range (min (xs.map V.int).length (ys.map V.int).length)).all (fun j=>eqV ((xs.map V.int).getD j .non) ((ys.map V.int).getD j .non))&&(xs.map V.int).length==(ys.map V.int).length)=decide (xs=ys):=by
 rw[zP,zac,zaB,zbw,beq_iff_eq,yC,yC]
 constructor
 ·rintro ⟨h1,h2⟩
  refine List.ext_getElem h2 fun i a b=>?_
  have:=h1 i (za2.mpr (by omega))
  rw[zaw,zaw,zN,zN,yB a,yB b] at this
  simpa[eqV] using this
 ·rintro rfl
  refine⟨fun i hi=>?_,rfl⟩
  have a:i<xs.length:=by have:=za2.mp hi;omega
  rw[zaw,zN,yB a]
  simp[eqV]
theorem q76 {xs ys:List Int}(h:xs.map V.int=ys.map V.int):xs=ys:=(List.map_inj_right (fun _ _ e=>V.int.inj e)).mp h
theorem qaR {K:W.Frag}{H:Hp}{a b:Addr}{xs ys:List Int}(ha:IAt H a xs)(hb:IAt H b ys):Deq K H 1 (.ref a) (.ref b) (decide (xs=ys)):=by
 by_cases e:a=b
 ·subst e
  have:xs=ys:=q76 (by have h:=ha.symm.trans hb;simpa using h)
  rw[zr this]
  exact .same a
 ·have h:=Deq.tup (K:=K) (n:=0) (e:=fun j=>eqV ((xs.map V.int).getD j .non) ((ys.map V.int).getD j .non)) e (SqT.of ha) (SqT.of hb) fun j h1 h2=> .flat (by
    rw[yC] at h1
    rw[zaw,zN,yB h1]
    rfl) (by
    rw[yC] at h2
    rw[zaw,zN,yB h2]
    rfl)
  rw[qcv] at h
  exact h
theorem r_inI {K:W.Frag}{H:Hp}{Q:VK}{neg:Bool}{p q:Addr}{st:List Int}{sts:List (List Int)}(hl:q01 IAt H p sts)(hq:IAt H q st)(k:Q (.bl (if neg then !decide (st∈sts) else decide (st∈sts))) H):rInD K 1 neg (.ref q) (.ref p) H Q:=by
 obtain⟨ps,h1,h2⟩:=hl
 obtain⟨e,he⟩:∃e:Addr->Bool,∀b t,IAt H b t->e b=decide (t=st):=⟨fun b=> @decide (H b=some (.tup (st.map V.int))) (Classical.propDecidable _),fun b t h=>by
  unfold IAt at h
  by_cases z:t=st
  ·rw [zr z]
   exact @zr _ (Classical.propDecidable _) (by rw[h,z])
  ·rw [zq z]
   exact @zq _ (Classical.propDecidable _) (fun y=>z (by rw[h] at y;exact q76 (HO.tup.inj (zC y))))⟩
 have e2:ps.any e=decide (st∈sts):=by
  rw[zP,List.any_eq_true,zbw]
  constructor
  ·rintro ⟨b,hb,z⟩
   obtain⟨t,ht,h⟩:=Rows.mem h2 hb
   rw[he b t h] at z
   rw[<-zaG z]
   exact ht
  ·intro hm
   obtain⟨i,hi,z⟩:=zbU hm
   have hi':i<ps.length:=by rw[h2.1];exact hi
   refine⟨ps[i],zL hi',?_⟩
   rw[he _ _ (h2.2 i ps[i] sts[i] (yB hi') (yB hi))]
   exact zr z
 refine⟨p,ps,e,rfl,SqL.of h1,fun b hb=>?_,?_⟩
 ·obtain ⟨t,_,ht⟩:=Rows.mem h2 hb
  rw[he b t ht]
  exact qaR ht hq
 ·rw [e2]
  exact k
theorem ok_due (T:Txt mg cs)(L:Laid K mg "_law_due" q1h ["_law_cave_here","_law_row_here","_law_stands"])(w9:Cal P w K mg base 2 "_law_is_stand" ["_law_cave_here","_law_stand"] spLis)(wA:Cal P w K mg base 4 "_law_next" ["_law_cave_here","_law_stand"] q3i):Cal P w K mg base 5 "_law_due" ["_law_cave_here","_law_row_here","_law_stands"] q6P:=by
 refine L.cal (k:=4) q0D (fun vs H Q E h=>?_) (fun f cdv A outer s H vs Q E hr h=>?_)
 ·obtain ⟨c,R,S,C,ds,sts,rfl,_⟩:=h
  rfl
 ·obtain ⟨c,R,S,C,ds,sts,rfl,hC,cv,⟨rs,hrs,rrs⟩,sm,⟨us,hus,rus⟩,ll,gl,k⟩:=h
  have big:=qF
  have hu:=zbv (qcz hr)
  have ok:=cv.ok
  obtain⟨pw,pt,pl,pv',h0,_⟩:=hC.ex
  have fls:∀H',Same H H'->shB C ds sts=false->Q (.bl false) H':=fun H' s e=>by have:=k H' s;rw[e] at this;exact this
  have bad:∀x∈sts,q2V C sts x=false->shB C ds sts=false:=fun x hx e=>by
   unfold shB
   rw[List.all_eq_false.mpr ⟨x,hx,by rw[e];decide⟩,zbX]
  refine⟨_,(qg (q0K PassesOwn.never rfl (q0b K (pv 2)) (qr (i:=3) q0D.nd rfl (Or.inl rfl)) (qi (qO (PW.pt (q2O (q2k (q0J (qB w9 hr (by decide) rfl (qa (pv 0) (qa (pv 3) qd))))) (q2j (qw qS (qm (qj K) (pv 3) qc (fun _ _=>rfl)) (qm (qj K) (pv 0) qc (fun _ _=>rfl)) (qu _))))) (qi (qp q1D)) qy)))
   (qg (qC (i:=4) q0D.nd rfl (Or.inl rfl) (qz (qa (qm (qj K) (pv 0) qc (fun _ _=>rfl)) (qa qc (qa qc (qa (qm (qj K) (pv 0) qc (fun _ _=>rfl)) (qa (qm (qj K) (pv 0) qc (fun _ _=>rfl)) qd)))))))
   (qg (q0K PassesOwn.never rfl (q0b K (pv 1)) (qr (i:=5) q0D.nd rfl (Or.inr rfl)) (qg (q2P (i:=6) q0D.nd rfl rfl (q0L (N:=["_law_one","_law_other","_law_deed"]) (own:=2) (caps:=[5]) ["_law_cave_here","_law_row_here","_law_stands","_law_stand","_law_now","_law_deed","_law_ahead"] (qh q1h) (by walk_at "k")) rfl (q0b K (qB wA hr (by decide) rfl (qa (pv 0) (qa (pv 4) qd)))) (fun _ _ _ _=>(q0v (n:=2) K rfl (qA (qr (i:=0) (show List.Nodup (["_law_one","_law_other","_law_deed"]:List Str) by walk_at "k") rfl (Or.inl rfl)) (qA (qr (i:=1) (show List.Nodup (["_law_one","_law_other","_law_deed"]:List Str) by walk_at "k") rfl (Or.inl rfl)) q0u)))) (fun _ _ _ _=>(q5Q (qw (q8G K hu) (pv 0) (pv 2) (qu _)))) (fun _ _ _ _=>(pv 1)))
   (qg (qO (qw (op_eqD K 1 (q3Y hr)) (pv 6) (q0p qd) (qu _)) (qi (qp q1D)) qy)
   (qi (qC (i:=4) q0D.nd rfl (Or.inl rfl) (qm (q0d K) (pv 6) qc (fun _ _=>rfl)))))))
   (qg (q0K PassesOwn.never rfl (q0b K (pv 2)) (qr (i:=3) q0D.nd rfl (Or.inl rfl)) (qi (qO (qw (q71 K 1 (q3Y hr)) (q1o (q0L (N:=["_law_deed","_law_other","_law_stands"]) (own:=2) (caps:=[2]) ["_law_cave_here","_law_row_here","_law_stands","_law_stand","_law_now","_law_deed","_law_ahead"] (qh q1h) (by walk_at "k")) rfl (q0b K (qB wA hr (by decide) rfl (qa (pv 0) (qa (pv 3) qd)))) (fun _ _ _ _=>(q0v (n:=2) K rfl (qA (qr (i:=0) (show List.Nodup (["_law_deed","_law_other","_law_stands"]:List Str) by walk_at "k") rfl (Or.inl rfl)) (qA (qr (i:=1) (show List.Nodup (["_law_deed","_law_other","_law_stands"]:List Str) by walk_at "k") rfl (Or.inl rfl)) q0u)))) (fun _ _ _ _=>(q5Q (qw (q8E K 1 (q3Y hr)) (pv 1) (pv 2) (by with_unfolding_all rfl)))) (fun _ _ _ _=>(pv 1))) (q0p qd) (qu _)) (qi (qp q1D)) qy)))
   (qi (qp (qR (op_inD K 1 (q3Y hr)) (pv 4) (pv 2) (by with_unfolding_all rfl)))))))),?_⟩
  walk_at "r"
  refine q2A (us.map V.ref) (fun i σ H'=>∃(v3:Option V),σ=[some (.ref c),some (.ref R),some (.ref S),v3,none,none,none]/\Same H H'/\∀x∈sts.take i,stOk C x=true/\¬(sdL x).rm=C.lst) ⟨none,rfl,Same.refl _,by simp⟩ ?_ ?_ ?_
  ·rintro i σ' H' ⟨_,rfl,s2,_⟩
   exact SqL.of (s2 _ _ hus)
  ·rintro i z σ' H2 hz ⟨v3,rfl,s2,so⟩
   have hi:i<sts.length:=by have:=(yA hz).1;rw[yC,rus.1] at this;exact this
   obtain⟨p,ep,hp⟩:=rus.get hi
   rw[hz] at ep
   cases ep
   have et:sts.take (i+1)=sts.take i++[sts[i]]:=zw hi
   have hxm:sts[i]∈sts:=zL hi
   generalize sts[i]=x at hp et hxm
   have hp2:IAt H2 p x:=s2 _ _ hp
   have bx:=bad x hxm
   unfold q2V at bx
   intro D2 hn2 hc2 hb2 hr2
   walk_at "r"
   refine⟨c,p,C,x,rfl,hC.mono s2.ts,cv,hp2,gl x hxm,fun H3 s3=>?_⟩
   walk_at "r"
   by_cases g2:stOk C x=true
   rotate_left
   ·rw [zbD] at g2
    rw[g2] at bx ⊢
    walk_at "r"
    exact hr2 _ _ (fls _ (s2.trans s3) (bx rfl))
   ·rw [g2]
    have ex:=q6z (q3h g2)
    have hp3:H3 p=some (.tup [.int (sdL x).rm,.int (sdL x).tk,.int (sdL x).op,.int (sdL x).b,.int (sdL x).wt]):=by
     have:=s3 _ _ hp2
     rw[ex] at this
     exact this
    have c3:=(s2.trans s3) _ _ h0
    walk_at "r"
    by_cases g3:(sdL x).rm=C.lst
    ·rw [zr g3] at bx ⊢
     walk_at "r"
     exact hr2 _ _ (fls _ (s2.trans s3) (bx (by simp)))
    ·rw [zq g3]
     walk_at "r"
     refine hn2 _ _ ⟨_,rfl,s2.trans s3,fun y hy=>?_⟩
     rw[et] at hy
     rcases zad.mp hy with z|z
     ·exact so y z
     ·rw [zA.mp z];exact⟨g2,g3⟩
  ·rintro σ' H2 ⟨v3,rfl,s2,so⟩
   rw[yC,rus.1,zQ] at so
   have c2:=s2 _ _ h0
   walk_at "r"
   intro t ht
   have s3:=Same.upd (o:= .tup [.int C.fst,.int 0,.int 0,.int C.bars,.int C.water]) ht
   have t3:SAt (upd H2 t (.tup [.int C.fst,.int 0,.int 0,.int C.bars,.int C.water])) t (st0 C):=qe
   generalize upd H2 t (.tup [.int C.fst,.int 0,.int 0,.int C.bars,.int C.water])=H3 at s3 t3 ⊢
   have s03:=s2.trans s3
   have r3:=s03 _ _ hrs
   walk_at "r"
   refine q2A (rs.map V.ref) (fun i σ H'=>∃(x:Sd) (q:Addr) (v5 v6:Option V),σ=[some (.ref c),some (.ref R),some (.ref S),v3,some (.ref q),v5,v6]/\Same H H'/\SAt H' q x/\runD C (st0 C) (ds.take i)=some x/\x.ok C) ⟨st0 C,t,none,none,rfl,s03,t3,by rw[zcv];rfl,q4D ok⟩ ?_ ?_ ?_
   ·rintro i σ H' ⟨_,_,_,_,rfl,s4,_⟩
    exact SqL.of (s4 _ _ hrs)
   ·rintro i z σ H4 hz ⟨x,q,v5,v6,rfl,s4,hq4,hx,xok⟩
    have hi:i<ds.length:=by have:=(yA hz).1;rw[yC,rrs.1] at this;exact this
    obtain⟨p,ep,hp⟩:=rrs.get hi
    rw[hz] at ep
    cases ep
    have et:ds.take (i+1)=ds.take i++[ds[i]]:=zw hi
    have hsn:=q5L C (st0 C) x (ds.take i) ds[i] hx
    rw[<-et] at hsn
    generalize ds[i]=d at hp hsn
    have hp4:TAt H4 p d:=TAt.mono s4.ts hp
    intro D2 hn2 hc2 hb2 hr2
    walk_at "r"
    refine⟨c,q,C,x,rfl,hC.mono s4.ts,ok,hq4,xok,fun l H5 s5 hl0 m5=>?_⟩
    obtain⟨ps,hps,rps⟩:=m5
    have fx:=cv.few x
    walk_at "r"
    intro B hB
    refine q1f (ps.map V.ref) (fun j σ H'=>∃(v0 v1:Option V) (bs:List Addr),σ=[v0,v1,some (.ref p)]/\Same H5 H'/\H' B=some (.lst (bs.map V.ref))/\bs.length<=j/\(∀b∈bs,SAt H' b (q1p C x d.1 (d.2:Int)))/\(bs=[]↔d∉(fitD C x).take j)) ⟨none,none,[],rfl,Same.upd hB,qe,zn _,by simp,by simp⟩ ?_ ?_ ?_
    ·rintro j σ H' ⟨_,_,_,rfl,s6,_⟩
     exact SqL.of (s6 _ _ hps)
    ·rintro j z σ H6 hz ⟨v0,v1,bs,rfl,s6,hb6,bl,ba,be⟩
     have hj:j<(fitD C x).length:=by have:=(yA hz).1;rw[yC,rps.1] at this;exact this
     obtain⟨p5,ep,hp5⟩:=rps.get hj
     rw[hz] at ep
     cases ep
     have et3:(fitD C x).take (j+1)=(fitD C x).take j++[(fitD C x)[j]]:=zw hj
     generalize (fitD C x)[j]=e at hp5 et3
     obtain⟨t',r,e5,ht5,hr5⟩:=PrAt.mono s6.ts hp5
     have hp6:TAt H6 p d:=TAt.mono (s5.trans s6).ts hp4
     walk_at "r"
     refine⟨t',p,_,_,rfl,rfl,SqT.of ht5,SqT.of hp6,rfl,rfl,?_⟩
     rw[qcG]
     refine⟨_,rfl,?_⟩
     by_cases g4:d=e
     ·rw [zt (zr (by rw[g4]))]
      walk_at "r"
      refine⟨_,hb6,by rw[yC];omega,_,_,bs++[r],rfl,s6.put hB,by rw[qe];simp,by simp;omega,fun b hb=>?_,?_⟩
      ·have ts7:=q0m.lst (o:= .lst (bs.map V.ref++[.ref r])) hb6
       rcases zad.mp hb with z|z
       ·exact SAt.mono ts7 (ba b z)
       ·rw [zA.mp z,g4];exact SAt.mono ts7 hr5
      ·rw [et3];simp[g4]
     ·rw [zo (by simpa using g4)]
      refine⟨_,_,bs,rfl,s6,hb6,by omega,ba,?_⟩
      rw[et3,be]
      simp[g4]
    ·rintro σ H6 ⟨v0,v1,bs,rfl,s6,hb6,bl,ba,be⟩
     rw[yC,rps.1,zQ] at be
     walk_at "r"
     intro e1 he1
     have s7:=Same.upd (o:= .lst []) he1
     have e7:=qe (H:=H6) (a:=e1) (o:= .lst [])
     generalize upd H6 e1 (.lst [])=H7 at s7 e7 ⊢
     have s07:=s4.trans (s5.trans (s6.trans s7))
     have b7:=s7 _ _ hb6
     refine qbM b7 e7 ?_
     have hcan:d∈fitD C x↔canD C x d.1 (d.2:Int)=true:=by rw[<-q37]
     by_cases g5:bs=[]
     ·rw [zr g5]
      walk_at "r"
      refine hr2 _ _ (fls _ s07 ?_)
      rw[zo (fun z=>be.mp g5 (hcan.mpr z))] at hsn
      unfold shB
      rw[q6W C _ _ _ hsn]
      rfl
     ·rw [zq g5]
      have hd:d∈fitD C x:=Classical.byContradiction fun z=>g5 (be.mpr z)
      rw[zt (hcan.mp hd)] at hsn
      obtain⟨b0,bs',rfl⟩:=List.exists_cons_of_ne_nil g5
      have aj:atI ((b0::bs').map V.ref) 0=some (V.ref b0):=by rw[zZ];exact atI0
      walk_at "r"
      exact hn2 _ _ ⟨_,b0,_,_,rfl,s07,SAt.mono s7.ts (ba b0 zY),hsn,q4U ok xok (hcan.mp hd)⟩
   ·rintro σ H4 ⟨x,q,v5,v6,rfl,s4,hq4,hx,xok⟩
    rw[yC,rrs.1,zQ] at hx
    have u4:=s4 _ _ hus
    walk_at "r"
    refine q2A (us.map V.ref) (fun i σ H'=>∃(v3:Option V),σ=[some (.ref c),some (.ref R),some (.ref S),v3,some (.ref q),v5,v6]/\Same H4 H'/\∀x∈sts.take i,q2V C sts x=true) ⟨v3,rfl,Same.refl _,by simp⟩ ?_ ?_ ?_
    ·rintro i σ' H' ⟨_,rfl,s5,_⟩
     exact SqL.of (s5 _ _ u4)
    ·rintro i z σ' H5 hz ⟨v3,rfl,s5,gd⟩
     have hi:i<sts.length:=by have:=(yA hz).1;rw[yC,rus.1] at this;exact this
     obtain⟨p,ep,hp⟩:=rus.get hi
     rw[hz] at ep
     cases ep
     have et:sts.take (i+1)=sts.take i++[sts[i]]:=zw hi
     have hxm:sts[i]∈sts:=zL hi
     generalize sts[i]=y at hp et hxm
     have s05:=s4.trans s5
     have hp5:IAt H5 p y:=s05 _ _ hp
     obtain⟨g2,g3⟩:=so y hxm
     have by_:=bad y hxm
     have goal1:q2V C sts y=true->∀y'∈sts.take (i+1),q2V C sts y'=true:=fun e y' hy=>by
      rw[et] at hy
      rcases zad.mp hy with z|z
      ·exact gd y' z
      ·rw [zA.mp z];exact e
     unfold q2V at by_ goal1
     have ex:=q6z (q3h g2)
     have g1':=g2
     rw[ex] at g1'
     have sok:=q4r g1'
     rw[g2,zq g3,Bool.not_false,zaI,zaI] at by_ goal1
     generalize sdL y=st at ex sok by_ goal1
     clear g1' g3
     have h2':SAt H5 p st:=by unfold IAt at hp5;rw[ex] at hp5;exact hp5
     intro D2 hn2 hc2 hb2 hr2
     walk_at "r"
     refine⟨c,p,C,st,rfl,hC.mono s05.ts,ok,h2',sok,fun l H6 s6 hl0 m6=>?_⟩
     obtain⟨ps,hps,rps⟩:=m6
     have fx:=cv.few st
     have s06:=s05.trans s6
     walk_at "r"
     intro B hB
     refine q1f (ps.map V.ref) (fun j σ H'=>∃(v0 v1:Option V) (bs:List Addr),σ=[v0,v1,some (.ref S)]/\Same H6 H'/\H' B=some (.lst (bs.map V.ref))/\bs.length<=j/\(bs=[]↔((nx C st).take j).all (fun y=>decide (y.ns∈sts))=true)) ⟨none,none,[],rfl,Same.upd hB,qe,zn _,by simp⟩ ?_ ?_ ?_
     ·rintro j σ H' ⟨_,_,_,rfl,s7,_⟩
      exact SqL.of (s7 _ _ hps)
     ·rintro j z σ H7 hz ⟨v0,v1,bs,rfl,s7,hb7,bl,be⟩
      have hj:j<(fitD C st).length:=by have:=(yA hz).1;rw[yC,rps.1] at this;exact this
      obtain⟨p5,ep,hp5⟩:=rps.get hj
      rw[hz] at ep
      cases ep
      obtain⟨t',r,e5,ht5,hr5⟩:=PrAt.mono s7.ts hp5
      have hj':j<(nx C st).length:=by unfold nx;rw[yC];exact hj
      have ey:q1p C st (fitD C st)[j].1 ((fitD C st)[j].2:Int)=(nx C st)[j]:=by simp[nx]
      rw[ey] at hr5
      have hr5:IAt H7 r (nx C st)[j].ns:=hr5
      have et2:(nx C st).take (j+1)=(nx C st).take j++[(nx C st)[j]]:=zw hj'
      have s07:=s06.trans s7
      walk_at "r"
      refine r_inI ⟨us,s07 _ _ hus,rus.mono fun _ _ h=>IAt.mono s07.ts h⟩ hr5 ?_
      by_cases g3:(nx C st)[j].ns∈sts
      ·rw [zr g3]
       refine⟨_,rfl,?_⟩
       rw[zo (by decide)]
       refine⟨_,_,bs,rfl,s7,hb7,by omega,?_⟩
       rw[et2,List.all_append,be]
       simp[g3]
      ·rw [zq g3]
       refine⟨_,rfl,?_⟩
       rw[zt (by decide)]
       walk_at "r"
       refine⟨_,hb7,by rw[yC];omega,_,_,bs++[r],rfl,s7.put hB,by rw[qe];simp,by simp;omega,?_⟩
       rw[et2,List.all_append]
       simp[g3]
     ·rintro σ H7 ⟨v0,v1,bs,rfl,s7,hb7,bl,be⟩
      rw[yC,rps.1,show(fitD C st).length=(nx C st).length by simp[nx],zQ] at be
      walk_at "r"
      intro e1 he1
      have s8:=Same.upd (o:= .lst []) he1
      have e8:=qe (H:=H7) (a:=e1) (o:= .lst [])
      generalize upd H7 e1 (.lst [])=H8 at s8 e8 ⊢
      have s68:=s6.trans (s7.trans s8)
      refine q8m (s8 _ _ hb7) e8 ?_
      by_cases g3:bs=[]
      rotate_left
      ·rw [zq g3]
       walk_at "r"
       exact hr2 _ _ (fls _ (s05.trans s68) (by_ (za0.mpr (fun z=>g3 (be.mpr z)))))
      ·rw [zr g3]
       walk_at "r"
       exact hn2 _ _ ⟨_,rfl,s5.trans s68,goal1 (be.mp g3)⟩
    ·rintro σ' H5 ⟨v3,rfl,s5,gd⟩
     rw[yC,rus.1,zQ] at gd
     have s05:=s4.trans s5
     walk_at "r"
     refine r_inI ⟨us,s05 _ _ hus,rus.mono fun _ _ h=>IAt.mono s05.ts h⟩ (show IAt H5 q x.ns from SAt.mono s5.ts hq4) ?_
     have:=k H5 s05
     unfold shB at this
     rw[hx,zaB.mpr gd,Bool.and_true] at this
     exact this
def AllI (H:Hp)(L:List Addr):Prop:=∀p∈L,∃st,IAt H p st/\GI st
def AllT (H:Hp)(L:List Addr):Prop:=∀p∈L,∃d,TAt H p d/\d.2<=1000
theorem AllI.mono {H H':Hp}(s:q0m H H'){L:List Addr}(h:AllI H L):AllI H' L:=fun p hp=>let ⟨st,h1,h2⟩:=h p hp;⟨st,h1.mono s,h2⟩
theorem AllT.mono {H H':Hp}(s:q0m H H'){L:List Addr}(h:AllT H L):AllT H' L:=fun p hp=>let ⟨st,h1,h2⟩:=h p hp;⟨st,TAt.mono s h1,h2⟩
theorem AllI.app {H:Hp}{L M:List Addr}(h:AllI H L)(g:AllI H M):AllI H (L++M):=fun p hp=>(zad.mp hp).elim (h p) (g p)
theorem AllT.app {H:Hp}{L M:List Addr}(h:AllT H L)(g:AllT H M):AllT H (L++M):=fun p hp=>(zad.mp hp).elim (h p) (g p)
theorem AllI.one {H:Hp}{p:Addr}{st:List Int}(h:IAt H p st)(g:GI st):AllI H [p]:=fun q hq=>by rw[zA.mp hq];exact⟨st,h,g⟩
theorem AllI.sub {H:Hp}{L M:List Addr}(h:AllI H L)(g:∀p∈M,p∈L):AllI H M:=fun p hp=>h p (g p hp)
theorem AllT.sub {H:Hp}{L M:List Addr}(h:AllT H L)(g:∀p∈M,p∈L):AllT H M:=fun p hp=>h p (g p hp)
theorem q6n {α:Type}{At:Hp->Addr->α->Prop}{G:α->Prop}{H:Hp}:∀{L:List Addr},(∀p∈L,∃x,At H p x/\G x)->∃xs,Rows At H L xs/\∀x∈xs,G x
 |[],_=>⟨[],Rows.nil,by simp⟩
 |p::L,h=>by
  obtain⟨x,h1,h2⟩:=h p zY
  obtain⟨xs,g1,g2⟩:=q6n (L:=L) fun q hq=>h q (zE _ hq)
  refine⟨x::xs,⟨by simp[g1.1],fun i q y e1 e2=>?_⟩,fun y hy=>?_⟩
  ·cases i with
   |zero=>cases e1;cases e2;exact h1
   |succ i=>exact g1.2 i q y e1 e2
  ·rcases zG.mp hy with rfl|hy
   ·exact h2
   ·exact g2 y hy
theorem qch {α:Type}{At:Hp->Addr->α->Prop}{G:α->Prop}{H:Hp}{L:List Addr}{xs:List α}(h:Rows At H L xs)(g:∀x∈xs,G x):∀p∈L,∃x,At H p x/\G x:=fun p hp=>by
 obtain⟨x,hx,ha⟩:=Rows.mem h hp
 exact⟨x,ha,g x hx⟩
theorem qaS (us:List Addr)(i j:Nat):cutV (us.map V.ref) (some (i:Int)) (some (j:Int))=((us.drop (min i us.length)).take (min j us.length - min i us.length)).map V.ref:=by
 unfold cutV
 rw[HT.q3m,HT.q3m,yC,List.map_take,List.map_drop]
theorem r_slMd {K:W.Frag}{H:Hp}{Q:VK}{R:Addr}{us:List Addr}(u:H R=some (.lst (us.map V.ref)))(i j:Int)(i' j':Nat)(ei:i=(i':Int))(ej:j=(j':Int))(k:∀a H',Same H H'->H' a=some (.lst (((us.drop (min i' us.length)).take (min j' us.length - min i' us.length)).map V.ref))->Q (.ref a) H'):rSlL K (.ref R) (some i) (some j) H Q:=by
 subst ei ej
 exact⟨R,_,rfl,SqL.of u,fun a ha=>k a _ (Same.upd ha) (by rw[qaS];exact qe)⟩
def spBent:Sp:=fun vs H Q _=>∃(c R S:Addr) (C:Cl) (rs us:List Addr) (n:Int),vs=[.ref c,.ref R,.ref S,.int n]/\ClAt H c C/\CvOk C/\H R=some (.lst (rs.map V.ref))/\AllT H rs/\rs.length<=100/\H S=some (.lst (us.map V.ref))/\AllI H us/\us.length<=250/\∀(r R' S':Addr) (rs' us':List Addr) (H':Hp),Same H H'->H' r=some (.tup [.ref R',.ref S'])->H' R'=some (.lst (rs'.map V.ref))->AllT H' rs'->rs'.length<=rs.length+1->H' S'=some (.lst (us'.map V.ref))->AllI H' us'->us'.length<=us.length+1->Q (.ref r) H'
theorem qcf (T:Txt mg cs)(L:Laid K mg "_law_bent" q1P ["_law_cave_here","_law_row_here","_law_stands","_law_cell"]):Cal P w K mg base 1 "_law_bent" ["_law_cave_here","_law_row_here","_law_stands","_law_cell"] spBent:=by
 refine L.cal (k:=0) q02 (fun vs H Q E h=>?_) (fun f cdv A outer s H vs Q E hr h=>?_)
 ·obtain ⟨c,R,S,C,rs,us,n,rfl,_⟩:=h
  rfl
 ·obtain ⟨c,R,S,C,rs,us,n,rfl,hC,cv,hrs,art,lr,hus,aus,lu,k⟩:=h
  have big:=qF
  have ok:=cv.ok
  have a5:=ok.r2
  have a6:=ok.r1
  obtain⟨pw,pt,pl,pv',h0,_⟩:=hC.ex
  obtain⟨ja,ea⟩:=zas (qW (n / 9*48271 % 1000003) (n:=(us.length:Int)+1) (by omega))
  obtain⟨jb,eb⟩:=zas (qW (n / 9*69621 % 1000033) (n:=(rs.length:Int)+1) (by omega))
  have ja1:ja<=us.length:=by have:=q04 (n / 9*48271 % 1000003) (n:=(us.length:Int)+1) (by omega);omega
  have jb1:jb<=rs.length:=by have:=q04 (n / 9*69621 % 1000033) (n:=(rs.length:Int)+1) (by omega);omega
  have finS:∀(S':Addr) (ss:List Addr) (H':Hp),Same H H'->H' S'=some (.lst (ss.map V.ref))->AllI H' ss->ss.length<=us.length+1->∀p,H' p=none->Q (.ref p) (upd H' p (.tup [.ref R,.ref S'])):=fun S' ss H' s hS a l p hp=>by
   have s2:=Same.upd (o:= .tup [.ref R,.ref S']) hp
   exact k p R S' rs ss _ (s.trans s2) qe ((s.trans s2) _ _ hrs) (art.mono (s.trans s2).ts) (by omega) (s2 _ _ hS) (a.mono s2.ts) l
  have finR:∀(R':Addr) (ss:List Addr) (H':Hp),Same H H'->H' R'=some (.lst (ss.map V.ref))->AllT H' ss->ss.length<=rs.length+1->∀p,H' p=none->Q (.ref p) (upd H' p (.tup [.ref R',.ref S])):=fun R' ss H' s hR a l p hp=>by
   have s2:=Same.upd (o:= .tup [.ref R',.ref S]) hp
   exact k p R' S ss us _ (s.trans s2) qe (s2 _ _ hR) (a.mono s2.ts) l ((s.trans s2) _ _ hus) (aus.mono (s.trans s2).ts) (by omega)
  have tk:∀j,∀p∈us.take j,p∈us:=fun j p hp=>zbR hp
  have dr:∀j,∀p∈us.drop j,p∈us:=fun j p hp=>List.mem_of_mem_drop hp
  have tkr:∀j,∀p∈rs.take j,p∈rs:=fun j p hp=>zbR hp
  have drr:∀j,∀p∈rs.drop j,p∈rs:=fun j p hp=>List.mem_of_mem_drop hp
  refine⟨_,(qg (qC (i:=4) q02.nd rfl (Or.inl rfl) (qk qI (pv 3) qc))
   (qg (qC (i:=5) q02.nd rfl (Or.inl rfl) (qk qI (qk qI (qk q4q (qk qU (pv 3) qc) qc) qc) (qk q03 (qD (lenK K) rfl T.ww q0i (qa (pv 2) qd)) qc)))
   (qg (qC (i:=6) q02.nd rfl (Or.inl rfl) (qk qI (qk qI (qk q4q (qk qU (pv 3) qc) qc) qc) (qk q03 (qD (lenK K) rfl T.ww q0i (qa (pv 1) qd)) qc)))
   (qg (qC (i:=3) q02.nd rfl (Or.inl rfl) (qk qU (pv 3) qc))
   (qg (qC (i:=7) q02.nd rfl (Or.inl rfl) (qz (qa (qk qI (pv 3) (qm (qj K) (pv 0) qc (fun _ _=>rfl))) (qa qc (qa qc (qa (qk qI (qk qU (pv 3) qc) qc) (qa (qk qI (qk qU (pv 3) qc) qc) qd)))))))
   (qg (qO (qw qS (pv 4) qc (qu _)) (qi (qp (qz (qa (pv 1) (qa (qk q0z (qE (qY K) (pv 2) qP (qH (pv 5))) (qE (qY K) (pv 2) (qH (qk q03 (pv 5) qc)) qP)) qd))))) qy)
   (qg (qO (qw qS (pv 4) qc (qu _)) (qi (qp (qz (qa (pv 1) (qa (qk q0z (qk q0z (qE (qY K) (pv 2) qP (qH (pv 5))) (q0p (qa (pv 7) qd))) (qE (qY K) (pv 2) (qH (pv 5)) qP)) qd))))) qy)
   (qg (qO (qw qS (pv 4) qc (qu _)) (qi (qp (qz (qa (pv 1) (qa (qk q0z (qk q0z (qE (qY K) (pv 2) qP (qH (pv 5))) (q0p (qa (qk (q0s K) (qz (qa (qm (qj K) (pv 0) qc (fun _ _=>rfl)) qd)) (qE (q0l K) (pv 7) (qH qc) qP)) qd))) (qE (qY K) (pv 2) (qH (qk q03 (pv 5) qc)) qP)) qd))))) qy)
   (qg (qO (qw qS (pv 4) qc (qu _)) (qg (qC (i:=8) q02.nd rfl (Or.inl rfl) (q0p (qa (qz (qa (qm (qj K) (pv 0) qc (fun _ _=>rfl)) (qa qc (qa qc (qa qc (qa qc qd)))))) (qa (qE (q0l K) (pv 7) qP (qH qc)) (qa (qk (q0s K) (qE (q0l K) (pv 7) qP (qH qc)) (qz (qa qc (qa qc qd)))) (qa (qk (q0s K) (qE (q0l K) (pv 7) qP (qH qc)) (qz (qa qc qd))) qd))))))
   (qg (qC (i:=8) q02.nd rfl (Or.inl rfl) (qk q0z (pv 8) (q0p (qa (qz (qa qc (qa qc (qa qc (qa qc (qa qc qd)))))) (qa (qz (qa qc (qa (pe_un qaY qc) (qa qc (qa qc (qa qc qd)))))) (qa (qk (q0s K) (qk (q0s K) (qE (q0l K) (pv 7) qP (qH qc)) (qz (qa (pe_un qaY qc) qd))) (qE (q0l K) (pv 7) (qH qc) qP)) qd))))))
   (qg (qC (i:=8) q02.nd rfl (Or.inl rfl) (qk q0z (pv 8) (q0p (qa (qk (q0s K) (qk (q0s K) (qE (q0l K) (pv 7) qP (qH qc)) (qz (qa (qk q2H qc (qk qI (qk qU (pv 3) qc) qc)) qd))) (qE (q0l K) (pv 7) (qH qc) qP)) (qa (qk (q0s K) (qk (q0s K) (qE (q0l K) (pv 7) qP (qH qc)) (qz (qa qc (qa qc qd)))) (qE (q0l K) (pv 7) (qH qc) qP)) qd)))))
   (qi (qp (qz (qa (pv 1) (qa (qk q0z (qk q0z (qE (qY K) (pv 2) qP (qH (pv 5))) (q0p (qa (qm (q0d K) (pv 8) (qk qI (pv 3) qc) (fun _ _=>rfl)) qd))) (qE (qY K) (pv 2) (qH (qk q03 (pv 5) (qk qI (qk qU (pv 3) qc) qc))) qP)) qd)))))))) qy)
   (qg (qO (qw qS (pv 4) qc (qu _)) (qi (qp (qz (qa (qk q0z (qE (qY K) (pv 1) qP (qH (pv 6))) (qE (qY K) (pv 1) (qH (qk q03 (pv 6) qc)) qP)) (qa (pv 2) qd))))) qy)
   (qg (qO (qw qS (pv 4) qc (qu _)) (qi (qp (qz (qa (qk q0z (qk q0z (qE (qY K) (pv 1) qP (qH (pv 6))) (qE (qY K) (pv 1) (qH (pv 6)) (qH (qk q03 (pv 6) qc)))) (qE (qY K) (pv 1) (qH (pv 6)) qP)) (qa (pv 2) qd))))) qy)
   (qg (qO (qw qS (pv 4) qc (qu _)) (qg (qC (i:=9) q02.nd rfl (Or.inl rfl) (qz (qa (qm (q0d K) (q0p (qa qM (qa qM (qa qM (qa qM (qa qM qd)))))) (qk qI (pv 3) qc) (fun _ _=>rfl)) (qa (qk qI (qk qU (pv 3) qc) qc) qd))))
   (qi (qp (qz (qa (qk q0z (qk q0z (qE (qY K) (pv 1) qP (qH (pv 6))) (q0p (qa (pv 9) qd))) (qE (qY K) (pv 1) (qH (qk q03 (pv 6) (qk qI (pv 3) qc))) qP)) (qa (pv 2) qd)))))) qy)
   (qg (qO (qw qS (pv 4) qc (qu _)) (qi (qp (qz (qa (pv 1) (qa (qk q0z (q8B K rfl rfl T.vM rfl T.vY (pv 2)) (qE (qY K) (pv 2) qP (qH qc))) qd))))) qy)
   (qi (qp (qz (qa (pv 1) (qa (pv 2) qd)))))))))))))))))),?_⟩
  walk_at "r"
  rw[yC]
  walk_at "r"
  rw[yC]
  walk_at "r"
  rw[ea,eb]
  intro t ht
  have s1:=Same.upd (o:= .tup [.int (n / 9 % C.rooms),.int 0,.int 0,.int (n / 9 / 5 % 256),.int (n / 9 / 1280 % 10)]) ht
  have t1:IAt (upd H t (.tup [.int (n / 9 % C.rooms),.int 0,.int 0,.int (n / 9 / 5 % 256),.int (n / 9 / 1280 % 10)])) t [n / 9 % C.rooms,0,0,n / 9 / 5 % 256,n / 9 / 1280 % 10]:=qe
  generalize upd H t (.tup [.int (n / 9 % C.rooms),.int 0,.int 0,.int (n / 9 / 5 % 256),.int (n / 9 / 1280 % 10)])=H1 at s1 t1 ⊢
  have b0:=qW (n / 9 / 9) (n:=21) (by decide)
  have b1:=q04 (n / 9 / 9) (n:=21) (by decide)
  generalize eA:n / 9 % C.rooms=A at t1 ⊢
  generalize eB:n / 9 / 5 % 256=B at t1 ⊢
  generalize eC:n / 9 / 1280 % 10=D at t1 ⊢
  have u1:=s1 _ _ hus
  have r1:=s1 _ _ hrs
  have c1:=s1 _ _ h0
  walk_at "r"
  refine ifd (fun g=>?_) (fun g=>?_)
  ·walk_at "r"
   refine q3v u1 ja fun a H2 s2 a2=>?_
   walk_at "r"
   refine q3Q (s2 _ _ u1) _ (ja+1) (by omega) fun b H3 s3 b3=>?_
   refine q0t (s3 _ _ a2) b3 (by rw[zD,zaz];omega) fun r H4 s4 r4=>?_
   have s14:=s1.trans (s2.trans (s3.trans s4))
   walk_at "r"
   exact finS r _ H4 s14 r4 (((aus.sub (tk ja)).app (aus.sub (dr (ja+1)))).mono s14.ts) (by rw[zx,zD,zaz];omega)
  walk_at "r"
  refine ifd (fun g=>?_) (fun g=>?_)
  ·walk_at "r"
   refine q3v u1 ja fun a H2 s2 a2=>?_
   walk_at "r"
   intro b hb
   have s3:=Same.upd (o:= .lst [.ref t]) hb
   have b3:upd H2 b (.lst [.ref t]) b=some (.lst ([t].map V.ref)):=qe
   generalize upd H2 b (.lst [.ref t])=H3 at s3 b3 ⊢
   refine q0t (s3 _ _ a2) b3 (by rw[zD];simp;omega) fun d H4 s4 d4=>?_
   walk_at "r"
   refine q3Q ((s2.trans (s3.trans s4)) _ _ u1) _ ja (by omega) fun b' H5 s5 b5=>?_
   refine q0t (s5 _ _ d4) b5 (by simp;omega) fun r H6 s6 r6=>?_
   have s26:=s2.trans (s3.trans (s4.trans (s5.trans s6)))
   have s16:=s1.trans s26
   walk_at "r"
   exact finS r _ H6 s16 r6 ((((aus.sub (tk ja)).mono s16.ts).app (AllI.one (t1.mono s26.ts) (.inr rfl))).app ((aus.sub (dr ja)).mono s16.ts)) (by simp;omega)
  walk_at "r"
  refine ifd (fun g=>?_) (fun g=>?_)
  ·walk_at "r"
   refine q3v u1 ja fun a H2 s2 a2=>?_
   have c2:=s2 _ _ c1
   walk_at "r"
   intro e he
   have s3:=Same.upd (o:= .tup [.int C.lst]) he
   have e3:upd H2 e (.tup [.int C.lst]) e=some (.tup (([C.lst]:List Int).map V.int)):=qe
   generalize upd H2 e (.tup [.int C.lst])=H3 at s3 e3 ⊢
   walk_at "r"
   refine q2i [0,0,B,D] ((s2.trans s3) _ _ t1) rfl fun f' H4 s4 f4=>?_
   refine q1m (s4 _ _ e3) f4 (by simp) (by simp) (by simp) fun g' H5 s5 g5=>?_
   walk_at "r"
   intro b hb
   have s6:=Same.upd (o:= .lst [.ref g']) hb
   have b6:upd H5 b (.lst [.ref g']) b=some (.lst ([g'].map V.ref)):=qe
   generalize upd H5 b (.lst [.ref g'])=H6 at s6 b6 ⊢
   have s36:=s3.trans (s4.trans (s5.trans s6))
   refine q0t (s36 _ _ a2) b6 (by rw[zD];simp;omega) fun d H7 s7 d7=>?_
   walk_at "r"
   refine q3Q ((s2.trans (s36.trans s7)) _ _ u1) _ (ja+1) (by omega) fun b' H8 s8 b8=>?_
   refine q0t (s8 _ _ d7) b8 (by simp;omega) fun r H9 s9 r9=>?_
   have s69:=s6.trans (s7.trans (s8.trans s9))
   have s19:=s1.trans (s2.trans (s3.trans (s4.trans (s5.trans s69))))
   walk_at "r"
   exact finS r _ H9 s19 r9 ((((aus.sub (tk ja)).mono s19.ts).app (AllI.one (st:=[C.lst,0,0,B,D]) (s69 _ _ g5) (.inr rfl))).app ((aus.sub (dr (ja+1))).mono s19.ts)) (by simp;omega)
  walk_at "r"
  refine ifd (fun g=>?_) (fun g=>?_)
  ·walk_at "r"
   have F:AllI H1 []:=fun p hp=>absurd hp (by simp)
   have S0:=s1
   intro p1 hp1
   generalize hG1:upd _ p1 _=H2
   have s2:=qT hG1 hp1
   have q1:IAt H2 p1 [C.rooms,0,0,0,0]:=qV hG1
   replace t1:=s2 _ _ t1
   replace S0:=S0.trans s2
   replace F:=(F.mono s2.ts).app (AllI.one q1 (.inr rfl))
   walk_at "r"
   refine q2i [A,0,0,B] t1 rfl fun p2 H3 s3 q2=>?_
   replace t1:=s3 _ _ t1
   replace S0:=S0.trans s3
   replace F:=(F.mono s3.ts).app (AllI.one q2 (.inl rfl))
   walk_at "r"
   refine q2i [A,0,0] t1 rfl fun p3 H4 s4 q3=>?_
   replace t1:=s4 _ _ t1
   replace S0:=S0.trans s4
   replace F:=F.mono s4.ts
   walk_at "r"
   intro p4 hp4
   generalize hG4:upd _ p4 _=H5
   have s5:=qT hG4 hp4
   have q4:IAt H5 p4 [256,0]:=qV hG4
   replace t1:=s5 _ _ t1
   replace S0:=S0.trans s5
   replace F:=F.mono s5.ts
   refine q1m (s5 _ _ q3) q4 (by simp) (by simp) (by simp) fun p5 H6 s6 q5=>?_
   replace t1:=s6 _ _ t1
   replace S0:=S0.trans s6
   replace F:=(F.mono s6.ts).app (AllI.one (st:=[A,0,0,256,0]) q5 (.inr rfl))
   walk_at "r"
   refine q2i [A,0,0,B] t1 rfl fun p6 H7 s7 q6=>?_
   replace t1:=s7 _ _ t1
   replace S0:=S0.trans s7
   replace F:=F.mono s7.ts
   walk_at "r"
   intro p7 hp7
   generalize hG7:upd _ p7 _=H8
   have s8:=qT hG7 hp7
   have q7:IAt H8 p7 [10]:=qV hG7
   replace t1:=s8 _ _ t1
   replace S0:=S0.trans s8
   replace F:=F.mono s8.ts
   refine q1m (s8 _ _ q6) q7 (by simp) (by simp) (by simp) fun p8 H9 s9 q8=>?_
   replace t1:=s9 _ _ t1
   replace S0:=S0.trans s9
   replace F:=(F.mono s9.ts).app (AllI.one (st:=[A,0,0,B,10]) q8 (.inr rfl))
   walk_at "r"
   intro l1 hl1
   generalize hG10:upd _ l1 _=H10
   have s10:=qT hG10 hl1
   have ql1:H10 l1=some (.lst ([p1,p2,p5,p8].map V.ref)):=qV hG10
   replace t1:=s10 _ _ t1
   replace S0:=S0.trans s10
   replace F:=F.mono s10.ts
   clear hG1 hG4 hG7 hG10
   walk_at "r"
   intro p9 hp9
   generalize hG11:upd _ p9 _=H11
   have s11:=qT hG11 hp9
   have q9:IAt H11 p9 [0,256,0,0,0]:=qV hG11
   replace t1:=s11 _ _ t1
   replace S0:=S0.trans s11
   replace ql1:=s11 _ _ ql1
   replace F:=(F.mono s11.ts).app (AllI.one q9 (.inr rfl))
   walk_at "r"
   intro p10 hp10
   generalize hG12:upd _ p10 _=H12
   have s12:=qT hG12 hp10
   have q10:IAt H12 p10 [0,-1,0,0,0]:=qV hG12
   replace t1:=s12 _ _ t1
   replace S0:=S0.trans s12
   replace ql1:=s12 _ _ ql1
   replace F:=(F.mono s12.ts).app (AllI.one q10 (.inr rfl))
   walk_at "r"
   refine q2i [A,0] t1 rfl fun p11 H13 s13 q11=>?_
   replace t1:=s13 _ _ t1
   replace S0:=S0.trans s13
   replace ql1:=s13 _ _ ql1
   replace F:=F.mono s13.ts
   walk_at "r"
   intro p12 hp12
   generalize hG14:upd _ p12 _=H14
   have s14:=qT hG14 hp12
   have q12:IAt H14 p12 [-1]:=qV hG14
   replace t1:=s14 _ _ t1
   replace S0:=S0.trans s14
   replace ql1:=s14 _ _ ql1
   replace F:=F.mono s14.ts
   refine q1m (s14 _ _ q11) q12 (by simp) (by simp) (by simp) fun p13 H15 s15 q13=>?_
   replace t1:=s15 _ _ t1
   replace S0:=S0.trans s15
   replace ql1:=s15 _ _ ql1
   replace F:=F.mono s15.ts
   walk_at "r"
   refine q2i [B,D] t1 rfl fun p14 H16 s16 q14=>?_
   replace t1:=s16 _ _ t1
   replace S0:=S0.trans s16
   replace ql1:=s16 _ _ ql1
   replace F:=F.mono s16.ts
   refine q1m (s16 _ _ q13) q14 (by simp) (by simp) (by simp) fun p15 H17 s17 q15=>?_
   replace t1:=s17 _ _ t1
   replace S0:=S0.trans s17
   replace ql1:=s17 _ _ ql1
   replace F:=(F.mono s17.ts).app (AllI.one (st:=[A,0,-1,B,D]) q15 (.inr rfl))
   clear hG11 hG12 hG14
   walk_at "r"
   intro l2 hl2
   generalize hG18:upd _ l2 _=H18
   have s18:=qT hG18 hl2
   have ql2:H18 l2=some (.lst ([p9,p10,p15].map V.ref)):=qV hG18
   replace t1:=s18 _ _ t1
   replace S0:=S0.trans s18
   replace F:=F.mono s18.ts
   refine q0t (s18 _ _ ql1) ql2 (by simp) fun l3 H19 s19 ql3=>?_
   replace t1:=s19 _ _ t1
   replace S0:=S0.trans s19
   replace F:=F.mono s19.ts
   walk_at "r"
   refine q2i [A,0] t1 rfl fun p16 H20 s20 q16=>?_
   replace t1:=s20 _ _ t1
   replace S0:=S0.trans s20
   replace ql3:=s20 _ _ ql3
   replace F:=F.mono s20.ts
   walk_at "r"
   intro p17 hp17
   generalize hG21:upd _ p17 _=H21
   have s21:=qT hG21 hp17
   have q17:IAt H21 p17 [1*2 ^ (n / 9 / 9 % 21).toNat]:=qV hG21
   replace t1:=s21 _ _ t1
   replace S0:=S0.trans s21
   replace ql3:=s21 _ _ ql3
   replace F:=F.mono s21.ts
   refine q1m (s21 _ _ q16) q17 (by simp) (by simp) (by simp) fun p18 H22 s22 q18=>?_
   replace t1:=s22 _ _ t1
   replace S0:=S0.trans s22
   replace ql3:=s22 _ _ ql3
   replace F:=F.mono s22.ts
   walk_at "r"
   refine q2i [B,D] t1 rfl fun p19 H23 s23 q19=>?_
   replace t1:=s23 _ _ t1
   replace S0:=S0.trans s23
   replace ql3:=s23 _ _ ql3
   replace F:=F.mono s23.ts
   refine q1m (s23 _ _ q18) q19 (by simp) (by simp) (by simp) fun p20 H24 s24 q20=>?_
   replace t1:=s24 _ _ t1
   replace S0:=S0.trans s24
   replace ql3:=s24 _ _ ql3
   replace F:=(F.mono s24.ts).app (AllI.one q20 (.inr rfl))
   walk_at "r"
   refine q2i [A] t1 rfl fun p21 H25 s25 q21=>?_
   replace t1:=s25 _ _ t1
   replace S0:=S0.trans s25
   replace ql3:=s25 _ _ ql3
   replace F:=F.mono s25.ts
   walk_at "r"
   intro p22 hp22
   generalize hG26:upd _ p22 _=H26
   have s26:=qT hG26 hp22
   have q22:IAt H26 p22 [3,1]:=qV hG26
   replace t1:=s26 _ _ t1
   replace S0:=S0.trans s26
   replace ql3:=s26 _ _ ql3
   replace F:=F.mono s26.ts
   refine q1m (s26 _ _ q21) q22 (by simp) (by simp) (by simp) fun p23 H27 s27 q23=>?_
   replace t1:=s27 _ _ t1
   replace S0:=S0.trans s27
   replace ql3:=s27 _ _ ql3
   replace F:=F.mono s27.ts
   walk_at "r"
   refine q2i [B,D] t1 rfl fun p24 H28 s28 q24=>?_
   replace t1:=s28 _ _ t1
   replace S0:=S0.trans s28
   replace ql3:=s28 _ _ ql3
   replace F:=F.mono s28.ts
   refine q1m (s28 _ _ q23) q24 (by simp) (by simp) (by simp) fun p25 H29 s29 q25=>?_
   replace t1:=s29 _ _ t1
   replace S0:=S0.trans s29
   replace ql3:=s29 _ _ ql3
   replace F:=(F.mono s29.ts).app (AllI.one q25 (.inr rfl))
   clear hG18 hG21 hG26
   walk_at "r"
   intro l4 hl4
   generalize hG30:upd _ l4 _=H30
   have s30:=qT hG30 hl4
   have ql4:H30 l4=some (.lst ([p20,p25].map V.ref)):=qV hG30
   replace S0:=S0.trans s30
   replace F:=F.mono s30.ts
   refine q0t (s30 _ _ ql3) ql4 (by simp) fun l5 H31 s31 ql5=>?_
   replace S0:=S0.trans s31
   replace F:=F.mono s31.ts
   walk_at "r"
   refine q3v (S0 _ _ hus) ja fun a H32 s32 a32=>?_
   replace S0:=S0.trans s32
   replace F:=F.mono s32.ts
   replace ql5:=s32 _ _ ql5
   clear hG30
   obtain⟨j,hj,ej,aj⟩:=qbo (xs:=([p1,p2,p5,p8]++[p9,p10,p15]++[p20,p25]).map V.ref) (i:=n / 9 % 9) (qW _ (by decide)) (by have:=q04 (n / 9) (n:=9) (by decide);simpa using this)
   rw[List.getElem_map] at aj
   have hin:([p1,p2,p5,p8]++[p9,p10,p15]++[p20,p25])[j]'(by simpa using hj)∈[p1,p2,p5,p8]++[p9,p10,p15]++[p20,p25]:=zL _
   generalize ([p1,p2,p5,p8]++[p9,p10,p15]++[p20,p25])[j]'(by simpa using hj)=px at aj hin
   have Fx:AllI H32 [px]:=F.sub fun q hq=>by rw[zA.mp hq];simpa using hin
   walk_at "r"
   intro b hb
   have s33:=Same.upd (o:= .lst [.ref px]) hb
   have b33:upd H32 b (.lst [.ref px]) b=some (.lst ([px].map V.ref)):=qe
   generalize upd H32 b (.lst [.ref px])=H33 at s33 b33 ⊢
   refine q0t (s33 _ _ a32) b33 (by rw[zD];simp;omega) fun d H34 s34 d34=>?_
   obtain⟨mc,ec⟩:=zas (qW (n / 9 / 9) (n:=2) (by decide))
   walk_at "r"
   refine q3Q ((S0.trans (s33.trans s34)) _ _ hus) _ (ja+mc) (by omega) fun b' H35 s35 b35=>?_
   refine q0t (s35 _ _ d34) b35 (by simp;omega) fun r H36 s36 r36=>?_
   have s3236:=s33.trans (s34.trans (s35.trans s36))
   have s036:=S0.trans s3236
   walk_at "r"
   exact finS r _ H36 s036 r36 ((((aus.sub (tk ja)).mono s036.ts).app (Fx.mono s3236.ts)).app ((aus.sub (dr (ja+mc))).mono s036.ts)) (by simp;omega)
  walk_at "r"
  refine ifd (fun g=>?_) (fun g=>?_)
  ·walk_at "r"
   refine q3v r1 jb fun a H2 s2 a2=>?_
   walk_at "r"
   refine q3Q (s2 _ _ r1) _ (jb+1) (by omega) fun b H3 s3 b3=>?_
   refine q0t (s3 _ _ a2) b3 (by rw[zD,zaz];omega) fun r H4 s4 r4=>?_
   walk_at "r"
   have s14:=s1.trans (s2.trans (s3.trans s4))
   exact finR r _ H4 s14 r4 (((art.sub (tkr jb)).app (art.sub (drr (jb+1)))).mono s14.ts) (by rw[zx,zD,zaz];omega)
  walk_at "r"
  refine ifd (fun g=>?_) (fun g=>?_)
  ·walk_at "r"
   refine q3v r1 jb fun a H2 s2 a2=>?_
   walk_at "r"
   refine r_slMd (s2 _ _ r1) _ _ jb (jb+1) rfl (by omega) fun b H3 s3 b3=>?_
   refine q0t (s3 _ _ a2) b3 (by rw[zD,zD,zaz];omega) fun d H4 s4 d4=>?_
   walk_at "r"
   refine q3Q ((s2.trans (s3.trans s4)) _ _ r1) _ jb rfl fun b' H5 s5 b5=>?_
   refine q0t (s5 _ _ d4) b5 (by simp;omega) fun r H6 s6 r6=>?_
   have s16:=s1.trans (s2.trans (s3.trans (s4.trans (s5.trans s6))))
   walk_at "r"
   exact finR r _ H6 s16 r6 ((((art.sub (tkr jb)).app (art.sub fun p hp=>drr _ p (zbR hp))).app (art.sub (drr jb))).mono s16.ts) (by simp;omega)
  walk_at "r"
  refine ifd (fun g=>?_) (fun g=>?_)
  ·walk_at "r"
   intro p hp
   have s2:=Same.upd (o:= .lst [.str "go",.str "take",.str "pull",.str "unlock",.str "turn"]) hp
   have p2:=qe (H:=H1) (a:=p) (o:= .lst [.str "go",.str "take",.str "pull",.str "unlock",.str "turn"])
   generalize upd H1 p (.lst [.str "go",.str "take",.str "pull",.str "unlock",.str "turn"])=H2 at s2 p2 ⊢
   obtain⟨d,hd⟩:∃d:Wd,atI [V.str "go",.str "take",.str "pull",.str "unlock",.str "turn"] (n / 9 % 5)=some (.str d.str):=by
    have m0:=qW (n / 9) (n:=5) (by decide)
    have m1:=q04 (n / 9) (n:=5) (by decide)
    rcases(show n / 9 % 5=((0:Nat):Int)\/n / 9 % 5=((1:Nat):Int)\/n / 9 % 5=((2:Nat):Int)\/n / 9 % 5=((3:Nat):Int)\/n / 9 % 5=((4:Nat):Int) by omega) with e|e|e|e|e<;>rw[e]
    ·exact ⟨.go,q0r rfl⟩
    ·exact ⟨.take,q0r rfl⟩
    ·exact ⟨.pull,q0r rfl⟩
    ·exact ⟨.unlock,q0r rfl⟩
    ·exact ⟨.turn,q0r rfl⟩
   obtain⟨m,em⟩:=zas (qW (n / 9 / 5) (n:=9) (by decide))
   have m9:m<=1000:=by have:=q04 (n / 9 / 5) (n:=9) (by decide);omega
   obtain⟨mc,ec⟩:=zas (qW (n / 9) (n:=2) (by decide))
   walk_at "r"
   rw[em]
   intro f0 hf0
   have s3:=Same.upd (o:= .tup [.str d.str,.int (m:Int)]) hf0
   have f3:TAt (upd H2 f0 (.tup [.str d.str,.int (m:Int)])) f0 (d,m):=qe
   generalize upd H2 f0 (.tup [.str d.str,.int (m:Int)])=H3 at s3 f3 ⊢
   walk_at "r"
   refine q3v ((s2.trans s3) _ _ r1) jb fun a H4 s4 a4=>?_
   walk_at "r"
   intro b hb
   have s5:=Same.upd (o:= .lst [.ref f0]) hb
   have b5:upd H4 b (.lst [.ref f0]) b=some (.lst ([f0].map V.ref)):=qe
   generalize upd H4 b (.lst [.ref f0])=H5 at s5 b5 ⊢
   refine q0t (s5 _ _ a4) b5 (by rw[zD];simp;omega) fun e H6 s6 e6=>?_
   walk_at "r"
   have s36:=s4.trans (s5.trans s6)
   refine q3Q ((s2.trans (s3.trans s36)) _ _ r1) _ (jb+mc) (by omega) fun b' H7 s7 b7=>?_
   refine q0t (s7 _ _ e6) b7 (by simp;omega) fun r H8 s8 r8=>?_
   have s38:=s36.trans (s7.trans s8)
   have s18:=s1.trans (s2.trans (s3.trans s38))
   walk_at "r"
   exact finR r _ H8 s18 r8 ((((art.sub (tkr jb)).mono s18.ts).app fun q hq=>by rw[zA.mp hq];exact⟨(d,m),TAt.mono s38.ts f3,m9⟩).app ((art.sub (drr (jb+mc))).mono s18.ts)) (by simp;omega)
  walk_at "r"
  refine ifd (fun g=>?_) (fun g=>?_)
  ·walk_at "r"
   refine⟨S,_,rfl,SqL.of u1,fun a ha=>?_⟩
   have s2:=Same.upd (o:= .lst (us.map V.ref).reverse) ha
   have a2:upd H1 a (.lst (us.map V.ref).reverse) a=some (.lst (us.reverse.map V.ref)):=by rw[List.map_reverse];exact qe
   generalize upd H1 a (.lst (us.map V.ref).reverse)=H2 at s2 a2 ⊢
   walk_at "r"
   refine q3v (s2 _ _ u1) 1 fun b H3 s3 b3=>?_
   refine q0t (s3 _ _ a2) b3 (by simp;omega) fun r H4 s4 r4=>?_
   have s14:=s1.trans (s2.trans (s3.trans s4))
   walk_at "r"
   exact finS r _ H4 s14 r4 (((aus.sub fun p hp=>zcm.mp hp).app (aus.sub (tk 1))).mono s14.ts) (by simp;omega)
  walk_at "r"
  exact finS S us H1 s1 u1 (aus.mono s1.ts) (by omega)
def qby:Sp:=fun vs H Q _=>∃(c R S:Addr) (C:Cl) (rs us:List Addr),vs=[.ref c,.ref R,.ref S]/\ClAt H c C/\CvOk C/\H R=some (.lst (rs.map V.ref))/\AllT H rs/\rs.length<=300/\H S=some (.lst (us.map V.ref))/\AllI H us/\us.length<=300/\∀H',Same H H'->Q (.bl true) H'
theorem q6Y {K:W.Frag}{n:Nat}{H:Hp}{Q:VK}{a b:Addr}{ps:List Addr}(ha:H a=some (.lst (ps.map V.ref)))(hb:H b=some (.lst (ps.map V.ref)))(k:Q (.bl false) H):rNeD K n (.ref a) (.ref b) H Q:=by
 refine .inl ⟨a,b,ps.map V.ref,ps.map V.ref,fun _=>true,rfl,rfl,SqL.of ha,SqL.of hb,rfl,fun j hj _=>?_,?_⟩
 ·rw [yC] at hj
  rw[zaw,zN,yB hj]
  exact .same _
 ·rw [show((List.range (ps.map V.ref).length).all fun _=>true)=true from zaB.mpr fun _ _=>rfl]
  exact k
theorem qaj (T:Txt mg cs)(L:Laid K mg "_law_right" q1t ["_law_cave_here","_law_row_here","_law_stands"])(vk:Cal P w K mg base 10 "shows_stuck" ["cellar","way","stands"] q6P)(vI:Cal P w K mg base 5 "_law_due" ["_law_cave_here","_law_row_here","_law_stands"] q6P):Cal P w K mg base 11 "_law_right" ["_law_cave_here","_law_row_here","_law_stands"] qby:=by
 refine L.cal (k:=10) q0X (fun vs H Q E h=>?_) (fun f cdv A outer s H vs Q E hr h=>?_)
 ·obtain ⟨c,R,S,C,rs,us,rfl,_⟩:=h
  rfl
 ·obtain ⟨c,R,S,C,rs,us,rfl,hC,cv,hrs,art,lr,hus,aus,lu,k⟩:=h
  have big:=qF
  obtain⟨ds,rrs,sm⟩:=q6n art
  obtain⟨sts,rus,gl⟩:=q6n aus
  have lu':us.length=sts.length:=rus.1
  refine⟨_,(qg (qC (i:=3) q0X.nd rfl (Or.inl rfl) (q0y (qbc K) rfl T.vM q4Y (qa (pv 1) qd)))
   (qg (qC (i:=4) q0X.nd rfl (Or.inl rfl) (q0y (qbc K) rfl T.vM q4Y (qa (pv 2) qd)))
   (qg (qC (i:=5) q0X.nd rfl (Or.inl rfl) (qB vk hr (by decide) rfl (qa (pv 0) (qa (pv 3) (qa (pv 4) qd)))))
   (qg (qO (PW.pt (q2O (qw (q71 K 1 (q3Y hr)) (pv 3) (pv 1) (qu _)) (q2j (qw (q71 K 1 (q3Y hr)) (pv 4) (pv 2) (qu _))))) (qi (qp q1D)) qy)
   (qi (qp (q2G (qD q44 rfl T.va q2f (qa (pv 5) (qa (q6q (v:= .ty "bool") rfl T.waU q9D rfl) qd))) (q2F (qR qS (pv 5) (qB vI hr (by decide) rfl (qa (pv 0) (qa (pv 1) (qa (pv 2) qd)))) (qu _)))))))))),?_⟩
  walk_at "r"
  refine⟨R,_,rfl,.inl (SqL.of hrs),fun R2 hR2=>?_⟩
  have s1:=Same.upd (o:= .lst (rs.map V.ref)) hR2
  have r1:=qe (H:=H) (a:=R2) (o:= .lst (rs.map V.ref))
  generalize upd H R2 (.lst (rs.map V.ref))=H1 at s1 r1 ⊢
  walk_at "r"
  refine⟨S,_,rfl,.inl (SqL.of (s1 _ _ hus)),fun S2 hS2=>?_⟩
  have s2:=Same.upd (o:= .lst (us.map V.ref)) hS2
  have u2:=qe (H:=H1) (a:=S2) (o:= .lst (us.map V.ref))
  generalize upd H1 S2 (.lst (us.map V.ref))=H2 at s2 u2 ⊢
  have s02:=s1.trans s2
  walk_at "r"
  refine⟨c,R2,S2,C,ds,sts,rfl,hC.mono s02.ts,cv,⟨rs,s2 _ _ r1,rrs.mono fun _ _ h=>TAt.mono s02.ts h⟩,sm,⟨us,u2,rus.mono fun _ _ h=>IAt.mono s02.ts h⟩,by omega,gl,fun H3 s3=>?_⟩
  have s03:=s02.trans s3
  walk_at "r"
  refine q6Y ((s2.trans s3) _ _ r1) (s03 _ _ hrs) ?_
  walk_at "r"
  refine q6Y (s3 _ _ u2) (s03 _ _ hus) ?_
  walk_at "r"
  refine⟨c,R,S,C,ds,sts,rfl,hC.mono s03.ts,cv,⟨rs,s03 _ _ hrs,rrs.mono fun _ _ h=>TAt.mono s03.ts h⟩,sm,⟨us,s03 _ _ hus,rus.mono fun _ _ h=>IAt.mono s03.ts h⟩,by omega,gl,fun H4 s4=>?_⟩
  walk_at "r"
  rw[zr rfl]
  exact k H4 (s03.trans s4)
end
section
variable {P:Program}{w:World}{K:W.Frag}{mg:Str->Option Value}{base:Heap}{xs:Xs}{cs:Cs}
theorem ok_law {f:Addr}{fd:FuncData}(F:Fun K "law" "law" q9U f fd)(T:Txt mg cs)(TC:Tcl K cs)(TX:Tx K mg xs)(wcj:Laid K mg "_wall" q8g ["k"])(wbS:Laid K mg "within" q3E ["number","least","most"])(wbA:Laid K mg "has_bit" q2Y ["bits","place"])(wby:Laid K mg "changed" q31 ["parts","place","part"])(wbP:Laid K mg "gate_of" q2Z ["gate"])(wbZ:Laid K mg "start" q4N ["cellar"])(wca:Laid K mg "held" q6S ["cellar","stand"])(wbt:Laid K mg "is_stand" q2u ["cellar","thing"])(wav:Laid K mg "has_bits_of" q0Y ["bits","all_bits"])(waY:Laid K mg "thing_bits" q1s ["cellar"])(wbl:Laid K mg "door_bits" q1l ["cellar"])(waV:Laid K mg "door_kinds" q0U ["cellar"])(wba:Laid K mg "can_enter" q1L ["way","room"])(wbF:Laid K mg "deed_of" q30 ["deed"])(wbV:Laid K mg "behind" q3G ["cellar","stand","deed"])(wb0:Laid K mg "leads" q3P ["cellar","stand"])(wbb:Laid K mg "fit_deeds" q1k ["cellar","stand"])(wbo:Laid K mg "all_goes" q1F ["cellar"])(wbm:Laid K mg "all_deeds" q0n ["cellar"])(wau:Laid K mg "shows_stuck" q0H ["cellar","way","stands"])(wbW:Laid K mg "end_of" q3F ["cellar","way"])(wax:Laid K mg "stays_among" q0G ["cellar","known","stand"])(wag:Laid K mg "_law_cell_at" q0P ["_law_script","_law_k"])(wah:Laid K mg "_law_numbers" q0O ["_law_script","_law_first","_law_total"])(wbe:Laid K mg "_law_gate" q1O ["_law_number","_law_base"])(wa2:Laid K mg "_law_great" q0V ["_law_numbers_here"])(wbi:Laid K mg "_law_cave" q0M ["_law_script"])(waE:Laid K mg "_law_amount" q1a ["_law_cave_here","_law_stand","_law_kind"])(wbn:Laid K mg "_law_lets" q1N ["_law_cave_here","_law_stand","_law_k"])(wal:Laid K mg "_law_by_ways" q0Q ["_law_cave_here","_law_stand"])(wbg:Laid K mg "_law_next" q1M ["_law_cave_here","_law_stand"])(waJ:Laid K mg "_law_coming" q0Z ["_law_cave_here","_law_stand","_law_most"])(wbu:Laid K mg "_law_row" q2v ["_law_cave_here","_law_numbers_here"])(waa:Laid K mg "_law_is_stand" q0o ["_law_cave_here","_law_stand"])(wbq:Laid K mg "_law_due" q1h ["_law_cave_here","_law_row_here","_law_stands"])(wbf:Laid K mg "_law_bent" q1P ["_law_cave_here","_law_row_here","_law_stands","_law_cell"])(waT:Laid K mg "_law_right" q1t ["_law_cave_here","_law_row_here","_law_stands"])(waw:LaidM K cs.Plain "lets" "Plain.lets" q1u ["self","held","opened","bars","water"])(wb9:LaidM K cs.Plain "told" "Gate.told" qZ ["self"])(wbU:LaidI K mg "Plain" cs.Plain "Plain.__init__" q1v ["self"])(waS:LaidM K cs.Door "lets" "Door.lets" q2a ["self","held","opened","bars","water"])(wcd:LaidM K cs.Door "told" "Gate.told" qZ ["self"])(wb4:LaidI K mg "Door" cs.Door "Door.__init__" q2b ["self","kind"])(wa8:LaidM K cs.Need "lets" "Need.lets" q27 ["self","held","opened","bars","water"])(wcc:LaidM K cs.Need "told" "Gate.told" qZ ["self"])(wb3:LaidI K mg "Need" cs.Need "Need.__init__" q28 ["self","kind"])(wbd:LaidM K cs.Bar "lets" "Bar.lets" q2w ["self","held","opened","bars","water"])(wcg:LaidM K cs.Bar "told" "Gate.told" qZ ["self"])(wce:LaidI K mg "Bar" cs.Bar "Bar.__init__" q2x ["self","bar"])(wa6:LaidM K cs.Wade "lets" "Wade.lets" q1Q ["self","held","opened","bars","water"])(wcb:LaidM K cs.Wade "told" "Gate.told" qZ ["self"])(wb5:LaidI K mg "Wade" cs.Wade "Wade.__init__" q1R ["self","height","kind"])(waM:LaidM K cs.Float "lets" "Float.lets" q1w ["self","held","opened","bars","water"])(wb8:LaidM K cs.Float "told" "Gate.told" qZ ["self"])(wbT:LaidI K mg "Float" cs.Float "Float.__init__" q1x ["self","height"])(wbO:LaidM K cs.Go "can" "Deed.can" q09 ["self","cellar","stand"])(wbs:LaidM K cs.Go "done" "Go.done" q34 ["self","cellar","stand"])(wbw:LaidM K cs.Go "fits" "Go.fits" q33 ["self","cellar","stand"])(wad:LaidM K cs.Go "own_part" "Deed.own_part" qJ ["self","cellar"])(wbv:LaidM K cs.Go "told" "Deed.told" q00 ["self"])(wci:LaidI K mg "Go" cs.Go "Go.__init__" q32 ["self","number"])(wbj:LaidM K cs.Pull "can" "Deed.can" q09 ["self","cellar","stand"])(wa3:LaidM K cs.Pull "done" "Pull.done" q26 ["self","cellar","stand"])(wa5:LaidM K cs.Pull "fits" "Pull.fits" q1Z ["self","cellar","stand"])(vS:LaidM K cs.Pull "own_part" "Deed.own_part" qJ ["self","cellar"])(wa1:LaidM K cs.Pull "told" "Deed.told" q00 ["self"])(wb6:LaidI K mg "Pull" cs.Pull "Pull.__init__" q1Y ["self","number"])(wbk:LaidM K cs.Take "can" "Deed.can" q09 ["self","cellar","stand"])(wa0:LaidM K cs.Take "done" "Take.done" q1X ["self","cellar","stand"])(wa7:LaidM K cs.Take "fits" "Take.fits" q1W ["self","cellar","stand"])(vR:LaidM K cs.Take "own_part" "Deed.own_part" qJ ["self","cellar"])(waW:LaidM K cs.Take "told" "Deed.told" q00 ["self"])(wb2:LaidI K mg "Take" cs.Take "Take.__init__" q1V ["self","number"])(wa9:LaidM K cs.Turn "can" "Deed.can" q09 ["self","cellar","stand"])(waR:LaidM K cs.Turn "done" "Turn.done" q1U ["self","cellar","stand"])(waP:LaidM K cs.Turn "fits" "Turn.fits" q1T ["self","cellar","stand"])(vT:LaidM K cs.Turn "own_part" "Deed.own_part" qJ ["self","cellar"])(waX:LaidM K cs.Turn "told" "Deed.told" q00 ["self"])(wb1:LaidI K mg "Turn" cs.Turn "Turn.__init__" q1S ["self","number"])(waz:LaidM K cs.Unlock "can" "Deed.can" q09 ["self","cellar","stand"])(waf:LaidM K cs.Unlock "done" "Unlock.done" q1d ["self","cellar","stand"])(wai:LaidM K cs.Unlock "fits" "Unlock.fits" q1c ["self","cellar","stand"])(vJ:LaidM K cs.Unlock "own_part" "Deed.own_part" qJ ["self","cellar"])(wak:LaidM K cs.Unlock "told" "Deed.told" q00 ["self"])(wbJ:LaidI K mg "Unlock" cs.Unlock "Unlock.__init__" q1b ["self","number"])(wbD:LaidX K mg "NoDeed" xs.NoDeed "NoDeed.__init__" q1e ["self","stand","deed"])(waQ:LaidC K mg "Deed" "__init__" "Deed.__init__" q2c ["self","word","number","part"])(wa4:LaidC K mg "Gate" "__init__" "Gate.__init__" q29 ["self","word","numbers"]):FnOk P w K mg base CX0 13 f fd ["_law_script"] (q9P K):=by
 have wg:Cal P w K mg base 1 "has_bit" ["bits","place"] q6h:=q7x T wbA
 have wy:Cal P w K mg base 1 "within" ["number","least","most"] q2W:=q8I T wbS
 have wM:Cal P w K mg base 1 "can_enter" ["way","room"] q4F:=qap T wba
 have wj:Cal P w K mg base 1 "changed" ["parts","place","part"] q6f:=q7A T wby
 have wJ:Cal P w K mg base 1 "door_kinds" ["cellar"] spDk:=ok_dk T waV
 have w8:Cal P w K mg base 2 "held" ["cellar","stand"] q5m:=qcb T wca wg wJ
 have wb:CCal P w K mg base 1 "Gate" "__init__" ["self","word","numbers"] (q2m K):=qan T wa4
 have wN:Makes P w K mg base 2 "Plain" cs.Plain ["self"] (spMk cs "plain"):=qav T TC wbU wb
 have wV:Makes P w K mg base 2 "Door" cs.Door ["self","kind"] (spMk cs "door"):=qco T TC wb4 wb
 have wU:Makes P w K mg base 2 "Need" cs.Need ["self","kind"] (spMk cs "need"):=qcn T TC wb3 wb
 have vi:Makes P w K mg base 2 "Bar" cs.Bar ["self","bar"] (spMk cs "bar"):=mk_bar T TC wce wb
 have wT:Makes P w K mg base 2 "Wade" cs.Wade ["self","height","kind"] (spMk cs "wade"):=qcj T TC wb5 wb
 have wL:Makes P w K mg base 2 "Float" cs.Float ["self","height"] (spMk cs "float"):=qaw T TC wbT wb
 have vK:Cal P w K mg base 4 "gate_of" ["gate"] (qbz cs):=q7y T wbP wN wV wU vi wT wL
 have vl:∀g:Gt,VMeth P w K mg base 2 (q9q cs g) "lets" ["self","held","opened","bars","water"] (q3r cs g.word):=fun g=>by
  cases g
  ·exact q4y T TC waw
  ·exact q58 T TC waS
  ·exact q57 T TC wa8
  ·exact q6a T TC wbd wg
  ·exact q56 T TC wa6
  ·exact q4z T TC waM
 have wf:CCal P w K mg base 1 "Deed" "__init__" ["self","word","number","part"] (q2N K):=qaq T waQ
 have wS:Makes P w K mg base 2 "Go" cs.Go ["self","number"] (q1r cs .go):=mk_go T TC wci wf
 have wE:Makes P w K mg base 2 "Pull" cs.Pull ["self","number"] (q1r cs .pull):=qcm T TC wb6 wf
 have wF:Makes P w K mg base 2 "Take" cs.Take ["self","number"] (q1r cs .take):=qcl T TC wb2 wf
 have wH:Makes P w K mg base 2 "Turn" cs.Turn ["self","number"] (q1r cs .turn):=qck T TC wb1 wf
 have wu:Makes P w K mg base 2 "Unlock" cs.Unlock ["self","number"] (q1r cs .unlock):=q8M T TC wbJ wf
 have vo:∀d,VMeth P w K mg base 1 (dcls cs d) "own_part" ["self","cellar"] (q4a cs d):=fun d=>by
  have D:=q2L TC d
  cases d
  ·exact q55 wad D
  ·exact q55 vS D
  ·exact q55 vR D
  ·exact q55 vT D
  ·exact q55 vJ D
 have vf:∀d,VMeth P w K mg base 5 (dcls cs d) "fits" ["self","cellar","stand"] (q3N cs d):=fun d=>by
  have D:=q2L TC d
  have v:=vo d
  cases d
  ·exact q7h T D wbw v wM wg vK vl w8
  ·exact q5b T D wa5 v
  ·exact q5a T D wa7 v wg
  ·exact q59 T D waP v
  ·exact q48 T D wai v wM wg w8
 have vc:∀d,VMeth P w K mg base 6 (dcls cs d) "can" ["self","cellar","stand"] (q9R cs d):=fun d=>by
  have D:=q2L TC d
  have v:=vf d
  cases d
  ·exact q5f T wbO D wy v
  ·exact q5f T wbj D wy v
  ·exact q5f T wbk D wy v
  ·exact q5f T wa9 D wy v
  ·exact q5f T waz D wy v
 have vd:∀d,VMeth P w K mg base 2 (dcls cs d) "done" ["self","cellar","stand"] (q3s cs d):=fun d=>by
  have D:=q2L TC d
  have v:=vo d
  cases d
  ·exact q7i T D wbs v wj
  ·exact q5e T D wa3 v wj
  ·exact q5d T D wa0 wj
  ·exact q5c T D waR v wj
  ·exact q49 T D waf wj
 have vt:∀d,VMeth P w K mg base 1 (dcls cs d) "told" ["self"] (q6e cs d):=fun d=>by
  have D:=q2L TC d
  cases d
  ·exact q2S wbv D
  ·exact q2S wa1 D
  ·exact q2S waW D
  ·exact q2S waX D
  ·exact q2S wak D
 have wab:Cal P w K mg base 1 "start" ["cellar"] q6c:=qai T wbZ
 have vG:Cal P w K mg base 4 "all_goes" ["cellar"] (q89 cs):=qcd T wbo wS
 have vF:Cal P w K mg base 5 "all_deeds" ["cellar"] (q8c cs):=qcg T wbm vG wE wF wH wu
 have vE:Cal P w K mg base 7 "fit_deeds" ["cellar","stand"] (q8a cs):=qce T wbb vF vc
 have wac:=qal T wb0 vE vt vd
 have wW:=qcc T wav wy
 have vA:=qah (P:=P) (w:=w) (base:=base) T waY
 have vD:=qar T wbl wJ
 have vH:=qca T wbt wy wW vA vD w8
 have vL:Cal P w K mg base 4 "deed_of" ["deed"] (qbA cs):=q7z T wbF wS wE wF wH wu
 have wc:=q8N (P:=P) (w:=w) (base:=base) T TX wbD
 have vV:=q7B (P:=P) (w:=w) (base:=base) T TX wbV wc vL vc vd
 have vU:=ok_end T TX wbW wab vV
 have vn:=qc6 T wax vH wac
 have vk:=qc7 T wau vU vn
 have wr:=qas (P:=P) (w:=w) (base:=base) T wag
 have wR:=qc8 T wah wr
 have wO:=qao (P:=P) (w:=w) (base:=base) T wbe
 have vB:=qam T wa2 wO
 have wbh:=qat T wbi wr wR wO vB
 have wq:=q8K (P:=P) (w:=w) (base:=base) T waE
 have vC:=qak T wbn wq
 have vg:=ok_byw T wal vC wq
 have wA:=qc9 T wbg vg
 have waK:=q8J T waJ wA
 have wbr:=ok_row T wbu wA
 have w9:=ok_lis T waa wq
 have vI:=ok_due T wbq w9 wA
 have vQ:=qcf (P:=P) (w:=w) (base:=base) T wbf
 have wP:=qaj T waT vk vI
 refine F.ok (k:=12) q2h (fun vs H Q E h=>?_) (fun cdv A outer s H vs Q E hr h=>?_)
 ·obtain ⟨a,ns,rfl,_⟩:=h
  rfl
 ·obtain ⟨a,ns,rfl,hS,hl,k⟩:=h
  have big:=qF
  refine⟨_,(qg (qC (i:=1) q2h.nd rfl (Or.inl rfl) (qB wbh hr (by decide) rfl (qa (pv 0) qd)))
   (qg (q3w (qB wbr hr (by decide) rfl (qa (pv 1) (qa (qB wR hr (by decide) rfl (qa (pv 0) (qa qc (qa (qk qI (qB wr hr (by decide) rfl (qa (pv 0) (qa qc qd))) qc) qd)))) qd))) (q0v (n:=2) K rfl (qA (qr (i:=2) q2h.nd rfl (Or.inl rfl)) (qA (qr (i:=3) q2h.nd rfl (Or.inl rfl)) q0u))))
   (qg (qC (i:=4) q2h.nd rfl (Or.inl rfl) (qB waK hr (by decide) rfl (qa (pv 1) (qa (pv 3) (qa qc qd)))))
   (qg (qO (PW.pt (q2O (q2k (q0J (qB wP hr (by decide) rfl (qa (pv 1) (qa (pv 2) (qa (pv 4) qd)))))) (q2j (q2k (q0J (qB wP hr (by decide) rfl (qa (pv 1) (qa (q0p qd) (qa (q0p qd) qd))))))))) (qi (qp q1D)) qy)
   (qg (qC (i:=5) q2h.nd rfl (Or.inl rfl) (qk qU (qB wr hr (by decide) rfl (qa (pv 0) (qa qc qd))) qc))
   (qg (qO (qw qS (qk qI (pv 5) qc) qc (qu _)) (qg (qC (i:=6) q2h.nd rfl (Or.inr rfl) (qk q2H qc (qk qI (qk qU (pv 5) qc) (qD (lenK K) rfl T.ww q0i (qa (qm (qj K) (pv 1) qc (fun _ _=>rfl)) qd)))))
   (qg (qC (i:=4) q2h.nd rfl (Or.inl rfl) (qk q0z (pv 4) (q1o (q0L (N:=["_law_one","_law_bit"]) (own:=1) (caps:=[6]) ["_law_script","_law_cave_here","_law_row_here","_law_stand","_law_stands","_law_cell","_law_bit"] (qh q9U) (by walk_at "k")) rfl (q0b K (pv 4)) (fun _ _ _ _=>(qr (i:=0) (show List.Nodup (["_law_one","_law_bit"]:List Str) by walk_at "k") rfl (Or.inl rfl))) (fun _ _ _ _=>q1H) (fun _ _ _ _=>(qk (q0s K) (qk (q0s K) (qE (q0l K) (pv 0) qP (qH qc)) (qz (qa (qk q8D (qm (qj K) (pv 0) qc (fun _ _=>rfl)) (pv 1)) qd))) (qE (q0l K) (pv 0) (qH qc) qP))))))
   (qi (qO (q2k (q0J (qB wP hr (by decide) rfl (qa (pv 1) (qa (pv 2) (qa (pv 4) qd)))))) (qi (qp q1D)) qy)))) qy)
   (qg (q3w (qB vQ hr (by decide) rfl (qa (pv 1) (qa (pv 2) (qa (pv 4) (qa (qk qU (pv 5) qc) qd))))) (q0v (n:=2) K rfl (qA (qr (i:=2) q2h.nd rfl (Or.inl rfl)) (qA (qr (i:=4) q2h.nd rfl (Or.inl rfl)) q0u))))
   (qg (qO (q2k (q0J (qB wP hr (by decide) rfl (qa (pv 1) (qa (pv 2) (qa (pv 4) qd)))))) (qi (qp q1D)) qy)
   (qg (q3w (qB vQ hr (by decide) rfl (qa (pv 1) (qa (pv 2) (qa (pv 4) (qa (qB wr hr (by decide) rfl (qa (pv 0) (qa qc qd))) qd))))) (q0v (n:=2) K rfl (qA (qr (i:=2) q2h.nd rfl (Or.inl rfl)) (qA (qr (i:=4) q2h.nd rfl (Or.inl rfl)) q0u))))
   (qi (qp (qB wP hr (by decide) rfl (qa (pv 1) (qa (pv 2) (qa (pv 4) qd))))))))))))))),?_⟩
  walk_at "r"
  refine⟨a,ns,rfl,hS,hl,fun c C H1 s1 hC1 cv=>?_⟩
  have ok:=cv.ok
  walk_at "r"
  refine⟨a,ns,1,rfl,s1.seq hS,hl,by decide,?_⟩
  obtain⟨tot,etot⟩:=zas (qW (ns.getD 1 0) (n:=10) (by decide))
  have tot9:tot<=9:=by have:=q04 (ns.getD 1 0) (n:=10) (by decide);omega
  walk_at "r"
  refine⟨a,ns,40,tot,by rw[<-etot];rfl,s1.seq hS,hl,by decide,by decide,by omega,fun m ms H2 s2 hm0 hm ml mz=>?_⟩
  have hC2:=hC1.mono s2.ts
  walk_at "r"
  refine⟨c,m,C,ms,rfl,hC2,cv,hm,by omega,fun r R q ds x H3 s3 hr3 hR3 sm ld hq3 xok=>?_⟩
  have hC3:=hC2.mono s3.ts
  walk_at "r"
  refine⟨c,q,C,x,40,rfl,hC3,cv,hq3,xok,zn _,fun S row H4 s4 hS0 hrow nd rl r1 ro=>?_⟩
  have hC4:=hC3.mono s4.ts
  obtain⟨rs,hrs,rrs⟩:=hR3
  obtain⟨us,hus,rus⟩:=hrow
  have art:AllT H4 rs:=(show AllT H3 rs from qch rrs sm).mono s4.ts
  have aus:AllI H4 us:=fun p hp=>by
   obtain⟨y,hy,ha⟩:=Rows.mem rus hp
   exact⟨y.ns,ha,.inr rfl⟩
  have lr:rs.length<=10:=by rw[rrs.1];exact ld
  have lu:us.length<=55:=by rw[rus.1];exact rl
  replace hrs:=s4 _ _ hrs
  have s04:=s1.trans (s2.trans (s3.trans s4))
  walk_at "r"
  refine⟨c,R,S,C,rs,us,rfl,hC4,cv,hrs,art,by omega,hus,aus,by omega,fun H5 s5=>?_⟩
  walk_at "r"
  intro e1 he1
  generalize hG6:upd _ e1 _=H6
  have s6:=qT hG6 he1
  have e6:H6 e1=some (.lst (([]:List Addr).map V.ref)):=qV hG6
  walk_at "r"
  intro e2 he2
  generalize hG7:upd _ e2 _=H7
  have s7:=qT hG7 he2
  have e7:H7 e2=some (.lst (([]:List Addr).map V.ref)):=qV hG7
  have s47:=s5.trans (s6.trans s7)
  clear hG6 hG7
  walk_at "r"
  refine⟨c,e1,e2,C,[],[],rfl,hC4.mono s47.ts,cv,s7 _ _ e6,fun p hp=>absurd hp (by simp),by simp,e7,fun p hp=>absurd hp (by simp),by simp,fun H8 s8=>?_⟩
  have s48:=s47.trans s8
  have hC8:=hC4.mono s48.ts
  have s08:=s04.trans s48
  replace hrs:=s48 _ _ hrs
  replace hus:=s48 _ _ hus
  replace art:=art.mono s48.ts
  replace aus:=aus.mono s48.ts
  walk_at "r"
  refine⟨a,ns,1,rfl,s08.seq hS,hl,by decide,?_⟩
  walk_at "r"
  generalize ns.getD (Int.toNat 1) 0 / 10=cl
  rename_i zz hzz
  have fin:∀(v6:Option V) (S:Addr) (us:List Addr) (H9:Hp),Same H8 H9->H9 S=some (.lst (us.map V.ref))->AllI H9 us->us.length<=120->zz ⟨fun x H'=>Q V.non H',Q,fun _ _=>False,fun _ _=>False⟩ [some (.ref a),some (.ref c),some (.ref R),some (.ref q),some (.ref S),some (.int cl),v6] H9:=by
   intro v6 S us H9 s9 hus aus lu
   have hC9:=hC8.mono s9.ts
   walk_at "r"
   refine⟨c,R,S,C,rs,us,_,rfl,hC9,cv,s9 _ _ hrs,art.mono s9.ts,by omega,hus,aus,by omega,fun r' R' S' rs' us' H10 s10 hr10 hR' art' lr' hS' aus' lu'=>?_⟩
   have hC10:=hC9.mono s10.ts
   walk_at "r"
   refine⟨c,R',S',C,rs',us',rfl,hC10,cv,hR',art',by omega,hS',aus',by omega,fun H11 s11=>?_⟩
   have hC11:=hC10.mono s11.ts
   walk_at "r"
   refine⟨a,ns,2,rfl,(s08.trans (s9.trans (s10.trans s11))).seq hS,hl,by decide,?_⟩
   walk_at "r"
   refine⟨c,R',S',C,rs',us',_,rfl,hC11,cv,s11 _ _ hR',art'.mono s11.ts,by omega,s11 _ _ hS',aus'.mono s11.ts,by omega,fun r2 R2 S2 rs2 us2 H12 s12 hr12 hR2 art2 lr2 hS2 aus2 lu2=>?_⟩
   have hC12:=hC11.mono s12.ts
   walk_at "r"
   exact⟨c,R2,S2,C,rs2,us2,rfl,hC12,cv,hR2,art2,by omega,hS2,aus2,by omega,fun H13 s13=>k H13⟩
  clear hzz
  refine ifd (fun g=>?_) (fun g=>?_)
  rotate_left
  ·walk_at "r"
   exact fin none S us H8 (Same.refl _) hus aus (by omega)
  obtain⟨pw,pt,pl,pv',h0,h1,_⟩:=hC8.ex
  obtain⟨wv,hw,hwl,hwg⟩:=h1.get
  have cw:=cv.w
  have okw:=ok.wl
  have b0:=qW (cl / 4) (n:=(wv.length:Int)) (by omega)
  have b1:=q04 (cl / 4) (n:=(wv.length:Int)) (by omega)
  walk_at "r"
  generalize (1:Int)*2 ^ (cl / 4 % (wv.length:Int)).toNat=bt
  intro B hB
  refine q1f (us.map V.ref) (fun j σ H'=>∃(v0:Option V) (bs:List Addr),σ=[v0,some (.int bt)]/\Same H8 H'/\H' B=some (.lst (bs.map V.ref))/\AllI H' bs/\bs.length=j) ⟨none,[],rfl,Same.upd hB,qe,fun p hp=>absurd hp (by simp),rfl⟩ ?_ ?_ ?_
  ·rintro j σ H' ⟨_,_,rfl,s9,_⟩
   exact SqL.of (s9 _ _ hus)
  ·rintro j z σ H9 hz ⟨v0,bs,rfl,s9,hb9,ab,lb⟩
   have hj:j<us.length:=by have:=(yA hz).1;rw[yC] at this;exact this
   have ez:z=V.ref us[j]:=by rw[zN,yB hj] at hz;exact(zC hz).symm
   subst ez
   have hj':j<row.length:=by rw[<-rus.1];exact hj
   have hy:SAt H9 us[j] row[j]:=SAt.mono (s48.trans s9).ts (rus.2 j us[j] row[j] (yB hj) (yB hj'))
   generalize row[j]=sd at hy
   generalize us[j]=p at hy
   have q9:H9 p=some (.tup [.int sd.rm,.int sd.tk,.int sd.op,.int sd.b,.int sd.wt]):=hy
   walk_at "r"
   refine q2i [sd.rm,sd.tk] (st:=sd.ns) hy rfl fun t1 H10 s10 ht1=>?_
   have q10:=s10 _ _ q9
   walk_at "r"
   intro t2 ht2
   have s11:=Same.upd (o:= .tup [.int (Builtin.bitXor sd.op bt)]) ht2
   have t21:upd H10 t2 (.tup [.int (Builtin.bitXor sd.op bt)]) t2=some (.tup (([Builtin.bitXor sd.op bt]:List Int).map V.int)):=qe
   generalize upd H10 t2 (.tup [.int (Builtin.bitXor sd.op bt)])=H11 at s11 t21 ⊢
   refine q1m (s11 _ _ ht1) t21 (by simp) (by simp) (by simp) fun t3 H12 s12 ht3=>?_
   walk_at "r"
   refine q2i [sd.b,sd.wt] (st:=sd.ns) ((s10.trans (s11.trans s12)) _ _ hy) rfl fun t4 H13 s13 ht4=>?_
   refine q1m (s13 _ _ ht3) ht4 (by simp) (by simp) (by simp) fun t5 H14 s14 ht5=>?_
   have s914:=s10.trans (s11.trans (s12.trans (s13.trans s14)))
   have b14:=s914 _ _ hb9
   have ts:=q0m.lst (o:= .lst (bs.map V.ref++[.ref t5])) b14
   refine⟨_,b14,by rw[yC];omega,_,bs++[t5],rfl,(s9.trans s914).put hB,by rw[qe];simp,?_,by simp[lb]⟩
   exact((ab.mono s914.ts).app (AllI.one ht5 (.inr rfl))).mono ts
  ·rintro σ H9 ⟨v0,bs,rfl,s9,hb9,ab,lb⟩
   rw[yC] at lb
   walk_at "r"
   refine q0t (s9 _ _ hus) hb9 (by omega) fun S9 H10 s10 hS9=>?_
   have a10:=((aus.mono s9.ts).app ab).mono s10.ts
   walk_at "r"
   refine⟨c,R,S9,C,rs,us++bs,rfl,hC8.mono (s9.trans s10).ts,cv,(s9.trans s10) _ _ hrs,art.mono (s9.trans s10).ts,by omega,hS9,a10,by rw[zx];omega,fun H11 s11=>?_⟩
   walk_at "r"
   exact fin _ S9 (us++bs) H11 (s9.trans (s10.trans s11)) (s11 _ _ hS9) (a10.mono s11.ts) (by rw[zx];omega)
end
section
variable {K:W.Frag}{h:Heap}{mg:Str->Option Value}{x m q:Str}{C:Addr}{st:Stmt}{ps:List Str}{ds:List Value}
inductive GA (K:W.Frag)(x:Str)(st:Stmt):Prop
 |mk {f:Addr} {od an:Option Addr} {sl:Array (Option Value)} {oc kV dc pm cd ct:Value}:W.nsIn K mainGlobals x=some (some (.ref f))->K.lookup f=some ⟨oc,od,.func (W.fnOf x x (q0I st) (q0c st) (qh st) .none kV dc pm an cd ct),sl⟩->W.codeIn K cd x=true->W.keepIn K (.ref f)=true->GA K x st
theorem GA.laid (X:K.In h)(G:h.Ns mainGlobals mg)(g:GA K x st)(hb:∀(kV doc pm:Value) (an:Option Addr) (cdv ct:Value) (us:List Value),us.length=ps.length->bindArgs (W.fnOf x x (q0I st) (q0c st) (qh st) .none kV doc pm an cdv ct) ⟨us,[]⟩=pure (ps.zip us)):Laid K mg x st ps:=let ⟨a,l,c,k⟩:=g;qcs X G a l c k hb
inductive MA (K:W.Frag)(C:Addr)(m q:Str)(st:Stmt):Prop
 |mk {f:Addr} {od an:Option Addr} {sl:Array (Option Value)} {oc kV dc pm cd ct:Value}:W.findIn K (.ref C) m=some (some (.ref f))->W.isFn K (.ref f)=true->K.lookup f=some ⟨oc,od,.func (W.fnOf m q (q0I st) (q0c st) (qh st) .none kV dc pm an cd ct),sl⟩->W.codeIn K cd q=true->W.keepIn K (.ref f)=true->MA K C m q st
theorem MA.laid (g:MA K C m q st)(hb:∀(kV doc pm:Value) (an:Option Addr) (cdv ct:Value) (us:List Value),us.length=ps.length->bindArgs (W.fnOf m q (q0I st) (q0c st) (qh st) .none kV doc pm an cdv ct) ⟨us,[]⟩=pure (ps.zip us)):LaidM K C m q st ps:=let ⟨a,i,l,c,k⟩:=g;⟨_,_,q2q l c k,⟨a,i,k⟩,(q2q l c k).binds hb⟩
inductive IA (K:W.Frag)(C:Addr)(q:Str)(st:Stmt):Prop
 |mk {f:Addr} {od an:Option Addr} {sl:Array (Option Value)} {oc kV dc pm cd ct:Value}:W.makesIn K C=true->W.keepIn K (.ref C)=true->W.findIn K (.ref C) "__init__"=some (some (.ref f))->W.isFn K (.ref f)=true->K.lookup f=some ⟨oc,od,.func (W.fnOf "__init__" q (q0I st) (q0c st) (qh st) .none kV dc pm an cd ct),sl⟩->W.codeIn K cd q=true->W.keepIn K (.ref f)=true->IA K C q st
theorem IA.laid (g:IA K C q st)(hx:mg x=some (.ref C))(hb:∀(kV doc pm:Value) (an:Option Addr) (cdv ct:Value) (us:List Value),us.length=ps.length->bindArgs (W.fnOf "__init__" q (q0I st) (q0c st) (qh st) .none kV doc pm an cdv ct) ⟨us,[]⟩=pure (ps.zip us)):LaidI K mg x C q st ps:=let ⟨z,y,a,i,l,c,k⟩:=g;⟨⟨_,_,q2q l c k,⟨z,a,i,y⟩,(q2q l c k).binds hb⟩,hx⟩
inductive CA (K:W.Frag)(C:Addr)(m q:Str)(st:Stmt):Prop
 |mk {f:Addr} {od an:Option Addr} {sl:Array (Option Value)} {oc kV dc pm cd ct:Value}:W.readsIn K C (.type "type")=true->W.findCls K (.ref C) (.type "type") m=some (.val (.ref f))->W.specialIn K (.ref C) "__getattribute__"=some (some (.builtin "type.__getattribute__"))->K.lookup f=some ⟨oc,od,.func (W.fnOf m q (q0I st) (q0c st) (qh st) .none kV dc pm an cd ct),sl⟩->W.codeIn K cd q=true->W.keepIn K (.ref f)=true->CA K C m q st
theorem CA.laid (g:CA K C m q st)(hx:mg x=some (.ref C))(hb:∀(kV doc pm:Value) (an:Option Addr) (cdv ct:Value) (us:List Value),us.length=ps.length->bindArgs (W.fnOf m q (q0I st) (q0c st) (qh st) .none kV doc pm an cdv ct) ⟨us,[]⟩=pure (ps.zip us)):LaidC K mg x m q st ps:=let ⟨r,y,z,l,c,k⟩:=g;⟨C,_,_,hx,q2q l c k,⟨r,y,z,k⟩,(q2q l c k).binds hb⟩
end
local macro_rules| `(tactic| walk_at "b1")=> `(tactic| exact fun _ _ _ _ _ _=>blS fun _=>bl0 rfl)
local macro_rules| `(tactic| walk_at "b2")=> `(tactic| exact fun _ _ _ _ _ _=>blS fun _=>blS fun _=>bl0 rfl)
local macro_rules| `(tactic| walk_at "b3")=> `(tactic| exact fun _ _ _ _ _ _=>blS fun _=>blS fun _=>blS fun _=>bl0 rfl)
local macro_rules| `(tactic| walk_at "b4")=> `(tactic| exact fun _ _ _ _ _ _=>blS fun _=>blS fun _=>blS fun _=>blS fun _=>bl0 rfl)
local macro_rules| `(tactic| walk_at "b5")=> `(tactic| exact fun _ _ _ _ _ _=>blS fun _=>blS fun _=>blS fun _=>blS fun _=>blS fun _=>bl0 rfl)
theorem all_mk {l:W.OpenLaw}{w:World}{K:W.Frag}{h:Heap}{mg:Str->Option Value}{fa vX wN wV wU vi wT wL vZ wS wE wF wH wu:Addr}(X:K.In h)(G:h.Ns mainGlobals mg)(hfa:mg "law"=some (.ref fa))
  (T0:TxtR (fun x v=>W.nsIn K mainGlobals x=some (some v)) (fun x=>W.nsIn K mainGlobals x=some none) (Cs.mk vX wN wV wU vi wT wL vZ wS wE wF wH wu))
  (TC:Tcl K (Cs.mk vX wN wV wU vi wT wL vZ wS wE wF wH wu))
  {wx vq wc:Addr}
  (z0:W.nsIn K mainGlobals "DelveError"=some (some (.ref wx)))
  (z1:W.nsIn K mainGlobals "NoCellar"=some (some (.ref vq)))
  (z2:W.nsIn K mainGlobals "NoDeed"=some (some (.ref wc)))
  (z3:W.excIn K vq [.type "ValueError",.type "Exception",.type "BaseException",.type "object"] "ValueError.__new__"=true)
  (z4:W.exmOne K (.ref vq) (.ref wc)=some false)
  (z5:W.exmOne K (.ref wc) (.ref wc)=some true)
  {wbG:Option Addr}{wbB:Str}{wbK:List Value}{wbE:Addr}{wbM:Str}{wbN:List Str}{wbI:List Value}{wbz:Bool}{wbp:Option Bool}{wbQ:Option Value}{wbL:Option Value}{wbH:Option Value}{wbR:Option Value}{wbC:Option Value}
  (z6:K.lookup wc=some ⟨.type "type",wbG,.cls ⟨wbB,wbK,[.ref wc,.ref wx,.type "ValueError",.type "Exception",.type "BaseException",.type "object"],wbE,wbM,true,wbN,wbI,wbz,wbp,false⟩,#[wbQ,wbL,wbH,wbR,some (.builtin "ValueError.__new__"),wbC]⟩)
  (z7:W.keepIn K (.ref wc)=true)
  (z8:W.findIn K (.ref wc) "__setattr__"=some (some (.builtin "object.__setattr__")))
  (z9:W.findIn K (.ref wc) "stand"=some none)
  (za:W.findIn K (.ref wc) "deed"=some none)
  {waL:Option Addr}{waD:Str}{waF:List Value}{wat:Addr}{was:Str}{waG:Bool}{waC:List Str}{waI:List Value}{waH:Bool}{wam:Option Bool}{waj:Bool}{waA:Array (Option Value)}
  (zb:K.lookup wx=some ⟨.type "type",waL,.cls ⟨waD,waF,[.ref wx,.type "ValueError",.type "Exception",.type "BaseException",.type "object"],wat,was,waG,waC,waI,waH,wam,waj⟩,waA⟩)
  (zc:W.excIn K wx [.type "ValueError",.type "Exception",.type "BaseException",.type "object"] "ValueError.__new__"=true)
  (zd:W.readsIn K wx (.type "type")=true)
  (ze:W.findCls K (.ref wx) (.type "type") "__init__"=some (.val (.builtin "ValueError.__init__")))
  (zf:W.specialIn K (.ref wx) "__getattribute__"=some (some (.builtin "type.__getattribute__")))
  (zg:W.findIn K (.ref wc) "__getattribute__"=some (some (.builtin "BaseException.__getattribute__")))
  (zh:W.findIn K (.ref wc) "__getattr__"=some none)
  (zi:W.findIn K (.ref wc) "__class__"=some (some (.builtin "object.__class__")))
  (zj:W.mroIn K wc (.type "object")=some true)
  (zk:W.mroIn K wc (.type "BaseException")=some true)
  (h1:GA K "_wall" q8g)
  (h2:GA K "within" q3E)
  (h3:GA K "has_bit" q2Y)
  (h4:GA K "changed" q31)
  (h5:GA K "gate_of" q2Z)
  (h6:GA K "start" q4N)
  (h7:GA K "held" q6S)
  (h8:GA K "is_stand" q2u)
  (h9:GA K "has_bits_of" q0Y)
  (h10:GA K "thing_bits" q1s)
  (h11:GA K "door_bits" q1l)
  (h12:GA K "door_kinds" q0U)
  (h13:GA K "can_enter" q1L)
  (h14:GA K "deed_of" q30)
  (h15:GA K "behind" q3G)
  (h16:GA K "leads" q3P)
  (h17:GA K "fit_deeds" q1k)
  (h18:GA K "all_goes" q1F)
  (h19:GA K "all_deeds" q0n)
  (h20:GA K "shows_stuck" q0H)
  (h21:GA K "end_of" q3F)
  (h22:GA K "stays_among" q0G)
  (h23:GA K "_law_cell_at" q0P)
  (h24:GA K "_law_numbers" q0O)
  (h25:GA K "_law_gate" q1O)
  (h26:GA K "_law_great" q0V)
  (h27:GA K "_law_cave" q0M)
  (h28:GA K "_law_amount" q1a)
  (h29:GA K "_law_lets" q1N)
  (h30:GA K "_law_by_ways" q0Q)
  (h31:GA K "_law_next" q1M)
  (h32:GA K "_law_coming" q0Z)
  (h33:GA K "_law_row" q2v)
  (h34:GA K "_law_is_stand" q0o)
  (h35:GA K "_law_due" q1h)
  (h36:GA K "_law_bent" q1P)
  (h37:GA K "_law_right" q1t)
  (h38:GA K "law" q9U)
  (h39:MA K wN "lets" "Plain.lets" q1u)
  (h40:MA K wN "told" "Gate.told" qZ)
  (h41:IA K wN "Plain.__init__" q1v)
  (h42:MA K wV "lets" "Door.lets" q2a)
  (h43:MA K wV "told" "Gate.told" qZ)
  (h44:IA K wV "Door.__init__" q2b)
  (h45:MA K wU "lets" "Need.lets" q27)
  (h46:MA K wU "told" "Gate.told" qZ)
  (h47:IA K wU "Need.__init__" q28)
  (h48:MA K vi "lets" "Bar.lets" q2w)
  (h49:MA K vi "told" "Gate.told" qZ)
  (h50:IA K vi "Bar.__init__" q2x)
  (h51:MA K wT "lets" "Wade.lets" q1Q)
  (h52:MA K wT "told" "Gate.told" qZ)
  (h53:IA K wT "Wade.__init__" q1R)
  (h54:MA K wL "lets" "Float.lets" q1w)
  (h55:MA K wL "told" "Gate.told" qZ)
  (h56:IA K wL "Float.__init__" q1x)
  (h57:MA K wS "can" "Deed.can" q09)
  (h58:MA K wS "done" "Go.done" q34)
  (h59:MA K wS "fits" "Go.fits" q33)
  (h60:MA K wS "own_part" "Deed.own_part" qJ)
  (h61:MA K wS "told" "Deed.told" q00)
  (h62:IA K wS "Go.__init__" q32)
  (h63:MA K wE "can" "Deed.can" q09)
  (h64:MA K wE "done" "Pull.done" q26)
  (h65:MA K wE "fits" "Pull.fits" q1Z)
  (h66:MA K wE "own_part" "Deed.own_part" qJ)
  (h67:MA K wE "told" "Deed.told" q00)
  (h68:IA K wE "Pull.__init__" q1Y)
  (h69:MA K wF "can" "Deed.can" q09)
  (h70:MA K wF "done" "Take.done" q1X)
  (h71:MA K wF "fits" "Take.fits" q1W)
  (h72:MA K wF "own_part" "Deed.own_part" qJ)
  (h73:MA K wF "told" "Deed.told" q00)
  (h74:IA K wF "Take.__init__" q1V)
  (h75:MA K wH "can" "Deed.can" q09)
  (h76:MA K wH "done" "Turn.done" q1U)
  (h77:MA K wH "fits" "Turn.fits" q1T)
  (h78:MA K wH "own_part" "Deed.own_part" qJ)
  (h79:MA K wH "told" "Deed.told" q00)
  (h80:IA K wH "Turn.__init__" q1S)
  (h81:MA K wu "can" "Deed.can" q09)
  (h82:MA K wu "done" "Unlock.done" q1d)
  (h83:MA K wu "fits" "Unlock.fits" q1c)
  (h84:MA K wu "own_part" "Deed.own_part" qJ)
  (h85:MA K wu "told" "Deed.told" q00)
  (h86:IA K wu "Unlock.__init__" q1b)
  (h87:MA K wc "__init__" "NoDeed.__init__" q1e)
  (h88:CA K vZ "__init__" "Deed.__init__" q2c)
  (h89:CA K vX "__init__" "Gate.__init__" q29):
  ∃fd:FuncData,(∀(s:Shared) (v:Value),BindsTo s fd ⟨[v],[]⟩ [("_law_script",v)])/\∀base:Heap,K.In base->base.Ns mainGlobals mg->FnOk l.prog w K mg base CX0 13 fa fd ["_law_script"] (q9P K):=by
 obtain⟨al,ll,cl,kl⟩:=h38
 have e:=hfa.symm.trans (W.mg_of X G al)
 cases e
 have T:Txt mg (Cs.mk vX wN wV wU vi wT wL vZ wS wE wF wH wu):=T0.up (fun _ _ z=>W.mg_of X G z) fun _ z=>W.mg_none_of X G z
 have XL_NoDeed:ExcL K wc wx:=⟨⟨_,_,_,_,_,_,_,_,_,_,_,_,_,_,z6⟩,⟨_,_,_,_,_,_,_,_,_,_,_,_,zb⟩,zc⟩
 have TX:Tx K mg (Xs.mk wx vq wc):=⟨W.mg_of X G z0,W.mg_of X G z1,W.mg_of X G z2,⟨_,_,_,zb8,z3,rfl⟩,z4,z5,⟨zg,zh,zi,zj,zk⟩,XL_NoDeed.f z8,⟨_,XL_NoDeed⟩,z9,za,⟨zd,ze,zf⟩⟩
 exact⟨_,fun s v=> .of_eq rfl,fun base _ _=>ok_law (q2q ll cl kl) T TC TX (h1.laid X G (by walk_at "b1")) (h2.laid X G (by walk_at "b3")) (h3.laid X G (by walk_at "b2")) (h4.laid X G (by walk_at "b3")) (h5.laid X G (by walk_at "b1")) (h6.laid X G (by walk_at "b1")) (h7.laid X G (by walk_at "b2")) (h8.laid X G (by walk_at "b2")) (h9.laid X G (by walk_at "b2")) (h10.laid X G (by walk_at "b1")) (h11.laid X G (by walk_at "b1")) (h12.laid X G (by walk_at "b1")) (h13.laid X G (by walk_at "b2")) (h14.laid X G (by walk_at "b1")) (h15.laid X G (by walk_at "b3")) (h16.laid X G (by walk_at "b2")) (h17.laid X G (by walk_at "b2")) (h18.laid X G (by walk_at "b1")) (h19.laid X G (by walk_at "b1")) (h20.laid X G (by walk_at "b3")) (h21.laid X G (by walk_at "b2")) (h22.laid X G (by walk_at "b3")) (h23.laid X G (by walk_at "b2")) (h24.laid X G (by walk_at "b3")) (h25.laid X G (by walk_at "b2")) (h26.laid X G (by walk_at "b1")) (h27.laid X G (by walk_at "b1")) (h28.laid X G (by walk_at "b3")) (h29.laid X G (by walk_at "b3")) (h30.laid X G (by walk_at "b2")) (h31.laid X G (by walk_at "b2")) (h32.laid X G (by walk_at "b3")) (h33.laid X G (by walk_at "b2")) (h34.laid X G (by walk_at "b2")) (h35.laid X G (by walk_at "b3")) (h36.laid X G (by walk_at "b4")) (h37.laid X G (by walk_at "b3")) (h39.laid (by walk_at "b5")) (h40.laid (by walk_at "b1")) (h41.laid T.c_Plain (by walk_at "b1")) (h42.laid (by walk_at "b5")) (h43.laid (by walk_at "b1")) (h44.laid T.c_Door (by walk_at "b2")) (h45.laid (by walk_at "b5")) (h46.laid (by walk_at "b1")) (h47.laid T.c_Need (by walk_at "b2")) (h48.laid (by walk_at "b5")) (h49.laid (by walk_at "b1")) (h50.laid T.c_Bar (by walk_at "b2")) (h51.laid (by walk_at "b5")) (h52.laid (by walk_at "b1")) (h53.laid T.c_Wade (by walk_at "b3")) (h54.laid (by walk_at "b5")) (h55.laid (by walk_at "b1")) (h56.laid T.c_Float (by walk_at "b2")) (h57.laid (by walk_at "b3")) (h58.laid (by walk_at "b3")) (h59.laid (by walk_at "b3")) (h60.laid (by walk_at "b2")) (h61.laid (by walk_at "b1")) (h62.laid T.c_Go (by walk_at "b2")) (h63.laid (by walk_at "b3")) (h64.laid (by walk_at "b3")) (h65.laid (by walk_at "b3")) (h66.laid (by walk_at "b2")) (h67.laid (by walk_at "b1")) (h68.laid T.c_Pull (by walk_at "b2")) (h69.laid (by walk_at "b3")) (h70.laid (by walk_at "b3")) (h71.laid (by walk_at "b3")) (h72.laid (by walk_at "b2")) (h73.laid (by walk_at "b1")) (h74.laid T.c_Take (by walk_at "b2")) (h75.laid (by walk_at "b3")) (h76.laid (by walk_at "b3")) (h77.laid (by walk_at "b3")) (h78.laid (by walk_at "b2")) (h79.laid (by walk_at "b1")) (h80.laid T.c_Turn (by walk_at "b2")) (h81.laid (by walk_at "b3")) (h82.laid (by walk_at "b3")) (h83.laid (by walk_at "b3")) (h84.laid (by walk_at "b2")) (h85.laid (by walk_at "b1")) (h86.laid T.c_Unlock (by walk_at "b2")) (let ⟨a,i,l,cc,k⟩:=h87;⟨⟨_,_,q2q l cc k,⟨TX.wao,a,i,z7⟩,(q2q l cc k).binds (by walk_at "b3")⟩,TX.wap⟩) (h88.laid T.c_Deed (by walk_at "b4")) (h89.laid T.c_Gate (by walk_at "b3"))⟩
theorem walk {l:W.OpenLaw}{q:Program}{loose:List Str}{XP:(Str->Option Value)->Heap->Prop}{YP:World->Heap->Prop}{d:DefRec}{K:Params->W.Frag}(hn:l.most=some 63)(hdf:d.params.defaults=[])
  (hY:∀(w:World) (h:Heap),YP w h->(K w.params).In h)
  (F:∀(w:World) (mg:Str->Option Value) (fa:Addr) (h:Heap),(K w.params).In h->h.Ns mainGlobals mg->mg d.name=some (.ref fa)->
   ∃fd:FuncData,(∀(s:Shared) (u:Value),BindsTo s fd ⟨[u],[]⟩ [("_law_script",u)])/\∀base:Heap,(K w.params).In base->base.Ns mainGlobals mg->FnOk l.prog w (K w.params) mg base CX0 13 fa fd ["_law_script"] (q9P (K w.params))):
  W.WalkO q loose XP YP l.row.toRowW d [] (fun f vs=>PySem.call f vs):=
 L2.qbt (n:=63) (k:=13) (x:="_law_script") (CX:=fun _=>CX0) (sp:=fun w=>q9P (K w.params)) hn (by decide) hdf ⟨rfl,by decide,by decide,rfl⟩ hY F (fun _ _ a ns hl _ hS=>⟨a,ns,rfl,hS,hl,fun _=>rfl⟩) fun _ _ _ _ _ z=>z
end Mine
open PySem PySem.W PyProof.Rows
set_option maxRecDepth 100000 in
set_option maxHeartbeats 0 in
theorem PySem.Challenge.cw_delve_k33_stuck_shown_holds : PySem.Challenge.rw_delve_k33_stuck_shown.Holds := by
 w_on;o_law;k_head;(case hw=>w_witness2)
 k_fill
 refine Mine.walk (l:=PySem.Challenge.rw_delve_k33_stuck_shown) rfl rfl (fun w h Y=>PySem.W.kIn_of Y) ?F
 case F=>
  intro w mg fa h KX G hmg
  refine' Mine.all_mk KX G hmg ?T ?C ?z0 ?z1 ?z2 ?z3 ?z4 ?z5 ?z6 ?z7 ?z8 ?z9 ?za ?zb ?zc ?zd ?ze ?zf ?zg ?zh ?zi ?zj ?zk ?_ ?_ ?_ ?_ ?_ ?_ ?_ ?_ ?_ ?_ ?_ ?_ ?_ ?_ ?_ ?_ ?_ ?_ ?_ ?_ ?_ ?_ ?_ ?_ ?_ ?_ ?_ ?_ ?_ ?_ ?_ ?_ ?_ ?_ ?_ ?_ ?_ ?_ ?_ ?_ ?_ ?_ ?_ ?_ ?_ ?_ ?_ ?_ ?_ ?_ ?_ ?_ ?_ ?_ ?_ ?_ ?_ ?_ ?_ ?_ ?_ ?_ ?_ ?_ ?_ ?_ ?_ ?_ ?_ ?_ ?_ ?_ ?_ ?_ ?_ ?_ ?_ ?_ ?_ ?_ ?_ ?_ ?_ ?_ ?_ ?_ ?_ ?_ ?_
  (case z0=>k_is)
  (case z1=>k_is)
  (case z2=>k_is)
  (case z3=>k_exc)
  (case z4=>kts_exm)
  (case z5=>kts_exm)
  (case z6=>k_is)
  (case z7=>k_is)
  (case z8=>k_is)
  (case z9=>k_is)
  (case za=>k_is)
  (case zb=>k_is)
  (case zc=>k_exc)
  (case zd=>k_is)
  (case ze=>k_is)
  (case zf=>k_is)
  (case zg=>k_is)
  (case zh=>k_is)
  (case zi=>k_is)
  (case zj=>k_is)
  (case zk=>k_is)
  case T=>constructor<;>(try dsimp only)<;>first|k_is|exact⟨_,by k_is⟩
  case C=>constructor<;>(try dsimp only)<;>first|exact⟨by k_is,by k_is,by k_is,by k_is⟩|(unfold L2.qK;k_is)
  all_goals try dsimp only
  all_goals first|exact Mine.GA.mk (by k_is) (by k_is) (by k_is) (by k_is)|exact Mine.MA.mk (by k_is) (by k_is) (by k_is) (by k_is) (by k_is)|exact Mine.IA.mk (by k_is) (by k_is) (by k_is) (by k_is) (by k_is) (by k_is) (by k_is)|exact Mine.CA.mk (by k_is) (by k_is) (by k_is) (by k_is) (by k_is) (by k_is)|exact Mine.DA.mk (by k_is) (by k_is) (by k_is) (by k_is) (by k_is)|exact⟨_,Mine.DA.mk (by k_is) (by k_is) (by k_is) (by k_is) (by k_is)⟩|exact⟨_,_,Mine.DA.mk (by k_is) (by k_is) (by k_is) (by k_is) (by k_is)⟩
